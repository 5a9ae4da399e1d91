/-
  The laws as plain functions. No condition.
-/
import Derived.KernelRfl
import Derived.Test.YtekgmimingolbaaGreatx2T
import Derived.Test.YtekgmimingolbaaGreatx2OpenU
namespace Go.Proofs.YtekgmimingolbaaGreat
open Go Go.RowKit
def zbp (x:ze):Prop:=(x.Name.length<=140737488351232/\x.Name.length<=1048576)/\((Lit.int .i64 x.Number).wf=true)/\((Lit.int .i64 x.Kind).wf=true)/\(True)/\(True)/\((Lit.int .i64 x.Of).wf=true)
theorem zNn:zjs Tryz.prog 65 zf zbp:=zsl (S:=fun l=>∃y0 l0,l=Rp.str.lv y0++l0/\(y0.length<=140737488351232/\y0.length<=1048576)/\∃y1 l1,l0=(Rp.int .i64).lv y1++l1/\((Lit.int .i64 y1).wf=true)/\∃y2 l2,l1=(Rp.int .i64).lv y2++l2/\((Lit.int .i64 y2).wf=true)/\∃y3 l3,l2=Rp.bool.lv y3++l3/\(True)/\∃y4 l4,l3=Rp.bool.lv y4++l4/\(True)/\∃y5 l5,l4=(Rp.int .i64).lv y5++l5/\((Lit.int .i64 y5).wf=true)/\l5=[]) Tryz.underlying65 (by kernel_rfl) (by intro n;refine zgk (r:=Rp.str) (W:=fun x=>x.length<=140737488351232/\x.length<=1048576) ((fun _=>zue Tryz.underlying9) n) rfl (by kernel_rfl) ?_;refine zgk (r:=(Rp.int .i64)) (W:=fun x=>(Lit.int .i64 x).wf=true) ((fun _=>zma Tryz.underlying3) n) rfl (by kernel_rfl) ?_;refine zgk (r:=(Rp.int .i64)) (W:=fun x=>(Lit.int .i64 x).wf=true) ((fun _=>zma Tryz.underlying3) n) rfl (by kernel_rfl) ?_;refine zgk (r:=Rp.bool) (W:=fun x=>True) ((fun _=>zwJ Tryz.underlying4) n) rfl (by kernel_rfl) ?_;refine zgk (r:=Rp.bool) (W:=fun x=>True) ((fun _=>zwJ Tryz.underlying4) n) rfl (by kernel_rfl) ?_;refine zgk (r:=(Rp.int .i64)) (W:=fun x=>(Lit.int .i64 x).wf=true) ((fun _=>zma Tryz.underlying3) n) rfl (by kernel_rfl) ?_;exact @zuN _ _ _) (by rintro _ ⟨y0,l0,rfl,w0,y1,l1,rfl,w1,y2,l2,rfl,w2,y3,l3,rfl,w3,y4,l4,rfl,w4,y5,l5,rfl,w5,rfl⟩;exact ⟨⟨y0,y1,y2,y3,y4,y5⟩,rfl,w0,w1,w2,w3,w4,w5⟩)
theorem zNo:zjs Tryz.prog 80 (Rp.list zf) (fun x=>x.length*48<=140737488351232/\x.length<=1048576/\∀x'∈x,zbp x'):=zlv Tryz.underlying80 (by kernel_rfl) (by kernel_rfl) zNn
def zll (x:zg):Prop:=(x.Name.length<=140737488351232/\x.Name.length<=1048576)/\(x.Fields.length*48<=140737488351232/\x.Fields.length<=1048576/\∀x_Fields'∈x.Fields,zbp x_Fields')
theorem zNp:zjs Tryz.prog 82 zh zll:=zsl (S:=fun l=>∃y0 l0,l=Rp.str.lv y0++l0/\(y0.length<=140737488351232/\y0.length<=1048576)/\∃y1 l1,l0=(Rp.list zf).lv y1++l1/\(y1.length*48<=140737488351232/\y1.length<=1048576/\∀y1'∈y1,zbp y1')/\l1=[]) Tryz.underlying82 (by kernel_rfl) (by intro n;refine zgk (r:=Rp.str) (W:=fun x=>x.length<=140737488351232/\x.length<=1048576) ((fun _=>zue Tryz.underlying9) n) rfl (by kernel_rfl) ?_;refine zgk (r:=(Rp.list zf)) (W:=fun x=>x.length*48<=140737488351232/\x.length<=1048576/\∀x'∈x,zbp x') (zNo n) rfl (by kernel_rfl) ?_;exact @zuN _ _ _) (by rintro _ ⟨y0,l0,rfl,w0,y1,l1,rfl,w1,rfl⟩;exact ⟨⟨y0,y1⟩,rfl,w0,w1⟩)
theorem zNi:zjs Tryz.prog 23 (Rp.list zh) (fun x=>x.length*40<=140737488351232/\x.length<=1048576/\∀x'∈x,zll x'):=zlv Tryz.underlying23 (by kernel_rfl) (by kernel_rfl) zNp
mutual
def zcR:zd->Prop
  | ⟨x0,x1⟩=>(x0.length*80<=140737488351232/\x0.length<=1048576/\zcE x0)/\(x1.length*16<=140737488351232/\x1.length<=1048576/\∀x1'∈x1,x1'.length<=140737488351232/\x1'.length<=1048576)
def zfE:List zd->Prop
  | []=>True
  | x::l=>zcR x/\zfE l
def zaK:zb->Prop
  | ⟨x0,x1,x2,x3⟩=>((Lit.int .i64 x0).wf=true)/\(x1.length*8<=140737488351232/\x1.length<=1048576/\∀x1'∈x1,(Lit.int .u64 x1').wf=true)/\(x2.length*16<=140737488351232/\x2.length<=1048576/\∀x2'∈x2,x2'.length<=140737488351232/\x2'.length<=1048576)/\(x3.length*48<=140737488351232/\x3.length<=1048576/\zfE x3)
def zcE:List zb->Prop
  | []=>True
  | x::l=>zaK x/\zcE l
end
theorem zki:∀(l:List zd),zfE l↔∀x∈l,zcR x
  | []=>by simp [zfE]
  | x::l=>by rw [zfE,zki l];simp
theorem znA (x:zd):zcR x↔(x.Values.length*80<=140737488351232/\x.Values.length<=1048576/\zcE x.Values)/\(x.Unknown.length*16<=140737488351232/\x.Unknown.length<=1048576/\∀x_Unknown'∈x.Unknown,x_Unknown'.length<=140737488351232/\x_Unknown'.length<=1048576):=by cases x;simp only [zcR]
theorem zgs:∀(l:List zb),zcE l↔∀x∈l,zaK x
  | []=>by simp [zcE]
  | x::l=>by rw [zcE,zgs l];simp
theorem zjt (x:zb):zaK x↔((Lit.int .i64 x.Number).wf=true)/\(x.Words.length*8<=140737488351232/\x.Words.length<=1048576/\∀x_Words'∈x.Words,(Lit.int .u64 x_Words').wf=true)/\(x.Texts.length*16<=140737488351232/\x.Texts.length<=1048576/\∀x_Texts'∈x.Texts,x_Texts'.length<=140737488351232/\x_Texts'.length<=1048576)/\(x.Subs.length*48<=140737488351232/\x.Subs.length<=1048576/\zfE x.Subs):=by cases x;simp only [zaK]
theorem zLW:zjs Tryz.prog 25 (Rp.list Rp.str) (fun x=>x.length*16<=140737488351232/\x.length<=1048576/\∀x'∈x,x'.length<=140737488351232/\x'.length<=1048576):=zlv Tryz.underlying25 (by kernel_rfl) (by kernel_rfl) (fun _=>zue Tryz.underlying9)
theorem zNl:zjs Tryz.prog 54 (Rp.list (Rp.int .u64)) (fun x=>x.length*8<=140737488351232/\x.length<=1048576/\∀x'∈x,(Lit.int .u64 x').wf=true):=zlv Tryz.underlying54 (by kernel_rfl) (by kernel_rfl) (fun _=>zma Tryz.underlying83)
theorem zJR:∀(n m:Nat),m<=n->zlQ Tryz.prog m 27 zc zcR/\zlQ Tryz.prog m 57 za zaK:=by
  intro n
  induction n with
  | zero => intro m hm; obtain rfl : m = 0 := by omega
            exact ⟨zjJ,zjJ⟩
  | succ n ih=>
    intro m hm;cases m with
    | zero=>exact ⟨zjJ,zjJ⟩
    | succ m=>
      refine ⟨?_,?_⟩
      · refine zpt (S:=fun l=>∃y0 l0,l=(Rp.list za).lv y0++l0/\(y0.length*80<=140737488351232/\y0.length<=1048576/\∀y∈y0,zaK y)/\∃y1 l1,l0=(Rp.list Rp.str).lv y1++l1/\(y1.length*16<=140737488351232/\y1.length<=1048576/\∀y1'∈y1,y1'.length<=140737488351232/\y1'.length<=1048576)/\l1=[]) Tryz.underlying27 (by kernel_rfl) (by refine zgk (r:=Rp.list za) (W:=fun x=>x.length*80<=140737488351232/\x.length<=1048576/\∀y∈x,zaK y) (zvd Tryz.underlying24 (by kernel_rfl) (by kernel_rfl) (fun q hq=>(ih q (by omega)).2)) rfl (by kernel_rfl) ?_;refine zgk (r:=(Rp.list Rp.str)) (W:=fun x=>x.length*16<=140737488351232/\x.length<=1048576/\∀x'∈x,x'.length<=140737488351232/\x'.length<=1048576) (zLW m) rfl (by kernel_rfl) ?_;exact @zuN _ _ _) ?_;rintro _ ⟨y0,l0,rfl,w0,y1,l1,rfl,w1,rfl⟩;exact ⟨⟨y0,y1⟩,by rw [zj]<;>rfl,(znA _).2 ⟨⟨w0.1,w0.2.1,(zgs _).2 w0.2.2⟩,w1⟩⟩
      · refine zpt (S:=fun l=>∃y0 l0,l=(Rp.int .i64).lv y0++l0/\((Lit.int .i64 y0).wf=true)/\∃y1 l1,l0=(Rp.list (Rp.int .u64)).lv y1++l1/\(y1.length*8<=140737488351232/\y1.length<=1048576/\∀y1'∈y1,(Lit.int .u64 y1').wf=true)/\∃y2 l2,l1=(Rp.list Rp.str).lv y2++l2/\(y2.length*16<=140737488351232/\y2.length<=1048576/\∀y2'∈y2,y2'.length<=140737488351232/\y2'.length<=1048576)/\∃y3 l3,l2=(Rp.list zc).lv y3++l3/\(y3.length*48<=140737488351232/\y3.length<=1048576/\∀y∈y3,zcR y)/\l3=[]) Tryz.underlying57 (by kernel_rfl) (by refine zgk (r:=(Rp.int .i64)) (W:=fun x=>(Lit.int .i64 x).wf=true) ((fun _=>zma Tryz.underlying3) m) rfl (by kernel_rfl) ?_;refine zgk (r:=(Rp.list (Rp.int .u64))) (W:=fun x=>x.length*8<=140737488351232/\x.length<=1048576/\∀x'∈x,(Lit.int .u64 x').wf=true) (zNl m) rfl (by kernel_rfl) ?_;refine zgk (r:=(Rp.list Rp.str)) (W:=fun x=>x.length*16<=140737488351232/\x.length<=1048576/\∀x'∈x,x'.length<=140737488351232/\x'.length<=1048576) (zLW m) rfl (by kernel_rfl) ?_;refine zgk (r:=Rp.list zc) (W:=fun x=>x.length*48<=140737488351232/\x.length<=1048576/\∀y∈x,zcR y) (zvd Tryz.underlying55 (by kernel_rfl) (by kernel_rfl) (fun q hq=>(ih q (by omega)).1)) rfl (by kernel_rfl) ?_;exact @zuN _ _ _) ?_;rintro _ ⟨y0,l0,rfl,w0,y1,l1,rfl,w1,y2,l2,rfl,w2,y3,l3,rfl,w3,rfl⟩;exact ⟨⟨y0,y1,y2,y3⟩,by rw [zi]<;>rfl,(zjt _).2 ⟨w0,w1,w2,⟨w3.1,w3.2.1,(zki _).2 w3.2.2⟩⟩⟩
theorem zNj:zjs Tryz.prog 27 zc zcR:=fun n=>(zJR n n (xC _)).1
theorem zNm:zjs Tryz.prog 57 za zaK:=fun n=>(zJR n n (xC _)).2
theorem zNk:zjs Tryz.prog 53 (Rp.list (Rp.int .i64)) (fun x=>x.length*8<=140737488351232/\x.length<=1048576/\∀x'∈x,(Lit.int .i64 x').wf=true):=zlv Tryz.underlying53 (by kernel_rfl) (by kernel_rfl) (fun _=>zma Tryz.underlying3)
end Go.Proofs.YtekgmimingolbaaGreat
