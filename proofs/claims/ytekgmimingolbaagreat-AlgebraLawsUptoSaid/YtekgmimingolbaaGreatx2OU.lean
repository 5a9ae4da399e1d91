/-
  The laws as plain functions. No condition.
-/
import Derived.KernelRfl
import Derived.Test.YtekgmimingolbaaGreatx2T
import Derived.Test.YtekgmimingolbaaGreatx2OpenU
namespace Go.Proofs.YtekgmimingolbaaGreat
open Go Go.RowKit
def zbg (x:ze):Prop:=(x.Name.length<=140737488351232/\x.Name.length<=1048576)/\((Lit.int .i64 x.Number).wf=true)/\((Lit.int .i64 x.Kind).wf=true)/\(True)/\(True)/\((Lit.int .i64 x.Of).wf=true)
theorem zHz:zgX Tryz.prog 65 zg zbg:=znX (S:=fun l=>∃y0 l0,l=Rp.str.lv y0++l0/\(y0.length<=140737488351232/\y0.length<=1048576)/\∃y1 l1,l0=(Rp.int .i64).lv y1++l1/\((Lit.int .i64 y1).wf=true)/\∃y2 l2,l1=(Rp.int .i64).lv y2++l2/\((Lit.int .i64 y2).wf=true)/\∃y3 l3,l2=Rp.bool.lv y3++l3/\(True)/\∃y4 l4,l3=Rp.bool.lv y4++l4/\(True)/\∃y5 l5,l4=(Rp.int .i64).lv y5++l5/\((Lit.int .i64 y5).wf=true)/\l5=[]) Tryz.underlying65 (by kernel_rfl) (by intro n;refine zeF (r:=Rp.str) (W:=fun x=>x.length<=140737488351232/\x.length<=1048576) ((fun _=>zpN Tryz.underlying9) n) rfl (by kernel_rfl) ?_;refine zeF (r:=(Rp.int .i64)) (W:=fun x=>(Lit.int .i64 x).wf=true) ((fun _=>zjl Tryz.underlying3) n) rfl (by kernel_rfl) ?_;refine zeF (r:=(Rp.int .i64)) (W:=fun x=>(Lit.int .i64 x).wf=true) ((fun _=>zjl Tryz.underlying3) n) rfl (by kernel_rfl) ?_;refine zeF (r:=Rp.bool) (W:=fun x=>True) ((fun _=>zrY Tryz.underlying4) n) rfl (by kernel_rfl) ?_;refine zeF (r:=Rp.bool) (W:=fun x=>True) ((fun _=>zrY Tryz.underlying4) n) rfl (by kernel_rfl) ?_;refine zeF (r:=(Rp.int .i64)) (W:=fun x=>(Lit.int .i64 x).wf=true) ((fun _=>zjl Tryz.underlying3) n) rfl (by kernel_rfl) ?_;exact @zqn _ _ _) (by rintro _ ⟨y0,l0,rfl,w0,y1,l1,rfl,w1,y2,l2,rfl,w2,y3,l3,rfl,w3,y4,l4,rfl,w4,y5,l5,rfl,w5,rfl⟩;exact ⟨⟨y0,y1,y2,y3,y4,y5⟩,rfl,w0,w1,w2,w3,w4,w5⟩)
theorem zHA:zgX Tryz.prog 80 (Rp.list zg) (fun x=>x.length*48<=140737488351232/\x.length<=1048576/\∀x'∈x,zbg x'):=zhz Tryz.underlying80 (by kernel_rfl) (by kernel_rfl) zHz
def ziD (x:zf):Prop:=(x.Name.length<=140737488351232/\x.Name.length<=1048576)/\(x.Fields.length*48<=140737488351232/\x.Fields.length<=1048576/\∀x_Fields'∈x.Fields,zbg x_Fields')
theorem zHB:zgX Tryz.prog 82 zi ziD:=znX (S:=fun l=>∃y0 l0,l=Rp.str.lv y0++l0/\(y0.length<=140737488351232/\y0.length<=1048576)/\∃y1 l1,l0=(Rp.list zg).lv y1++l1/\(y1.length*48<=140737488351232/\y1.length<=1048576/\∀y1'∈y1,zbg y1')/\l1=[]) Tryz.underlying82 (by kernel_rfl) (by intro n;refine zeF (r:=Rp.str) (W:=fun x=>x.length<=140737488351232/\x.length<=1048576) ((fun _=>zpN Tryz.underlying9) n) rfl (by kernel_rfl) ?_;refine zeF (r:=(Rp.list zg)) (W:=fun x=>x.length*48<=140737488351232/\x.length<=1048576/\∀x'∈x,zbg x') (zHA n) rfl (by kernel_rfl) ?_;exact @zqn _ _ _) (by rintro _ ⟨y0,l0,rfl,w0,y1,l1,rfl,w1,rfl⟩;exact ⟨⟨y0,y1⟩,rfl,w0,w1⟩)
theorem zHv:zgX Tryz.prog 23 (Rp.list zi) (fun x=>x.length*40<=140737488351232/\x.length<=1048576/\∀x'∈x,ziD x'):=zhz Tryz.underlying23 (by kernel_rfl) (by kernel_rfl) zHB
mutual
def zbC:zb->Prop
  | ⟨x0,x1⟩=>(x0.length*80<=140737488351232/\x0.length<=1048576/\zcc x0)/\(x1.length*16<=140737488351232/\x1.length<=1048576/\∀x1'∈x1,x1'.length<=140737488351232/\x1'.length<=1048576)
def zej:List zb->Prop
  | []=>True
  | x::l=>zbC x/\zej l
def zbh:za->Prop
  | ⟨x0,x1,x2,x3⟩=>((Lit.int .i64 x0).wf=true)/\(x1.length*8<=140737488351232/\x1.length<=1048576/\∀x1'∈x1,(Lit.int .u64 x1').wf=true)/\(x2.length*16<=140737488351232/\x2.length<=1048576/\∀x2'∈x2,x2'.length<=140737488351232/\x2'.length<=1048576)/\(x3.length*48<=140737488351232/\x3.length<=1048576/\zej x3)
def zcc:List za->Prop
  | []=>True
  | x::l=>zbh x/\zcc l
end
theorem zhO:∀(l:List zb),zej l↔∀x∈l,zbC x
  | []=>by simp [zej]
  | x::l=>by rw [zej,zhO l];simp
theorem zkz (x:zb):zbC x↔(x.Values.length*80<=140737488351232/\x.Values.length<=1048576/\zcc x.Values)/\(x.Unknown.length*16<=140737488351232/\x.Unknown.length<=1048576/\∀x_Unknown'∈x.Unknown,x_Unknown'.length<=140737488351232/\x_Unknown'.length<=1048576):=by cases x;simp only [zbC]
theorem zeP:∀(l:List za),zcc l↔∀x∈l,zbh x
  | []=>by simp [zcc]
  | x::l=>by rw [zcc,zeP l];simp
theorem zgY (x:za):zbh x↔((Lit.int .i64 x.Number).wf=true)/\(x.Words.length*8<=140737488351232/\x.Words.length<=1048576/\∀x_Words'∈x.Words,(Lit.int .u64 x_Words').wf=true)/\(x.Texts.length*16<=140737488351232/\x.Texts.length<=1048576/\∀x_Texts'∈x.Texts,x_Texts'.length<=140737488351232/\x_Texts'.length<=1048576)/\(x.Subs.length*48<=140737488351232/\x.Subs.length<=1048576/\zej x.Subs):=by cases x;simp only [zbh]
theorem zGe:zgX Tryz.prog 25 (Rp.list Rp.str) (fun x=>x.length*16<=140737488351232/\x.length<=1048576/\∀x'∈x,x'.length<=140737488351232/\x'.length<=1048576):=zhz Tryz.underlying25 (by kernel_rfl) (by kernel_rfl) (fun _=>zpN Tryz.underlying9)
theorem zHy:zgX Tryz.prog 54 (Rp.list (Rp.int .u64)) (fun x=>x.length*8<=140737488351232/\x.length<=1048576/\∀x'∈x,(Lit.int .u64 x').wf=true):=zhz Tryz.underlying54 (by kernel_rfl) (by kernel_rfl) (fun _=>zjl Tryz.underlying83)
theorem zGL:∀(n m:Nat),m<=n->zja Tryz.prog m 27 zd zbC/\zja Tryz.prog m 57 zc zbh:=by
  intro n
  induction n with
  | zero => intro m hm; obtain rfl : m = 0 := by omega
            exact ⟨zhk,zhk⟩
  | succ n ih=>
    intro m hm;cases m with
    | zero=>exact ⟨zhk,zhk⟩
    | succ m=>
      refine ⟨?_,?_⟩
      · refine zlI (S:=fun l=>∃y0 l0,l=(Rp.list zc).lv y0++l0/\(y0.length*80<=140737488351232/\y0.length<=1048576/\∀y∈y0,zbh y)/\∃y1 l1,l0=(Rp.list Rp.str).lv y1++l1/\(y1.length*16<=140737488351232/\y1.length<=1048576/\∀y1'∈y1,y1'.length<=140737488351232/\y1'.length<=1048576)/\l1=[]) Tryz.underlying27 (by kernel_rfl) (by refine zeF (r:=Rp.list zc) (W:=fun x=>x.length*80<=140737488351232/\x.length<=1048576/\∀y∈x,zbh y) (zqA Tryz.underlying24 (by kernel_rfl) (by kernel_rfl) (fun q hq=>(ih q (by omega)).2)) rfl (by kernel_rfl) ?_;refine zeF (r:=(Rp.list Rp.str)) (W:=fun x=>x.length*16<=140737488351232/\x.length<=1048576/\∀x'∈x,x'.length<=140737488351232/\x'.length<=1048576) (zGe m) rfl (by kernel_rfl) ?_;exact @zqn _ _ _) ?_;rintro _ ⟨y0,l0,rfl,w0,y1,l1,rfl,w1,rfl⟩;exact ⟨⟨y0,y1⟩,by rw [zn]<;>rfl,(zkz _).2 ⟨⟨w0.1,w0.2.1,(zeP _).2 w0.2.2⟩,w1⟩⟩
      · refine zlI (S:=fun l=>∃y0 l0,l=(Rp.int .i64).lv y0++l0/\((Lit.int .i64 y0).wf=true)/\∃y1 l1,l0=(Rp.list (Rp.int .u64)).lv y1++l1/\(y1.length*8<=140737488351232/\y1.length<=1048576/\∀y1'∈y1,(Lit.int .u64 y1').wf=true)/\∃y2 l2,l1=(Rp.list Rp.str).lv y2++l2/\(y2.length*16<=140737488351232/\y2.length<=1048576/\∀y2'∈y2,y2'.length<=140737488351232/\y2'.length<=1048576)/\∃y3 l3,l2=(Rp.list zd).lv y3++l3/\(y3.length*48<=140737488351232/\y3.length<=1048576/\∀y∈y3,zbC y)/\l3=[]) Tryz.underlying57 (by kernel_rfl) (by refine zeF (r:=(Rp.int .i64)) (W:=fun x=>(Lit.int .i64 x).wf=true) ((fun _=>zjl Tryz.underlying3) m) rfl (by kernel_rfl) ?_;refine zeF (r:=(Rp.list (Rp.int .u64))) (W:=fun x=>x.length*8<=140737488351232/\x.length<=1048576/\∀x'∈x,(Lit.int .u64 x').wf=true) (zHy m) rfl (by kernel_rfl) ?_;refine zeF (r:=(Rp.list Rp.str)) (W:=fun x=>x.length*16<=140737488351232/\x.length<=1048576/\∀x'∈x,x'.length<=140737488351232/\x'.length<=1048576) (zGe m) rfl (by kernel_rfl) ?_;refine zeF (r:=Rp.list zd) (W:=fun x=>x.length*48<=140737488351232/\x.length<=1048576/\∀y∈x,zbC y) (zqA Tryz.underlying55 (by kernel_rfl) (by kernel_rfl) (fun q hq=>(ih q (by omega)).1)) rfl (by kernel_rfl) ?_;exact @zqn _ _ _) ?_;rintro _ ⟨y0,l0,rfl,w0,y1,l1,rfl,w1,y2,l2,rfl,w2,y3,l3,rfl,w3,rfl⟩;exact ⟨⟨y0,y1,y2,y3⟩,by rw [zv]<;>rfl,(zgY _).2 ⟨w0,w1,w2,⟨w3.1,w3.2.1,(zhO _).2 w3.2.2⟩⟩⟩
theorem zEb:zgX Tryz.prog 27 zd zbC:=fun n=>(zGL n n (xx _)).1
theorem zHx:zgX Tryz.prog 53 (Rp.list (Rp.int .i64)) (fun x=>x.length*8<=140737488351232/\x.length<=1048576/\∀x'∈x,(Lit.int .i64 x').wf=true):=zhz Tryz.underlying53 (by kernel_rfl) (by kernel_rfl) (fun _=>zjl Tryz.underlying3)
theorem zHw:zgX Tryz.prog 45 (Rp.list (Rp.list (Rp.int .i64))) (fun x=>x.length*24<=140737488351232/\x.length<=1048576/\∀x'∈x,(x'.length*8<=140737488351232/\x'.length<=1048576/\∀x_'∈x',(Lit.int .i64 x_').wf=true)):=zhz Tryz.underlying45 (by kernel_rfl) (by kernel_rfl) zHx
end Go.Proofs.YtekgmimingolbaaGreat
