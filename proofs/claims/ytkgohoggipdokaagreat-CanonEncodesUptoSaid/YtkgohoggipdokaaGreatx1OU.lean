/-
  The laws as plain functions. No condition.
-/
import Derived.KernelRfl
import Derived.Test.YtkgohoggipdokaaGreatx1T
import Derived.Test.YtkgohoggipdokaaGreatx1OpenU
namespace Go.Proofs.YtkgohoggipdokaaGreat
open Go Go.RowKit
def zay (x:zb):Prop:=(x.Name.length<=140737488351232/\x.Name.length<=1048576)/\((Lit.int .i64 x.Number).wf=true)/\((Lit.int .i64 x.Kind).wf=true)/\(True)/\(True)/\((Lit.int .i64 x.Of).wf=true)
theorem zHh:zhl Tryz.prog 47 ze zay:=znT (S:=fun l=>∃y0 l0,l=Rp.str.lv y0++l0/\(y0.length<=140737488351232/\y0.length<=1048576)/\∃y1 l1,l0=(Rp.int .i64).lv y1++l1/\((Lit.int .i64 y1).wf=true)/\∃y2 l2,l1=(Rp.int .i64).lv y2++l2/\((Lit.int .i64 y2).wf=true)/\∃y3 l3,l2=Rp.bool.lv y3++l3/\(True)/\∃y4 l4,l3=Rp.bool.lv y4++l4/\(True)/\∃y5 l5,l4=(Rp.int .i64).lv y5++l5/\((Lit.int .i64 y5).wf=true)/\l5=[]) Tryz.underlying47 (by kernel_rfl) (by intro n;refine zeh (r:=Rp.str) (W:=fun x=>x.length<=140737488351232/\x.length<=1048576) ((fun _=>zpE Tryz.underlying9) n) rfl (by kernel_rfl) ?_;refine zeh (r:=(Rp.int .i64)) (W:=fun x=>(Lit.int .i64 x).wf=true) ((fun _=>zks Tryz.underlying3) n) rfl (by kernel_rfl) ?_;refine zeh (r:=(Rp.int .i64)) (W:=fun x=>(Lit.int .i64 x).wf=true) ((fun _=>zks Tryz.underlying3) n) rfl (by kernel_rfl) ?_;refine zeh (r:=Rp.bool) (W:=fun x=>True) ((fun _=>zrT Tryz.underlying4) n) rfl (by kernel_rfl) ?_;refine zeh (r:=Rp.bool) (W:=fun x=>True) ((fun _=>zrT Tryz.underlying4) n) rfl (by kernel_rfl) ?_;refine zeh (r:=(Rp.int .i64)) (W:=fun x=>(Lit.int .i64 x).wf=true) ((fun _=>zks Tryz.underlying3) n) rfl (by kernel_rfl) ?_;exact @zqm _ _ _) (by rintro _ ⟨y0,l0,rfl,w0,y1,l1,rfl,w1,y2,l2,rfl,w2,y3,l3,rfl,w3,y4,l4,rfl,w4,y5,l5,rfl,w5,rfl⟩;exact ⟨⟨y0,y1,y2,y3,y4,y5⟩,rfl,w0,w1,w2,w3,w4,w5⟩)
theorem zHj:zhl Tryz.prog 69 (Rp.list ze) (fun x=>x.length*48<=140737488351232/\x.length<=1048576/\∀x'∈x,zay x'):=zjG Tryz.underlying69 (by kernel_rfl) (by kernel_rfl) zHh
def zhO (x:zd):Prop:=(x.Name.length<=140737488351232/\x.Name.length<=1048576)/\(x.Fields.length*48<=140737488351232/\x.Fields.length<=1048576/\∀x_Fields'∈x.Fields,zay x_Fields')
theorem zHk:zhl Tryz.prog 71 zi zhO:=znT (S:=fun l=>∃y0 l0,l=Rp.str.lv y0++l0/\(y0.length<=140737488351232/\y0.length<=1048576)/\∃y1 l1,l0=(Rp.list ze).lv y1++l1/\(y1.length*48<=140737488351232/\y1.length<=1048576/\∀y1'∈y1,zay y1')/\l1=[]) Tryz.underlying71 (by kernel_rfl) (by intro n;refine zeh (r:=Rp.str) (W:=fun x=>x.length<=140737488351232/\x.length<=1048576) ((fun _=>zpE Tryz.underlying9) n) rfl (by kernel_rfl) ?_;refine zeh (r:=(Rp.list ze)) (W:=fun x=>x.length*48<=140737488351232/\x.length<=1048576/\∀x'∈x,zay x') (zHj n) rfl (by kernel_rfl) ?_;exact @zqm _ _ _) (by rintro _ ⟨y0,l0,rfl,w0,y1,l1,rfl,w1,rfl⟩;exact ⟨⟨y0,y1⟩,rfl,w0,w1⟩)
theorem zHf:zhl Tryz.prog 23 (Rp.list zi) (fun x=>x.length*40<=140737488351232/\x.length<=1048576/\∀x'∈x,zhO x'):=zjG Tryz.underlying23 (by kernel_rfl) (by kernel_rfl) zHk
mutual
def zbF:zc->Prop
  | ⟨x0,x1⟩=>(x0.length*80<=140737488351232/\x0.length<=1048576/\zbw x0)/\(x1.length*16<=140737488351232/\x1.length<=1048576/\∀x1'∈x1,x1'.length<=140737488351232/\x1'.length<=1048576)
def zdO:List zc->Prop
  | []=>True
  | x::l=>zbF x/\zdO l
def zaz:za->Prop
  | ⟨x0,x1,x2,x3⟩=>((Lit.int .i64 x0).wf=true)/\(x1.length*8<=140737488351232/\x1.length<=1048576/\∀x1'∈x1,(Lit.int .u64 x1').wf=true)/\(x2.length*16<=140737488351232/\x2.length<=1048576/\∀x2'∈x2,x2'.length<=140737488351232/\x2'.length<=1048576)/\(x3.length*48<=140737488351232/\x3.length<=1048576/\zdO x3)
def zbw:List za->Prop
  | []=>True
  | x::l=>zaz x/\zbw l
end
theorem zgW:∀(l:List zc),zdO l↔∀x∈l,zbF x
  | []=>by simp [zdO]
  | x::l=>by rw [zdO,zgW l];simp
theorem zjS (x:zc):zbF x↔(x.Values.length*80<=140737488351232/\x.Values.length<=1048576/\zbw x.Values)/\(x.Unknown.length*16<=140737488351232/\x.Unknown.length<=1048576/\∀x_Unknown'∈x.Unknown,x_Unknown'.length<=140737488351232/\x_Unknown'.length<=1048576):=by cases x;simp only [zbF]
theorem zel:∀(l:List za),zbw l↔∀x∈l,zaz x
  | []=>by simp [zbw]
  | x::l=>by rw [zbw,zel l];simp
theorem zgv (x:za):zaz x↔((Lit.int .i64 x.Number).wf=true)/\(x.Words.length*8<=140737488351232/\x.Words.length<=1048576/\∀x_Words'∈x.Words,(Lit.int .u64 x_Words').wf=true)/\(x.Texts.length*16<=140737488351232/\x.Texts.length<=1048576/\∀x_Texts'∈x.Texts,x_Texts'.length<=140737488351232/\x_Texts'.length<=1048576)/\(x.Subs.length*48<=140737488351232/\x.Subs.length<=1048576/\zdO x.Subs):=by cases x;simp only [zaz]
theorem zFN:zhl Tryz.prog 25 (Rp.list Rp.str) (fun x=>x.length*16<=140737488351232/\x.length<=1048576/\∀x'∈x,x'.length<=140737488351232/\x'.length<=1048576):=zjG Tryz.underlying25 (by kernel_rfl) (by kernel_rfl) (fun _=>zpE Tryz.underlying9)
theorem zHi:zhl Tryz.prog 48 (Rp.list (Rp.int .u64)) (fun x=>x.length*8<=140737488351232/\x.length<=1048576/\∀x'∈x,(Lit.int .u64 x').wf=true):=zjG Tryz.underlying48 (by kernel_rfl) (by kernel_rfl) (fun _=>zks Tryz.underlying72)
theorem zGu:∀(n m:Nat),m<=n->zik Tryz.prog m 27 zh zbF/\zik Tryz.prog m 51 zf zaz:=by
  intro n
  induction n with
  | zero => intro m hm; obtain rfl : m = 0 := by omega
            exact ⟨zgC,zgC⟩
  | succ n ih=>
    intro m hm;cases m with
    | zero=>exact ⟨zgC,zgC⟩
    | succ m=>
      refine ⟨?_,?_⟩
      · refine zlI (S:=fun l=>∃y0 l0,l=(Rp.list zf).lv y0++l0/\(y0.length*80<=140737488351232/\y0.length<=1048576/\∀y∈y0,zaz y)/\∃y1 l1,l0=(Rp.list Rp.str).lv y1++l1/\(y1.length*16<=140737488351232/\y1.length<=1048576/\∀y1'∈y1,y1'.length<=140737488351232/\y1'.length<=1048576)/\l1=[]) Tryz.underlying27 (by kernel_rfl) (by refine zeh (r:=Rp.list zf) (W:=fun x=>x.length*80<=140737488351232/\x.length<=1048576/\∀y∈x,zaz y) (zqv Tryz.underlying24 (by kernel_rfl) (by kernel_rfl) (fun q hq=>(ih q (by omega)).2)) rfl (by kernel_rfl) ?_;refine zeh (r:=(Rp.list Rp.str)) (W:=fun x=>x.length*16<=140737488351232/\x.length<=1048576/\∀x'∈x,x'.length<=140737488351232/\x'.length<=1048576) (zFN m) rfl (by kernel_rfl) ?_;exact @zqm _ _ _) ?_;rintro _ ⟨y0,l0,rfl,w0,y1,l1,rfl,w1,rfl⟩;exact ⟨⟨y0,y1⟩,by rw [zaQ]<;>rfl,(zjS _).2 ⟨⟨w0.1,w0.2.1,(zel _).2 w0.2.2⟩,w1⟩⟩
      · refine zlI (S:=fun l=>∃y0 l0,l=(Rp.int .i64).lv y0++l0/\((Lit.int .i64 y0).wf=true)/\∃y1 l1,l0=(Rp.list (Rp.int .u64)).lv y1++l1/\(y1.length*8<=140737488351232/\y1.length<=1048576/\∀y1'∈y1,(Lit.int .u64 y1').wf=true)/\∃y2 l2,l1=(Rp.list Rp.str).lv y2++l2/\(y2.length*16<=140737488351232/\y2.length<=1048576/\∀y2'∈y2,y2'.length<=140737488351232/\y2'.length<=1048576)/\∃y3 l3,l2=(Rp.list zh).lv y3++l3/\(y3.length*48<=140737488351232/\y3.length<=1048576/\∀y∈y3,zbF y)/\l3=[]) Tryz.underlying51 (by kernel_rfl) (by refine zeh (r:=(Rp.int .i64)) (W:=fun x=>(Lit.int .i64 x).wf=true) ((fun _=>zks Tryz.underlying3) m) rfl (by kernel_rfl) ?_;refine zeh (r:=(Rp.list (Rp.int .u64))) (W:=fun x=>x.length*8<=140737488351232/\x.length<=1048576/\∀x'∈x,(Lit.int .u64 x').wf=true) (zHi m) rfl (by kernel_rfl) ?_;refine zeh (r:=(Rp.list Rp.str)) (W:=fun x=>x.length*16<=140737488351232/\x.length<=1048576/\∀x'∈x,x'.length<=140737488351232/\x'.length<=1048576) (zFN m) rfl (by kernel_rfl) ?_;refine zeh (r:=Rp.list zh) (W:=fun x=>x.length*48<=140737488351232/\x.length<=1048576/\∀y∈x,zbF y) (zqv Tryz.underlying49 (by kernel_rfl) (by kernel_rfl) (fun q hq=>(ih q (by omega)).1)) rfl (by kernel_rfl) ?_;exact @zqm _ _ _) ?_;rintro _ ⟨y0,l0,rfl,w0,y1,l1,rfl,w1,y2,l2,rfl,w2,y3,l3,rfl,w3,rfl⟩;exact ⟨⟨y0,y1,y2,y3⟩,by rw [zF]<;>rfl,(zgv _).2 ⟨w0,w1,w2,⟨w3.1,w3.2.1,(zgW _).2 w3.2.2⟩⟩⟩
theorem zHg:zhl Tryz.prog 27 zh zbF:=fun n=>(zGu n n (xB _)).1
end Go.Proofs.YtkgohoggipdokaaGreat
