/-
  How the arguments' types are opened. No condition.
-/
import Derived.KernelRfl
import Derived.Test.YtcbkcblkecmjnaaGreatx4T
import Derived.Test.YtcbkcblkecmjnaaGreatx4K1
namespace Go.Proofs.YtcbkcblkecmjnaaGreat
open Go Go.RowKit
def zaG (x:zc):Prop:=(x.Name.length≤140737488351232)∧((Lit.int .i64 x.Number).wf=true)∧((Lit.int .i64 x.Kind).wf=true)∧(True)∧(True)∧((Lit.int .i64 x.Of).wf=true)
theorem op64:zke Tryz.prog 64 zd zaG:=zmu (S:=fun l=>∃y0 l0,l=Rp.str.lv y0++l0∧(y0.length≤140737488351232)∧∃y1 l1,l0=(Rp.int .i64).lv y1++l1∧((Lit.int .i64 y1).wf=true)∧∃y2 l2,l1=(Rp.int .i64).lv y2++l2∧((Lit.int .i64 y2).wf=true)∧∃y3 l3,l2=Rp.bool.lv y3++l3∧(True)∧∃y4 l4,l3=Rp.bool.lv y4++l4∧(True)∧∃y5 l5,l4=(Rp.int .i64).lv y5++l5∧((Lit.int .i64 y5).wf=true)∧l5=[]) Tryz.underlying64 (by kernel_rfl) (by intro n;refine zhr (r:=Rp.str) (W:=fun x=>x.length≤140737488351232) ((fun _=>ztp Tryz.underlying9) n) rfl (by kernel_rfl) ?_;refine zhr (r:=(Rp.int .i64)) (W:=fun x=>(Lit.int .i64 x).wf=true) ((fun _=>zoQ Tryz.underlying3) n) rfl (by kernel_rfl) ?_;refine zhr (r:=(Rp.int .i64)) (W:=fun x=>(Lit.int .i64 x).wf=true) ((fun _=>zoQ Tryz.underlying3) n) rfl (by kernel_rfl) ?_;refine zhr (r:=Rp.bool) (W:=fun x=>True) ((fun _=>zru Tryz.underlying4) n) rfl (by kernel_rfl) ?_;refine zhr (r:=Rp.bool) (W:=fun x=>True) ((fun _=>zru Tryz.underlying4) n) rfl (by kernel_rfl) ?_;refine zhr (r:=(Rp.int .i64)) (W:=fun x=>(Lit.int .i64 x).wf=true) ((fun _=>zoQ Tryz.underlying3) n) rfl (by kernel_rfl) ?_;exact @zyl _ _ _) (by rintro _ ⟨y0,l0,rfl,w0,y1,l1,rfl,w1,y2,l2,rfl,w2,y3,l3,rfl,w3,y4,l4,rfl,w4,y5,l5,rfl,w5,rfl⟩;exact ⟨⟨y0,y1,y2,y3,y4,y5⟩,rfl,w0,w1,w2,w3,w4,w5⟩)
theorem op71:zke Tryz.prog 71 (Rp.list zd) (fun x=>x.length*48≤140737488351232∧∀x'∈x,zaG x'):=zln Tryz.underlying71 (by kernel_rfl) (by kernel_rfl) op64
def zhf (x:zi):Prop:=(x.Name.length≤140737488351232)∧(x.Fields.length*48≤140737488351232∧∀x_Fields'∈x.Fields,zaG x_Fields')
theorem op73:zke Tryz.prog 73 zj zhf:=zmu (S:=fun l=>∃y0 l0,l=Rp.str.lv y0++l0∧(y0.length≤140737488351232)∧∃y1 l1,l0=(Rp.list zd).lv y1++l1∧(y1.length*48≤140737488351232∧∀y1'∈y1,zaG y1')∧l1=[]) Tryz.underlying73 (by kernel_rfl) (by intro n;refine zhr (r:=Rp.str) (W:=fun x=>x.length≤140737488351232) ((fun _=>ztp Tryz.underlying9) n) rfl (by kernel_rfl) ?_;refine zhr (r:=(Rp.list zd)) (W:=fun x=>x.length*48≤140737488351232∧∀x'∈x,zaG x') (op71 n) rfl (by kernel_rfl) ?_;exact @zyl _ _ _) (by rintro _ ⟨y0,l0,rfl,w0,y1,l1,rfl,w1,rfl⟩;exact ⟨⟨y0,y1⟩,rfl,w0,w1⟩)
theorem op23:zke Tryz.prog 23 (Rp.list zj) (fun x=>x.length*40≤140737488351232∧∀x'∈x,zhf x'):=zln Tryz.underlying23 (by kernel_rfl) (by kernel_rfl) op73
theorem op24:zke Tryz.prog 24 (Rp.list Rp.byte) (fun x=>x.length*1≤140737488351232∧∀x'∈x,True):=zln Tryz.underlying24 (by kernel_rfl) (by kernel_rfl) (fun _=>zxz Tryz.underlying5)
end Go.Proofs.YtcbkcblkecmjnaaGreat
