/-
  How the arguments' types are opened. No condition.
-/
import Derived.KernelRfl
import Derived.Test.YtkgohoggipdokaaGreatx1T
import Derived.Test.YtkgohoggipdokaaGreatx1K1
namespace Go.Proofs.YtkgohoggipdokaaGreat
open Go Go.RowKit
def zaU (x:za):Prop:=(x.Name.length<=140737488351232)/\((Lit.int .i64 x.Number).wf=true)/\((Lit.int .i64 x.Kind).wf=true)/\(True)/\(True)/\((Lit.int .i64 x.Of).wf=true)
theorem op47:zoW Tryz.prog 47 ze zaU:=zsz (S:=fun l=>∃y0 l0,l=Rp.str.lv y0++l0/\(y0.length<=140737488351232)/\∃y1 l1,l0=(Rp.int .i64).lv y1++l1/\((Lit.int .i64 y1).wf=true)/\∃y2 l2,l1=(Rp.int .i64).lv y2++l2/\((Lit.int .i64 y2).wf=true)/\∃y3 l3,l2=Rp.bool.lv y3++l3/\(True)/\∃y4 l4,l3=Rp.bool.lv y4++l4/\(True)/\∃y5 l5,l4=(Rp.int .i64).lv y5++l5/\((Lit.int .i64 y5).wf=true)/\l5=[]) Tryz.underlying47 (by kernel_rfl) (by intro n;refine zkU (r:=Rp.str) (W:=fun x=>x.length<=140737488351232) ((fun _=>zAu Tryz.underlying9) n) rfl (by kernel_rfl) ?_;refine zkU (r:=(Rp.int .i64)) (W:=fun x=>(Lit.int .i64 x).wf=true) ((fun _=>zuW Tryz.underlying3) n) rfl (by kernel_rfl) ?_;refine zkU (r:=(Rp.int .i64)) (W:=fun x=>(Lit.int .i64 x).wf=true) ((fun _=>zuW Tryz.underlying3) n) rfl (by kernel_rfl) ?_;refine zkU (r:=Rp.bool) (W:=fun x=>True) ((fun _=>zyb Tryz.underlying4) n) rfl (by kernel_rfl) ?_;refine zkU (r:=Rp.bool) (W:=fun x=>True) ((fun _=>zyb Tryz.underlying4) n) rfl (by kernel_rfl) ?_;refine zkU (r:=(Rp.int .i64)) (W:=fun x=>(Lit.int .i64 x).wf=true) ((fun _=>zuW Tryz.underlying3) n) rfl (by kernel_rfl) ?_;exact @zGm _ _ _) (by rintro _ ⟨y0,l0,rfl,w0,y1,l1,rfl,w1,y2,l2,rfl,w2,y3,l3,rfl,w3,y4,l4,rfl,w4,y5,l5,rfl,w5,rfl⟩;exact ⟨⟨y0,y1,y2,y3,y4,y5⟩,rfl,w0,w1,w2,w3,w4,w5⟩)
theorem op69:zoW Tryz.prog 69 (Rp.list ze) (fun x=>x.length*48<=140737488351232/\∀x'∈x,zaU x'):=zqV Tryz.underlying69 (by kernel_rfl) (by kernel_rfl) op47
def zkE (x:zc):Prop:=(x.Name.length<=140737488351232)/\(x.Fields.length*48<=140737488351232/\∀x_Fields'∈x.Fields,zaU x_Fields')
theorem op71:zoW Tryz.prog 71 zg zkE:=zsz (S:=fun l=>∃y0 l0,l=Rp.str.lv y0++l0/\(y0.length<=140737488351232)/\∃y1 l1,l0=(Rp.list ze).lv y1++l1/\(y1.length*48<=140737488351232/\∀y1'∈y1,zaU y1')/\l1=[]) Tryz.underlying71 (by kernel_rfl) (by intro n;refine zkU (r:=Rp.str) (W:=fun x=>x.length<=140737488351232) ((fun _=>zAu Tryz.underlying9) n) rfl (by kernel_rfl) ?_;refine zkU (r:=(Rp.list ze)) (W:=fun x=>x.length*48<=140737488351232/\∀x'∈x,zaU x') (op69 n) rfl (by kernel_rfl) ?_;exact @zGm _ _ _) (by rintro _ ⟨y0,l0,rfl,w0,y1,l1,rfl,w1,rfl⟩;exact ⟨⟨y0,y1⟩,rfl,w0,w1⟩)
theorem op23:zoW Tryz.prog 23 (Rp.list zg) (fun x=>x.length*40<=140737488351232/\∀x'∈x,zkE x'):=zqV Tryz.underlying23 (by kernel_rfl) (by kernel_rfl) op71
theorem op35:zoW Tryz.prog 35 (Rp.list Rp.byte) (fun x=>x.length*1<=140737488351232/\∀x'∈x,True):=zqV Tryz.underlying35 (by kernel_rfl) (by kernel_rfl) (fun _=>zFr Tryz.underlying5)
end Go.Proofs.YtkgohoggipdokaaGreat
