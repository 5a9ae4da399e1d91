/-
  How the arguments' types are opened. No condition.
-/
import Derived.KernelRfl
import Derived.Test.YtaglemhabeipfaaGreatx1T
import Derived.Test.YtaglemhabeipfaaGreatx1K1
namespace Go.Proofs.YtaglemhabeipfaaGreat
open Go Go.RowKit
def zaz (x:za):Prop:=(x.Name.length<=140737488351232)/\((Lit.int .i64 x.Number).wf=true)/\((Lit.int .i64 x.Kind).wf=true)/\(True)/\(True)/\((Lit.int .i64 x.Of).wf=true)
theorem op59:zoZ Tryz.prog 59 zb zaz:=zsU (S:=fun l=>∃y0 l0,l=Rp.str.lv y0++l0/\(y0.length<=140737488351232)/\∃y1 l1,l0=(Rp.int .i64).lv y1++l1/\((Lit.int .i64 y1).wf=true)/\∃y2 l2,l1=(Rp.int .i64).lv y2++l2/\((Lit.int .i64 y2).wf=true)/\∃y3 l3,l2=Rp.bool.lv y3++l3/\(True)/\∃y4 l4,l3=Rp.bool.lv y4++l4/\(True)/\∃y5 l5,l4=(Rp.int .i64).lv y5++l5/\((Lit.int .i64 y5).wf=true)/\l5=[]) Tryz.underlying59 (by kernel_rfl) (by intro n;refine zkV (r:=Rp.str) (W:=fun x=>x.length<=140737488351232) ((fun _=>zBr Tryz.underlying9) n) rfl (by kernel_rfl) ?_;refine zkV (r:=(Rp.int .i64)) (W:=fun x=>(Lit.int .i64 x).wf=true) ((fun _=>zvL Tryz.underlying3) n) rfl (by kernel_rfl) ?_;refine zkV (r:=(Rp.int .i64)) (W:=fun x=>(Lit.int .i64 x).wf=true) ((fun _=>zvL Tryz.underlying3) n) rfl (by kernel_rfl) ?_;refine zkV (r:=Rp.bool) (W:=fun x=>True) ((fun _=>zyU Tryz.underlying4) n) rfl (by kernel_rfl) ?_;refine zkV (r:=Rp.bool) (W:=fun x=>True) ((fun _=>zyU Tryz.underlying4) n) rfl (by kernel_rfl) ?_;refine zkV (r:=(Rp.int .i64)) (W:=fun x=>(Lit.int .i64 x).wf=true) ((fun _=>zvL Tryz.underlying3) n) rfl (by kernel_rfl) ?_;exact @zHU _ _ _) (by rintro _ ⟨y0,l0,rfl,w0,y1,l1,rfl,w1,y2,l2,rfl,w2,y3,l3,rfl,w3,y4,l4,rfl,w4,y5,l5,rfl,w5,rfl⟩;exact ⟨⟨y0,y1,y2,y3,y4,y5⟩,rfl,w0,w1,w2,w3,w4,w5⟩)
theorem op60:zoZ Tryz.prog 60 (Rp.list zb) (fun x=>x.length*48<=140737488351232/\∀x'∈x,zaz x'):=zrf Tryz.underlying60 (by kernel_rfl) (by kernel_rfl) op59
def zkG (x:zc):Prop:=(x.Name.length<=140737488351232)/\(x.Fields.length*48<=140737488351232/\∀x_Fields'∈x.Fields,zaz x_Fields')
theorem op62:zoZ Tryz.prog 62 zd zkG:=zsU (S:=fun l=>∃y0 l0,l=Rp.str.lv y0++l0/\(y0.length<=140737488351232)/\∃y1 l1,l0=(Rp.list zb).lv y1++l1/\(y1.length*48<=140737488351232/\∀y1'∈y1,zaz y1')/\l1=[]) Tryz.underlying62 (by kernel_rfl) (by intro n;refine zkV (r:=Rp.str) (W:=fun x=>x.length<=140737488351232) ((fun _=>zBr Tryz.underlying9) n) rfl (by kernel_rfl) ?_;refine zkV (r:=(Rp.list zb)) (W:=fun x=>x.length*48<=140737488351232/\∀x'∈x,zaz x') (op60 n) rfl (by kernel_rfl) ?_;exact @zHU _ _ _) (by rintro _ ⟨y0,l0,rfl,w0,y1,l1,rfl,w1,rfl⟩;exact ⟨⟨y0,y1⟩,rfl,w0,w1⟩)
theorem op23:zoZ Tryz.prog 23 (Rp.list zd) (fun x=>x.length*40<=140737488351232/\∀x'∈x,zkG x'):=zrf Tryz.underlying23 (by kernel_rfl) (by kernel_rfl) op62
theorem op24:zoZ Tryz.prog 24 (Rp.list Rp.byte) (fun x=>x.length*1<=140737488351232/\∀x'∈x,True):=zrf Tryz.underlying24 (by kernel_rfl) (by kernel_rfl) (fun _=>zGW Tryz.underlying5)
end Go.Proofs.YtaglemhabeipfaaGreat
