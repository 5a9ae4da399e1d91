/-
  How the arguments' types are opened. No condition.
-/
import Derived.KernelRfl
import Derived.Test.Ytnckiilakdkklaax1T
import Derived.Test.Ytnckiilakdkklaax1K1
namespace Go.Proofs.Ytnckiilakdkklaa
open Go Go.RowKit
def zT (x:zd):Prop:=(x.Name.length<=140737488351232)/\((Lit.int .i64 x.Number).wf=true)/\((Lit.int .i64 x.Kind).wf=true)/\(True)/\(True)/\((Lit.int .i64 x.Of).wf=true)
theorem op36:zgq Try.prog 36 zb zT:=ziu (S:=fun l=>∃y0 l0,l=Rp.str.lv y0++l0/\(y0.length<=140737488351232)/\∃y1 l1,l0=(Rp.int .i64).lv y1++l1/\((Lit.int .i64 y1).wf=true)/\∃y2 l2,l1=(Rp.int .i64).lv y2++l2/\((Lit.int .i64 y2).wf=true)/\∃y3 l3,l2=Rp.bool.lv y3++l3/\(True)/\∃y4 l4,l3=Rp.bool.lv y4++l4/\(True)/\∃y5 l5,l4=(Rp.int .i64).lv y5++l5/\((Lit.int .i64 y5).wf=true)/\l5=[]) Try.underlying36 (by kernel_rfl) (by intro n;refine zeh (r:=Rp.str) (W:=fun x=>x.length<=140737488351232) ((fun _=>znR Try.underlying9) n) rfl (by kernel_rfl) ?_;refine zeh (r:=(Rp.int .i64)) (W:=fun x=>(Lit.int .i64 x).wf=true) ((fun _=>zkm Try.underlying3) n) rfl (by kernel_rfl) ?_;refine zeh (r:=(Rp.int .i64)) (W:=fun x=>(Lit.int .i64 x).wf=true) ((fun _=>zkm Try.underlying3) n) rfl (by kernel_rfl) ?_;refine zeh (r:=Rp.bool) (W:=fun x=>True) ((fun _=>zmq Try.underlying4) n) rfl (by kernel_rfl) ?_;refine zeh (r:=Rp.bool) (W:=fun x=>True) ((fun _=>zmq Try.underlying4) n) rfl (by kernel_rfl) ?_;refine zeh (r:=(Rp.int .i64)) (W:=fun x=>(Lit.int .i64 x).wf=true) ((fun _=>zkm Try.underlying3) n) rfl (by kernel_rfl) ?_;exact @zrR _ _ _) (by rintro _ ⟨y0,l0,rfl,w0,y1,l1,rfl,w1,y2,l2,rfl,w2,y3,l3,rfl,w3,y4,l4,rfl,w4,y5,l5,rfl,w5,rfl⟩;exact ⟨⟨y0,y1,y2,y3,y4,y5⟩,rfl,w0,w1,w2,w3,w4,w5⟩)
theorem op37:zgq Try.prog 37 (Rp.list zb) (fun x=>x.length*48<=140737488351232/\∀x'∈x,zT x'):=zhx Try.underlying37 (by kernel_rfl) (by kernel_rfl) op36
def zdX (x:zh):Prop:=(x.Name.length<=140737488351232)/\(x.Fields.length*48<=140737488351232/\∀x_Fields'∈x.Fields,zT x_Fields')
theorem op39:zgq Try.prog 39 zg zdX:=ziu (S:=fun l=>∃y0 l0,l=Rp.str.lv y0++l0/\(y0.length<=140737488351232)/\∃y1 l1,l0=(Rp.list zb).lv y1++l1/\(y1.length*48<=140737488351232/\∀y1'∈y1,zT y1')/\l1=[]) Try.underlying39 (by kernel_rfl) (by intro n;refine zeh (r:=Rp.str) (W:=fun x=>x.length<=140737488351232) ((fun _=>znR Try.underlying9) n) rfl (by kernel_rfl) ?_;refine zeh (r:=(Rp.list zb)) (W:=fun x=>x.length*48<=140737488351232/\∀x'∈x,zT x') (op37 n) rfl (by kernel_rfl) ?_;exact @zrR _ _ _) (by rintro _ ⟨y0,l0,rfl,w0,y1,l1,rfl,w1,rfl⟩;exact ⟨⟨y0,y1⟩,rfl,w0,w1⟩)
theorem op23:zgq Try.prog 23 (Rp.list zg) (fun x=>x.length*40<=140737488351232/\∀x'∈x,zdX x'):=zhx Try.underlying23 (by kernel_rfl) (by kernel_rfl) op39
theorem op24:zgq Try.prog 24 (Rp.list Rp.byte) (fun x=>x.length*1<=140737488351232/\∀x'∈x,True):=zhx Try.underlying24 (by kernel_rfl) (by kernel_rfl) (fun _=>zrl Try.underlying5)
end Go.Proofs.Ytnckiilakdkklaa
