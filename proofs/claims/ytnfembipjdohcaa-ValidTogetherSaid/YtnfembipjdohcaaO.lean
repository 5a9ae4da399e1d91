/-
  How the arguments' types are opened. No condition.
-/
import Derived.KernelRfl
import Derived.Test.YtnfembipjdohcaaT
import Derived.Test.YtnfembipjdohcaaK1
namespace Go.Proofs.Ytnfembipjdohcaa
open Go Go.RowKit
def zQ (x : ze) : Prop := (x.Name.length ≤ 140737488351232) ∧ ((Lit.int .i64 x.Number).wf = true) ∧ ((Lit.int .i64 x.Kind).wf = true) ∧ (True) ∧ (True) ∧ ((Lit.int .i64 x.Of).wf = true)
theorem op33 : zeX Try.prog 33 za zQ := zgz (S := fun l => ∃ y0 l0, l = Rp.str.lv y0 ++ l0 ∧ (y0.length ≤ 140737488351232) ∧ ∃ y1 l1, l0 = (Rp.int .i64).lv y1 ++ l1 ∧ ((Lit.int .i64 y1).wf = true) ∧ ∃ y2 l2, l1 = (Rp.int .i64).lv y2 ++ l2 ∧ ((Lit.int .i64 y2).wf = true) ∧ ∃ y3 l3, l2 = Rp.bool.lv y3 ++ l3 ∧ (True) ∧ ∃ y4 l4, l3 = Rp.bool.lv y4 ++ l4 ∧ (True) ∧ ∃ y5 l5, l4 = (Rp.int .i64).lv y5 ++ l5 ∧ ((Lit.int .i64 y5).wf = true) ∧ l5 = []) Try.underlying33 (by kernel_rfl) (by intro n; refine zdp (r := Rp.str) (W := fun x => x.length ≤ 140737488351232) ((fun _ => zlo Try.underlying9) n) rfl (by kernel_rfl) ?_; refine zdp (r := (Rp.int .i64)) (W := fun x => (Lit.int .i64 x).wf = true) ((fun _ => zid Try.underlying3) n) rfl (by kernel_rfl) ?_; refine zdp (r := (Rp.int .i64)) (W := fun x => (Lit.int .i64 x).wf = true) ((fun _ => zid Try.underlying3) n) rfl (by kernel_rfl) ?_; refine zdp (r := Rp.bool) (W := fun x => True) ((fun _ => zka Try.underlying4) n) rfl (by kernel_rfl) ?_; refine zdp (r := Rp.bool) (W := fun x => True) ((fun _ => zka Try.underlying4) n) rfl (by kernel_rfl) ?_; refine zdp (r := (Rp.int .i64)) (W := fun x => (Lit.int .i64 x).wf = true) ((fun _ => zid Try.underlying3) n) rfl (by kernel_rfl) ?_; exact @zoG _ _ _) (by rintro _ ⟨y0, l0, rfl, w0, y1, l1, rfl, w1, y2, l2, rfl, w2, y3, l3, rfl, w3, y4, l4, rfl, w4, y5, l5, rfl, w5, rfl⟩; exact ⟨⟨y0, y1, y2, y3, y4, y5⟩, rfl, w0, w1, w2, w3, w4, w5⟩)
theorem op34 : zeX Try.prog 34 (Rp.list za) (fun x => x.length * 48 ≤ 140737488351232 ∧ ∀ x' ∈ x, zQ x') := zfO Try.underlying34 (by kernel_rfl) (by kernel_rfl) op33
def zdh (x : zr) : Prop := (x.Name.length ≤ 140737488351232) ∧ (x.Fields.length * 48 ≤ 140737488351232 ∧ ∀ x_Fields' ∈ x.Fields, zQ x_Fields')
theorem op36 : zeX Try.prog 36 zi zdh := zgz (S := fun l => ∃ y0 l0, l = Rp.str.lv y0 ++ l0 ∧ (y0.length ≤ 140737488351232) ∧ ∃ y1 l1, l0 = (Rp.list za).lv y1 ++ l1 ∧ (y1.length * 48 ≤ 140737488351232 ∧ ∀ y1' ∈ y1, zQ y1') ∧ l1 = []) Try.underlying36 (by kernel_rfl) (by intro n; refine zdp (r := Rp.str) (W := fun x => x.length ≤ 140737488351232) ((fun _ => zlo Try.underlying9) n) rfl (by kernel_rfl) ?_; refine zdp (r := (Rp.list za)) (W := fun x => x.length * 48 ≤ 140737488351232 ∧ ∀ x' ∈ x, zQ x') (op34 n) rfl (by kernel_rfl) ?_; exact @zoG _ _ _) (by rintro _ ⟨y0, l0, rfl, w0, y1, l1, rfl, w1, rfl⟩; exact ⟨⟨y0, y1⟩, rfl, w0, w1⟩)
theorem op23 : zeX Try.prog 23 (Rp.list zi) (fun x => x.length * 40 ≤ 140737488351232 ∧ ∀ x' ∈ x, zdh x') := zfO Try.underlying23 (by kernel_rfl) (by kernel_rfl) op36
theorem op24 : zeX Try.prog 24 (Rp.list Rp.byte) (fun x => x.length * 1 ≤ 140737488351232 ∧ ∀ x' ∈ x, True) := zfO Try.underlying24 (by kernel_rfl) (by kernel_rfl) (fun _ => zod Try.underlying5)
end Go.Proofs.Ytnfembipjdohcaa
