/-
  How the types of the arguments are opened. No condition.
-/
import Derived.Test.YtmggggknpgokbaaT
import Derived.Test.YtmggggknpgokbaaOpen
import Derived.KernelRfl
namespace Go.Proofs.Ytmggggknpgokbaa
open Go Go.RowKit
theorem op22 : OpensA Try.prog 22 (Rp.list Rp.byte) (fun x => x.length ≤ maxLen ∧ ∀ x' ∈ x, True) := opensA_list Try.underlying22 (by kernel_rfl) (fun _ => opens_byte Try.underlying5)
def W_Number_Wire (x : T_Number_Wire) : Prop := ((Lit.int .i64 x.Number).wf = true) ∧ ((Lit.int .i64 x.Wire).wf = true)
theorem op25 : OpensA Try.prog 25 R_Number_Wire W_Number_Wire := opensA_struct (S := fun l => ∃ y0 l0, l = (Rp.int .i64).lv y0 ++ l0 ∧ ((Lit.int .i64 y0).wf = true) ∧ ∃ y1 l1, l0 = (Rp.int .i64).lv y1 ++ l1 ∧ ((Lit.int .i64 y1).wf = true) ∧ l1 = []) Try.underlying25 (by kernel_rfl) (by intro n; refine fok_cons (r := (Rp.int .i64)) (W := fun x => (Lit.int .i64 x).wf = true) ((fun _ => opens_int Try.underlying3) n) rfl (by kernel_rfl) ?_; refine fok_cons (r := (Rp.int .i64)) (W := fun x => (Lit.int .i64 x).wf = true) ((fun _ => opens_int Try.underlying3) n) rfl (by kernel_rfl) ?_; exact @fok_nil _ _ _) (by rintro _ ⟨y0, l0, rfl, w0, y1, l1, rfl, w1, rfl⟩; exact ⟨⟨y0, y1⟩, rfl, w0, w1⟩)
end Go.Proofs.Ytmggggknpgokbaa
