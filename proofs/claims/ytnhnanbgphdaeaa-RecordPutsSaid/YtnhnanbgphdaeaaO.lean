/-
  How the types of the arguments are opened. No condition.
-/
import Derived.Test.YtnhnanbgphdaeaaT
import Derived.Test.YtnhnanbgphdaeaaOpen
import Derived.KernelRfl
namespace Go.Proofs.Ytnhnanbgphdaeaa
open Go Go.RowKit
theorem op22 : OpensA Try.prog 22 (Rp.list Rp.byte) (fun x => x.length * 1 ≤ 140737488351232 ∧ ∀ x' ∈ x, True) := opensA_list Try.underlying22 (by kernel_rfl) (by kernel_rfl) (fun _ => opens_byte Try.underlying5)
end Go.Proofs.Ytnhnanbgphdaeaa
