/-
  How the arguments' types are opened. No condition.
-/
import Derived.KernelRfl
import Derived.Test.YtceeeodooljgpaaT
import Derived.Test.YtceeeodooljgpaaK1
namespace Go.Proofs.Ytceeeodooljgpaa
open Go Go.RowKit
theorem op22 : OpensA Try.prog 22 (Rp.list Rp.byte) (fun x => x.length * 1 ≤ 140737488351232 ∧ ∀ x' ∈ x, True) := opensA_list Try.underlying22 (by kernel_rfl) (by kernel_rfl) (fun _ => opens_byte Try.underlying5)
end Go.Proofs.Ytceeeodooljgpaa
