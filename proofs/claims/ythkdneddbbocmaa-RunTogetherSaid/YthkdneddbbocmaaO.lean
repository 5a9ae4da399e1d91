/-
  How the arguments' types are opened. No condition.
-/
import Derived.KernelRfl
import Derived.Test.YthkdneddbbocmaaT
import Derived.Test.YthkdneddbbocmaaK1
namespace Go.Proofs.Ythkdneddbbocmaa
open Go Go.RowKit
theorem op22 : OpensA Try.prog 22 (Rp.list Rp.byte) (fun x => x.length * 1 ≤ 140737488351232 ∧ ∀ x' ∈ x, True) := opensA_list Try.underlying22 (by kernel_rfl) (by kernel_rfl) (fun _ => opens_byte Try.underlying5)
theorem op24 : OpensA Try.prog 24 (Rp.list (Rp.int .u64)) (fun x => x.length * 8 ≤ 140737488351232 ∧ ∀ x' ∈ x, (Lit.int .u64 x').wf = true) := opensA_list Try.underlying24 (by kernel_rfl) (by kernel_rfl) (fun _ => opens_int Try.underlying32)
end Go.Proofs.Ythkdneddbbocmaa
