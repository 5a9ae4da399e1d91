/-
  How the types of the arguments are opened. No condition.
-/
import Derived.Test.YtnpfdmlfeealgaaT
import Derived.Test.YtnpfdmlfeealgaaOpen
import Derived.KernelRfl
namespace Go.Proofs.Ytnpfdmlfeealgaa
open Go Go.RowKit
theorem op22 : OpensA Try.prog 22 (Rp.list Rp.byte) (fun x => x.length ≤ maxLen ∧ ∀ x' ∈ x, True) := opensA_list Try.underlying22 (by kernel_rfl) (fun _ => opens_byte Try.underlying5)
theorem op32 : OpensA Try.prog 32 (Rp.list (Rp.int .u64)) (fun x => x.length ≤ maxLen ∧ ∀ x' ∈ x, (Lit.int .u64 x').wf = true) := opensA_list Try.underlying32 (by kernel_rfl) (fun _ => opens_int Try.underlying24)
end Go.Proofs.Ytnpfdmlfeealgaa
