/-
  Facts on the types of the program. No condition.
-/
import Derived.Test.YtnpfdmlfeealgaaProg
import Derived.Test.YtnpfdmlfeealgaaS
import Derived.KernelRfl
namespace Go.Proofs.Ytnpfdmlfeealgaa
open Go Go.RowKit
set_option linter.unusedVariables false
theorem mixed : Try.prog.follows .mixedOrders = true := by kernel_rfl
theorem zet22 : ZeT Try.prog 22 5 Rp.byte 1 (0 : UInt8) := ZeT.ofB Try.underlying22 (by kernel_rfl)
theorem zet32 : ZeT Try.prog 32 24 (Rp.int .u64) 8 (0 : Int) := ZeT.ofB Try.underlying32 (by kernel_rfl)
end Go.Proofs.Ytnpfdmlfeealgaa
