/-
  Facts on the types of the program. No condition.
-/
import Derived.Test.YtfcmlcegeiphdaaProg
import Derived.Test.YtfcmlcegeiphdaaRow
import Derived.Test.YtfcmlcegeiphdaaMap
import Derived.Test.YtfcmlcegeiphdaaS04
import Derived.KernelRfl
namespace Go.Proofs.Ytfcmlcegeiphdaa
open Go Go.RowKit
set_option linter.unusedVariables false
theorem mixed : Try.prog.follows .mixedOrders = true := by kernel_rfl
theorem zet22 : ZeT Try.prog 22 5 Rp.byte 1 (0 : UInt8) := ZeT.ofB Try.underlying22 (by kernel_rfl)
theorem zet35 : ZeT Try.prog 35 3 (Rp.int .i64) 8 (0 : Int) := ZeT.ofB Try.underlying35 (by kernel_rfl)
end Go.Proofs.Ytfcmlcegeiphdaa
