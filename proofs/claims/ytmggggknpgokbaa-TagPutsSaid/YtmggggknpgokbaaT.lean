/-
  Facts on the types of the program. No condition.
-/
import Derived.Test.YtmggggknpgokbaaProg
import Derived.Test.YtmggggknpgokbaaRow
import Derived.Test.YtmggggknpgokbaaMap
import Derived.Test.YtmggggknpgokbaaS03
import Derived.KernelRfl
namespace Go.Proofs.Ytmggggknpgokbaa
open Go Go.RowKit
set_option linter.unusedVariables false
theorem mixed : Try.prog.follows .mixedOrders = true := by kernel_rfl
theorem zet22 : ZeT Try.prog 22 5 Rp.byte 1 (0 : UInt8) := ZeT.ofB Try.underlying22 (by kernel_rfl)
theorem stt25 : StT Try.prog 25 [(0, 1), (1, 1)] [.int .i64 0, .int .i64 0] := StT.ofB Try.underlying25 (by kernel_rfl)
theorem eqt25 (a b : T_Number_Wire) : ∀ w, (Op.equalIn 10000 25 (.agg ((R_Number_Wire.lv a).map cellOf).toArray) (.agg ((R_Number_Wire.lv b).map cellOf).toArray)).run Try.prog w = .ok (decide (a = b)) w := eqT Try.underlying25 (by kernel_rfl) (by kernel_rfl) (by kernel_rfl) (by cases a; cases b; simp [R_Number_Wire, eqL, leq, Bool.decide_and, Bool.beq_eq_decide_eq])
end Go.Proofs.Ytmggggknpgokbaa
