/-
  Facts on the types of the program. No condition.
-/
import Derived.Test.YtnhnanbgphdaeaaProg
import Derived.Test.YtnhnanbgphdaeaaRow
import Derived.Test.YtnhnanbgphdaeaaMap
import Derived.Test.YtnhnanbgphdaeaaLib
import Derived.Test.YtnhnanbgphdaeaaS05
import Derived.KernelRfl
namespace Go.Proofs.Ytnhnanbgphdaeaa
open Go Go.RowKit
set_option linter.unusedVariables false
theorem mixed : Try.prog.follows .mixedOrders = true := by kernel_rfl
theorem zet22 : ZeT Try.prog 22 5 Rp.byte 1 (0 : UInt8) := ZeT.ofB Try.underlying22 (by kernel_rfl)
theorem zet32 : ZeT Try.prog 32 25 R_Number_Wire_From_At_To 40 ((⟨0, 0, 0, 0, 0⟩ : T_Number_Wire_From_At_To) : T_Number_Wire_From_At_To) := ZeT.ofB Try.underlying32 (by kernel_rfl)
theorem zet35 : ZeT Try.prog 35 29 R_Number_Wire_From_At_To 40 ((⟨0, 0, 0, 0, 0⟩ : T_Number_Wire_From_At_To) : T_Number_Wire_From_At_To) := ZeT.ofB Try.underlying35 (by kernel_rfl)
theorem zet74 : ZeT Try.prog 74 22 (Rp.list Rp.byte) 24 ([] : (List UInt8)) := ZeT.ofB Try.underlying74 (by kernel_rfl)
theorem plain_Number_Wire_From_At_To : R_Number_Wire_From_At_To.Plain := fun x => by simp [R_Number_Wire_From_At_To, LV.plain]
theorem stt25 : StT Try.prog 25 [(0, 1), (1, 1), (2, 1), (3, 1), (4, 1)] [.int .i64 0, .int .i64 0, .int .i64 0, .int .i64 0, .int .i64 0] := StT.ofB Try.underlying25 (by kernel_rfl)
theorem stt29 : StT Try.prog 29 [(0, 1), (1, 1), (2, 1), (3, 1), (4, 1)] [.int .i64 0, .int .i64 0, .int .i64 0, .int .i64 0, .int .i64 0] := StT.ofB Try.underlying29 (by kernel_rfl)
theorem stt50 : StT Try.prog 50 [(0, 1), (1, 1)] [.int .i64 0, .int .i64 0] := StT.ofB Try.underlying50 (by kernel_rfl)
theorem eqt25 (a b : T_Number_Wire_From_At_To) : ∀ w, (Op.equalIn 10000 25 (.agg ((R_Number_Wire_From_At_To.lv a).map cellOf).toArray) (.agg ((R_Number_Wire_From_At_To.lv b).map cellOf).toArray)).run Try.prog w = .ok (decide (a = b)) w := eqT Try.underlying25 (by kernel_rfl) (by kernel_rfl) (by kernel_rfl) (by cases a; cases b; simp [R_Number_Wire_From_At_To, eqL, leq, Bool.decide_and, Bool.beq_eq_decide_eq])
theorem eqt29 (a b : T_Number_Wire_From_At_To) : ∀ w, (Op.equalIn 10000 29 (.agg ((R_Number_Wire_From_At_To.lv a).map cellOf).toArray) (.agg ((R_Number_Wire_From_At_To.lv b).map cellOf).toArray)).run Try.prog w = .ok (decide (a = b)) w := eqT Try.underlying29 (by kernel_rfl) (by kernel_rfl) (by kernel_rfl) (by cases a; cases b; simp [R_Number_Wire_From_At_To, eqL, leq, Bool.decide_and, Bool.beq_eq_decide_eq])
end Go.Proofs.Ytnhnanbgphdaeaa
