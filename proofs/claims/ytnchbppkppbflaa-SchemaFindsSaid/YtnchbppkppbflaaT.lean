/-
  Facts on the types of the program. No condition.
-/
import Derived.KernelRfl
import Derived.Test.YtnchbppkppbflaaProg
import Derived.Test.YtnchbppkppbflaaK2
import Derived.Test.YtnchbppkppbflaaS1
namespace Go.Proofs.Ytnchbppkppbflaa
open Go Go.RowKit
set_option linter.unusedVariables false
theorem mixed : Try.prog.follows .mixedOrders = true := by kernel_rfl
theorem zet23 : ZeT Try.prog 23 35 R_Name_Fields 40 ((⟨[], []⟩ : T_Name_Fields) : T_Name_Fields) := ZeT.ofB Try.underlying23 (by kernel_rfl)
theorem zet33 : ZeT Try.prog 33 50 R_Name_Number_Kind_Repeated_Packed_Of 48 ((⟨[], 0, 0, false, false, 0⟩ : T_Name_Number_Kind_Repeated_Packed_Of) : T_Name_Number_Kind_Repeated_Packed_Of) := ZeT.ofB Try.underlying33 (by kernel_rfl)
theorem zet44 : ZeT Try.prog 44 3 (Rp.int .i64) 8 (0 : Int) := ZeT.ofB Try.underlying44 (by kernel_rfl)
theorem plain_Name_Number_Kind_Repeated_Packed_Of : R_Name_Number_Kind_Repeated_Packed_Of.Plain := fun x => by simp [R_Name_Number_Kind_Repeated_Packed_Of, LV.plain]
theorem stt27 : StT Try.prog 27 [(0, 1), (1, 1), (2, 1)] [.int .i64 0, .int .i64 0, .int .i64 0] := StT.ofB Try.underlying27 (by kernel_rfl)
theorem stt75 : StT Try.prog 75 [(0, 1), (1, 1)] [.str [], .int .i64 0] := StT.ofB Try.underlying75 (by kernel_rfl)
theorem stt78 : StT Try.prog 78 [(0, 1), (1, 1)] [.int .i64 0, .str []] := StT.ofB Try.underlying78 (by kernel_rfl)
theorem stt80 : StT Try.prog 80 [(0, 1), (1, 1)] [.int .i64 0, .int .i64 0] := StT.ofB Try.underlying80 (by kernel_rfl)
theorem sta35 : StA Try.prog 35 [(0, 1), (1, 1)] [kS [], kN] := StA.ofB Try.underlying35 (by kernel_rfl)
theorem sta55 : StA Try.prog 55 [(0, 1), (1, 1), (2, 1), (3, 1)] [kI 0, kN, .lf (.val (.map none)), .lf (.val (.map none))] := StA.ofB Try.underlying55 (by kernel_rfl)
theorem mapt52 : MapT Try.prog 52 78 4 R_message_name Rp.bool (false : Bool) := MapT.ofB Try.underlying52 (keyT_flat Try.underlying78 (by kernel_rfl) rfl (fun _ => by kernel_rfl) (fun a b => by cases a; cases b; simp [R_message_name, eqL, leq, Bool.decide_and, Bool.beq_eq_decide_eq])) (by kernel_rfl)
theorem mapt53 : MapT Try.prog 53 80 4 R_message_number Rp.bool (false : Bool) := MapT.ofB Try.underlying53 (keyT_flat Try.underlying80 (by kernel_rfl) rfl (fun _ => by kernel_rfl) (fun a b => by cases a; cases b; simp [R_message_number, eqL, leq, Bool.decide_and, Bool.beq_eq_decide_eq])) (by kernel_rfl)
theorem mapt73 : MapT Try.prog 73 3 75 (Rp.int .i64) R_name_wire ((⟨[], 0⟩ : T_name_wire) : T_name_wire) := MapT.ofB Try.underlying73 (keyT_int Try.underlying3) (by kernel_rfl)
theorem eqt50 (a b : T_Name_Number_Kind_Repeated_Packed_Of) : ∀ w, (Op.equalIn 10000 50 (.agg ((R_Name_Number_Kind_Repeated_Packed_Of.lv a).map cellOf).toArray) (.agg ((R_Name_Number_Kind_Repeated_Packed_Of.lv b).map cellOf).toArray)).run Try.prog w = .ok (decide (a = b)) w := eqT Try.underlying50 (by kernel_rfl) (by kernel_rfl) (by kernel_rfl) (by cases a; cases b; simp [R_Name_Number_Kind_Repeated_Packed_Of, eqL, leq, Bool.decide_and, Bool.beq_eq_decide_eq])
end Go.Proofs.Ytnchbppkppbflaa
