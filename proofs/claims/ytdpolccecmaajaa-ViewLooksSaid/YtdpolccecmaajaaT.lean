/-
  Facts on the types of the program. No condition.
-/
import Derived.KernelRfl
import Derived.Test.YtdpolccecmaajaaProg
import Derived.Test.YtdpolccecmaajaaK1
import Derived.Lib.SlBytesConst
import Derived.Test.YtdpolccecmaajaaK2
import Derived.Test.YtdpolccecmaajaaS1
namespace Go.Proofs.Ytdpolccecmaajaa
open Go Go.RowKit
set_option linter.unusedVariables false
theorem mixed : Try.prog.follows .mixedOrders = true := by kernel_rfl
theorem zet22 : ZeT Try.prog 22 55 R_Name_Number_Kind_Repeated_Packed_Of 48 ((⟨[], 0, 0, false, false, 0⟩ : T_Name_Number_Kind_Repeated_Packed_Of) : T_Name_Number_Kind_Repeated_Packed_Of) := ZeT.ofB Try.underlying22 (by kernel_rfl)
theorem zet25 : ZeT Try.prog 25 5 Rp.byte 1 (0 : UInt8) := ZeT.ofB Try.underlying25 (by kernel_rfl)
theorem zet40 : ZeT Try.prog 40 31 R_Record_Field_Run 56 ((⟨(⟨0, 0, 0, 0, 0⟩ : T_Number_Wire_From_At_To), 0, false⟩ : T_Record_Field_Run) : T_Record_Field_Run) := ZeT.ofB Try.underlying40 (by kernel_rfl)
theorem zet43 : ZeT Try.prog 43 37 R_R_Field_Run 56 ((⟨(⟨0, 0, 0, 0, 0⟩ : T_Number_Wire_From_At_To), 0, false⟩ : T_R_Field_Run) : T_R_Field_Run) := ZeT.ofB Try.underlying43 (by kernel_rfl)
theorem zet49 : ZeT Try.prog 49 25 (Rp.list Rp.byte) 24 ([] : (List UInt8)) := ZeT.ofB Try.underlying49 (by kernel_rfl)
theorem plain_Name_Number_Kind_Repeated_Packed_Of : R_Name_Number_Kind_Repeated_Packed_Of.Plain := fun x => by simp [R_Name_Number_Kind_Repeated_Packed_Of, LV.plain]
theorem plain_R_Field_Run : R_R_Field_Run.Plain := fun x => by simp [R_R_Field_Run, LV.plain]
theorem plain_Record_Field_Run : R_Record_Field_Run.Plain := fun x => by simp [R_Record_Field_Run, LV.plain]
theorem stt29 : StT Try.prog 29 [(0, 1), (1, 1), (2, 1), (3, 1), (4, 1)] [.int .i64 0, .int .i64 0, .int .i64 0, .int .i64 0, .int .i64 0] := StT.ofB Try.underlying29 (by kernel_rfl)
theorem stt31 : StT Try.prog 31 [(0, 5), (5, 1), (6, 1)] [.int .i64 0, .int .i64 0, .int .i64 0, .int .i64 0, .int .i64 0, .int .i64 0, .bool false] := StT.ofB Try.underlying31 (by kernel_rfl)
theorem stt35 : StT Try.prog 35 [(0, 1), (1, 1), (2, 1), (3, 1), (4, 1)] [.int .i64 0, .int .i64 0, .int .i64 0, .int .i64 0, .int .i64 0] := StT.ofB Try.underlying35 (by kernel_rfl)
theorem stt37 : StT Try.prog 37 [(0, 5), (5, 1), (6, 1)] [.int .i64 0, .int .i64 0, .int .i64 0, .int .i64 0, .int .i64 0, .int .i64 0, .bool false] := StT.ofB Try.underlying37 (by kernel_rfl)
theorem stt55 : StT Try.prog 55 [(0, 1), (1, 1), (2, 1), (3, 1), (4, 1), (5, 1)] [.str [], .int .i64 0, .int .i64 0, .bool false, .bool false, .int .i64 0] := StT.ofB Try.underlying55 (by kernel_rfl)
theorem stt67 : StT Try.prog 67 [(0, 1), (1, 1)] [.int .i64 0, .int .i64 0] := StT.ofB Try.underlying67 (by kernel_rfl)
theorem stt69 : StT Try.prog 69 [(0, 1), (1, 1), (2, 1)] [.int .i64 0, .bool false, .int .u8 0] := StT.ofB Try.underlying69 (by kernel_rfl)
theorem stt79 : StT Try.prog 79 [(0, 1), (1, 1)] [.int .i64 0, .int .i64 0] := StT.ofB Try.underlying79 (by kernel_rfl)
theorem stt98 : StT Try.prog 98 [(0, 1), (1, 1)] [.str [], .int .i64 0] := StT.ofB Try.underlying98 (by kernel_rfl)
theorem sta24 : StA Try.prog 24 [(0, 1), (1, 1)] [kS [], kN] := StA.ofB Try.underlying24 (by kernel_rfl)
theorem mapt58 : MapT Try.prog 58 67 69 R_number_wire R_field_run_e ((⟨0, false, 0⟩ : T_field_run_e) : T_field_run_e) := MapT.ofB Try.underlying58 (keyT_flat Try.underlying67 (by kernel_rfl) rfl (fun _ => by kernel_rfl) (fun a b => by cases a; cases b; simp [R_number_wire, eqL, leq, Bool.decide_and, Bool.beq_eq_decide_eq])) (by kernel_rfl)
theorem mapt100 : MapT Try.prog 100 3 98 (Rp.int .i64) R_name_wire ((⟨[], 0⟩ : T_name_wire) : T_name_wire) := MapT.ofB Try.underlying100 (keyT_int Try.underlying3) (by kernel_rfl)
theorem eqt35 (a b : T_Number_Wire_From_At_To) : ∀ w, (Op.equalIn 10000 35 (.agg ((R_Number_Wire_From_At_To.lv a).map cellOf).toArray) (.agg ((R_Number_Wire_From_At_To.lv b).map cellOf).toArray)).run Try.prog w = .ok (decide (a = b)) w := eqT Try.underlying35 (by kernel_rfl) (by kernel_rfl) (by kernel_rfl) (by cases a; cases b; simp [R_Number_Wire_From_At_To, eqL, leq, Bool.decide_and, Bool.beq_eq_decide_eq])
end Go.Proofs.Ytdpolccecmaajaa
