/-
  Facts on the types of the program. No condition.
-/
import Derived.KernelRfl
import Derived.Test.YtnfembipjdohcaaGreatProg
import Derived.Test.YtnfembipjdohcaaGreatK1
import Derived.Lib.SlBytesConst
import Derived.Test.YtnfembipjdohcaaGreatK2
import Derived.Test.YtnfembipjdohcaaGreatS1
namespace Go.Proofs.YtnfembipjdohcaaGreat
open Go Go.RowKit
set_option linter.unusedVariables false
theorem zdQ : Tryz.prog.follows .mixedOrders = true := by kernel_rfl
theorem zet : ZeT Tryz.prog 23 42 zd 40 ((⟨[], []⟩ : zh) : zh) := ZeT.ofB Tryz.underlying23 (by kernel_rfl)
theorem zde : ZeT Tryz.prog 24 5 Rp.byte 1 (0 : UInt8) := ZeT.ofB Tryz.underlying24 (by kernel_rfl)
theorem zhD : ZeT Tryz.prog 40 39 za 48 ((⟨[], 0, 0, false, false, 0⟩ : zc) : zc) := ZeT.ofB Tryz.underlying40 (by kernel_rfl)
theorem zqq : ZeT Tryz.prog 56 3 (Rp.int .i64) 8 (0 : Int) := ZeT.ofB Tryz.underlying56 (by kernel_rfl)
theorem zwN : StT Tryz.prog 39 [(0, 1), (1, 1), (2, 1), (3, 1), (4, 1), (5, 1)] [.str [], .int .i64 0, .int .i64 0, .bool false, .bool false, .int .i64 0] := StT.ofB Tryz.underlying39 (by kernel_rfl)
theorem zoc : StT Tryz.prog 44 [(0, 1), (1, 1), (2, 1)] [.int .i64 0, .int .i64 0, .int .u8 0] := StT.ofB Tryz.underlying44 (by kernel_rfl)
theorem zmS : StT Tryz.prog 51 [(0, 1), (1, 1), (2, 1), (3, 1), (4, 1)] [.int .i64 0, .int .i64 0, .int .i64 0, .int .i64 0, .int .i64 0] := StT.ofB Tryz.underlying51 (by kernel_rfl)
theorem zqd : StT Tryz.prog 53 [(0, 5), (5, 1), (6, 1)] [.int .i64 0, .int .i64 0, .int .i64 0, .int .i64 0, .int .i64 0, .int .i64 0, .bool false] := StT.ofB Tryz.underlying53 (by kernel_rfl)
theorem zrU : StT Tryz.prog 61 [(0, 1), (1, 1), (2, 1)] [.int .i64 0, .int .i64 0, .int .i64 0] := StT.ofB Tryz.underlying61 (by kernel_rfl)
theorem zrV : StT Tryz.prog 66 [(0, 1), (1, 1), (2, 1), (3, 1), (4, 1)] [.int .i64 0, .int .i64 0, .int .i64 0, .int .i64 0, .int .i64 0] := StT.ofB Tryz.underlying66 (by kernel_rfl)
theorem zqe : StT Tryz.prog 68 [(0, 5), (5, 1), (6, 1)] [.int .i64 0, .int .i64 0, .int .i64 0, .int .i64 0, .int .i64 0, .int .i64 0, .bool false] := StT.ofB Tryz.underlying68 (by kernel_rfl)
theorem zwO : StT Tryz.prog 92 [(0, 1), (1, 1), (2, 1)] [.int .i64 0, .int .i64 0, .int .i64 0] := StT.ofB Tryz.underlying92 (by kernel_rfl)
theorem zdw : StT Tryz.prog 105 [(0, 1), (1, 1)] [.str [], .int .i64 0] := StT.ofB Tryz.underlying105 (by kernel_rfl)
theorem zux : StT Tryz.prog 108 [(0, 1), (1, 1)] [.int .i64 0, .str []] := StT.ofB Tryz.underlying108 (by kernel_rfl)
theorem zwq : StT Tryz.prog 110 [(0, 1), (1, 1)] [.int .i64 0, .int .i64 0] := StT.ofB Tryz.underlying110 (by kernel_rfl)
theorem zrg : StT Tryz.prog 114 [(0, 1), (1, 1)] [.int .i64 0, .int .i64 0] := StT.ofB Tryz.underlying114 (by kernel_rfl)
theorem zwr : StT Tryz.prog 133 [(0, 1), (1, 1)] [.int .i64 0, .int .i64 0] := StT.ofB Tryz.underlying133 (by kernel_rfl)
theorem zrh : StT Tryz.prog 135 [(0, 1), (1, 1), (2, 1)] [.int .i64 0, .bool false, .int .u8 0] := StT.ofB Tryz.underlying135 (by kernel_rfl)
theorem zwK : StA Tryz.prog 42 [(0, 1), (1, 1)] [kS [], kN] := StA.ofB Tryz.underlying42 (by kernel_rfl)
theorem zwL : StA Tryz.prog 48 [(0, 1), (1, 1), (2, 1)] [kN, kN, .lf (.val (.map none))] := StA.ofB Tryz.underlying48 (by kernel_rfl)
theorem zwM : StA Tryz.prog 85 [(0, 1), (1, 1), (2, 1), (3, 1)] [kI 0, kN, .lf (.val (.map none)), .lf (.val (.map none))] := StA.ofB Tryz.underlying85 (by kernel_rfl)
theorem zua : MapT Tryz.prog 46 92 68 ze zf ((⟨(⟨0, 0, 0, 0, 0⟩ : zj), 0, false⟩ : zb) : zb) := MapT.ofB Tryz.underlying46 (ziF Tryz.underlying92 (by kernel_rfl) rfl (fun _ => by kernel_rfl) (fun a b => by cases a; cases b; simp [ze, eqL, leq, Bool.decide_and, Bool.beq_eq_decide_eq])) (by kernel_rfl)
theorem zoF : MapT Tryz.prog 82 108 4 zo Rp.bool (false : Bool) := MapT.ofB Tryz.underlying82 (ziF Tryz.underlying108 (by kernel_rfl) rfl (fun _ => by kernel_rfl) (fun a b => by cases a; cases b; simp [zo, eqL, leq, Bool.decide_and, Bool.beq_eq_decide_eq])) (by kernel_rfl)
theorem zub : MapT Tryz.prog 83 110 4 zn Rp.bool (false : Bool) := MapT.ofB Tryz.underlying83 (ziF Tryz.underlying110 (by kernel_rfl) rfl (fun _ => by kernel_rfl) (fun a b => by cases a; cases b; simp [zn, eqL, leq, Bool.decide_and, Bool.beq_eq_decide_eq])) (by kernel_rfl)
theorem zcm : MapT Tryz.prog 103 3 105 (Rp.int .i64) zu ((⟨[], 0⟩ : zp) : zp) := MapT.ofB Tryz.underlying103 (ztD Tryz.underlying3) (by kernel_rfl)
theorem zrK : MapT Tryz.prog 120 133 135 zG zI ((⟨0, false, 0⟩ : zJ) : zJ) := MapT.ofB Tryz.underlying120 (ziF Tryz.underlying133 (by kernel_rfl) rfl (fun _ => by kernel_rfl) (fun a b => by cases a; cases b; simp [zG, eqL, leq, Bool.decide_and, Bool.beq_eq_decide_eq])) (by kernel_rfl)
end Go.Proofs.YtnfembipjdohcaaGreat
