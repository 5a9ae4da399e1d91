/-
  Facts on the types of the program. No condition.
-/
import Derived.KernelRfl
import Derived.Test.YtnfembipjdohcaaProg
import Derived.Test.YtnfembipjdohcaaK1
import Derived.Lib.SlBytesConst
import Derived.Test.YtnfembipjdohcaaK2
import Derived.Test.YtnfembipjdohcaaS1
namespace Go.Proofs.Ytnfembipjdohcaa
open Go Go.RowKit
set_option linter.unusedVariables false
theorem zfN : Try.prog.follows .mixedOrders = true := by kernel_rfl
theorem ziG : ZeT Try.prog 23 36 zi 40 ((⟨[], []⟩ : zr) : zr) := ZeT.ofB Try.underlying23 (by kernel_rfl)
theorem zdz : ZeT Try.prog 24 5 Rp.byte 1 (0 : UInt8) := ZeT.ofB Try.underlying24 (by kernel_rfl)
theorem zlB : ZeT Try.prog 34 33 za 48 ((⟨[], 0, 0, false, false, 0⟩ : ze) : ze) := ZeT.ofB Try.underlying34 (by kernel_rfl)
theorem ztT : ZeT Try.prog 64 3 (Rp.int .i64) 8 (0 : Int) := ZeT.ofB Try.underlying64 (by kernel_rfl)
theorem ztP : StT Try.prog 33 [(0, 1), (1, 1), (2, 1), (3, 1), (4, 1), (5, 1)] [.str [], .int .i64 0, .int .i64 0, .bool false, .bool false, .int .i64 0] := StT.ofB Try.underlying33 (by kernel_rfl)
theorem zlw : StT Try.prog 39 [(0, 1), (1, 1), (2, 1)] [.int .i64 0, .int .i64 0, .int .u8 0] := StT.ofB Try.underlying39 (by kernel_rfl)
theorem zoY : StT Try.prog 47 [(0, 1), (1, 1), (2, 1), (3, 1), (4, 1)] [.int .i64 0, .int .i64 0, .int .i64 0, .int .i64 0, .int .i64 0] := StT.ofB Try.underlying47 (by kernel_rfl)
theorem znm : StT Try.prog 49 [(0, 5), (5, 1), (6, 1)] [.int .i64 0, .int .i64 0, .int .i64 0, .int .i64 0, .int .i64 0, .int .i64 0, .bool false] := StT.ofB Try.underlying49 (by kernel_rfl)
theorem zoZ : StT Try.prog 54 [(0, 1), (1, 1), (2, 1)] [.int .i64 0, .int .i64 0, .int .i64 0] := StT.ofB Try.underlying54 (by kernel_rfl)
theorem ztQ : StT Try.prog 60 [(0, 1), (1, 1), (2, 1)] [.int .i64 0, .int .i64 0, .int .i64 0] := StT.ofB Try.underlying60 (by kernel_rfl)
theorem zru : StT Try.prog 73 [(0, 1), (1, 1)] [.int .i64 0, .int .i64 0] := StT.ofB Try.underlying73 (by kernel_rfl)
theorem zdw : StT Try.prog 88 [(0, 1), (1, 1)] [.str [], .int .i64 0] := StT.ofB Try.underlying88 (by kernel_rfl)
theorem zsS : StT Try.prog 91 [(0, 1), (1, 1)] [.int .i64 0, .str []] := StT.ofB Try.underlying91 (by kernel_rfl)
theorem ztR : StT Try.prog 94 [(0, 1), (1, 1)] [.int .i64 0, .int .i64 0] := StT.ofB Try.underlying94 (by kernel_rfl)
theorem ztu : StT Try.prog 105 [(0, 1), (1, 1)] [.int .i64 0, .int .i64 0] := StT.ofB Try.underlying105 (by kernel_rfl)
theorem zoj : StT Try.prog 107 [(0, 1), (1, 1), (2, 1)] [.int .i64 0, .bool false, .int .u8 0] := StT.ofB Try.underlying107 (by kernel_rfl)
theorem ztM : StA Try.prog 36 [(0, 1), (1, 1)] [kS [], kN] := StA.ofB Try.underlying36 (by kernel_rfl)
theorem ztN : StA Try.prog 44 [(0, 1), (1, 1), (2, 1)] [kN, kN, .lf (.val (.map none))] := StA.ofB Try.underlying44 (by kernel_rfl)
theorem ztO : StA Try.prog 69 [(0, 1), (1, 1), (2, 1), (3, 1)] [kI 0, kN, .lf (.val (.map none)), .lf (.val (.map none))] := StA.ofB Try.underlying69 (by kernel_rfl)
theorem zqY : MapT Try.prog 42 60 49 zc zd ((⟨(⟨0, 0, 0, 0, 0⟩ : zo), 0, false⟩ : zb) : zb) := MapT.ofB Try.underlying42 (zgh Try.underlying60 (by kernel_rfl) rfl (fun _ => by kernel_rfl) (fun a b => by cases a; cases b; simp [zc, eqL, leq, Bool.decide_and, Bool.beq_eq_decide_eq])) (by kernel_rfl)
theorem zma : MapT Try.prog 66 91 4 zk Rp.bool (false : Bool) := MapT.ofB Try.underlying66 (zgh Try.underlying91 (by kernel_rfl) rfl (fun _ => by kernel_rfl) (fun a b => by cases a; cases b; simp [zk, eqL, leq, Bool.decide_and, Bool.beq_eq_decide_eq])) (by kernel_rfl)
theorem zqZ : MapT Try.prog 67 94 4 zj Rp.bool (false : Bool) := MapT.ofB Try.underlying67 (zgh Try.underlying94 (by kernel_rfl) rfl (fun _ => by kernel_rfl) (fun a b => by cases a; cases b; simp [zj, eqL, leq, Bool.decide_and, Bool.beq_eq_decide_eq])) (by kernel_rfl)
theorem zra : MapT Try.prog 79 105 107 zA zD ((⟨0, false, 0⟩ : zE) : zE) := MapT.ofB Try.underlying79 (zgh Try.underlying105 (by kernel_rfl) rfl (fun _ => by kernel_rfl) (fun a b => by cases a; cases b; simp [zA, eqL, leq, Bool.decide_and, Bool.beq_eq_decide_eq])) (by kernel_rfl)
theorem zbP : MapT Try.prog 86 3 88 (Rp.int .i64) zt ((⟨[], 0⟩ : zm) : zm) := MapT.ofB Try.underlying86 (zqB Try.underlying3) (by kernel_rfl)
end Go.Proofs.Ytnfembipjdohcaa
