/-
  Facts on the types of the program. No condition.
-/
import Derived.KernelRfl
import Derived.Test.YtmghlnfhcdjbnaaGreatDoorProg
import Derived.Test.YtmghlnfhcdjbnaaGreatDoorK1
import Derived.Test.YtmghlnfhcdjbnaaGreatDoorK2
import Derived.Test.YtmghlnfhcdjbnaaGreatDoorS1
namespace Go.Proofs.YtmghlnfhcdjbnaaGreatDoor
open Go Go.RowKit
set_option linter.unusedVariables false
theorem zfV : Tryz.prog.follows .mixedOrders = true := by kernel_rfl
theorem zef : ZeT Tryz.prog 22 9 Rp.str 16 ([] : Str) := ZeT.ofB Tryz.underlying22 (by kernel_rfl)
theorem zoQ : ZeT Tryz.prog 50 53 zt 40 ((⟨[], []⟩ : zk) : zk) := ZeT.ofB Tryz.underlying50 (by kernel_rfl)
theorem zqC : ZeT Tryz.prog 51 89 ze 48 ((⟨[], 0, 0, false, false, 0⟩ : zn) : zn) := ZeT.ofB Tryz.underlying51 (by kernel_rfl)
theorem zqD : ZeT Tryz.prog 81 3 (Rp.int .i64) 8 (0 : Int) := ZeT.ofB Tryz.underlying81 (by kernel_rfl)
theorem zmO : StT Tryz.prog 70 [(0, 1), (1, 1), (2, 1)] [.int .i64 0, .int .i64 0, .int .i64 0] := StT.ofB Tryz.underlying70 (by kernel_rfl)
theorem zcr : StT Tryz.prog 116 [(0, 1), (1, 1)] [.str [], .int .i64 0] := StT.ofB Tryz.underlying116 (by kernel_rfl)
theorem zoL : StT Tryz.prog 119 [(0, 1), (1, 1)] [.int .i64 0, .str []] := StT.ofB Tryz.underlying119 (by kernel_rfl)
theorem zqm : StT Tryz.prog 121 [(0, 1), (1, 1)] [.int .i64 0, .int .i64 0] := StT.ofB Tryz.underlying121 (by kernel_rfl)
theorem zqB : StA Tryz.prog 86 [(0, 1), (1, 1), (2, 1), (3, 1)] [kI 0, kN, .lf (.val (.map none)), .lf (.val (.map none))] := StA.ofB Tryz.underlying86 (by kernel_rfl)
theorem zjZ : MapT Tryz.prog 83 119 4 zd Rp.bool (false : Bool) := MapT.ofB Tryz.underlying83 (zjq Tryz.underlying119 (by kernel_rfl) rfl (fun _ => by kernel_rfl) (fun a b => by cases a; cases b; simp [zd, eqL, leq, Bool.decide_and, Bool.beq_eq_decide_eq])) (by kernel_rfl)
theorem zot : MapT Tryz.prog 84 121 4 zc Rp.bool (false : Bool) := MapT.ofB Tryz.underlying84 (zjq Tryz.underlying121 (by kernel_rfl) rfl (fun _ => by kernel_rfl) (fun a b => by cases a; cases b; simp [zc, eqL, leq, Bool.decide_and, Bool.beq_eq_decide_eq])) (by kernel_rfl)
theorem zbw : MapT Tryz.prog 114 3 116 (Rp.int .i64) zg ((⟨[], 0⟩ : zf) : zf) := MapT.ofB Tryz.underlying114 (znW Tryz.underlying3) (by kernel_rfl)
end Go.Proofs.YtmghlnfhcdjbnaaGreatDoor
