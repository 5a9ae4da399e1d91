/-
  Facts on the types of the program. No condition.
-/
import Derived.KernelRfl
import Derived.Test.YtglkepeofhonlaaGreatDoorK2
import Derived.Test.YtglkepeofhonlaaGreatDoorProg
import Derived.Test.YtglkepeofhonlaaGreatDoorS1
namespace Go.Proofs.YtglkepeofhonlaaGreatDoor
open Go Go.RowKit
set_option linter.unusedVariables false
theorem zcB : Tryz.prog.follows .mixedOrders = true := by kernel_rfl
theorem zhD : ZeT Tryz.prog 23 65 zd 40 ((⟨[], []⟩ : zc) : zc) := ZeT.ofB Tryz.underlying23 (by kernel_rfl)
theorem zfY : ZeT Tryz.prog 24 9 Rp.str 16 ([] : Str) := ZeT.ofB Tryz.underlying24 (by kernel_rfl)
theorem zaF : ZeT Tryz.prog 25 30 (Rp.list (Rp.int .i64)) 24 ([] : (List Int)) := ZeT.ofB Tryz.underlying25 (by kernel_rfl)
theorem zel : ZeT Tryz.prog 30 3 (Rp.int .i64) 8 (0 : Int) := ZeT.ofB Tryz.underlying30 (by kernel_rfl)
theorem ziw : ZeT Tryz.prog 63 62 za 48 ((⟨[], 0, 0, false, false, 0⟩ : zb) : zb) := ZeT.ofB Tryz.underlying63 (by kernel_rfl)
theorem zvt : ZeT Tryz.prog 105 25 (Rp.list (Rp.list (Rp.int .i64))) 24 ([] : (List (List Int))) := ZeT.ofB Tryz.underlying105 (by kernel_rfl)
theorem zea : za.Plain := fun x => by simp [za, LV.plain]
theorem zwS : StT Tryz.prog 62 [(0, 1), (1, 1), (2, 1), (3, 1), (4, 1), (5, 1)] [.str [], .int .i64 0, .int .i64 0, .bool false, .bool false, .int .i64 0] := StT.ofB Tryz.underlying62 (by kernel_rfl)
theorem zvp : StT Tryz.prog 111 [(0, 1), (1, 1), (2, 1)] [.int .i64 0, .int .i64 0, .int .i64 0] := StT.ofB Tryz.underlying111 (by kernel_rfl)
theorem zhi : StT Tryz.prog 166 [(0, 1), (1, 1)] [.str [], .int .i64 0] := StT.ofB Tryz.underlying166 (by kernel_rfl)
theorem zBm : StT Tryz.prog 169 [(0, 1), (1, 1)] [.int .i64 0, .str []] := StT.ofB Tryz.underlying169 (by kernel_rfl)
theorem zCO : StT Tryz.prog 171 [(0, 1), (1, 1)] [.int .i64 0, .int .i64 0] := StT.ofB Tryz.underlying171 (by kernel_rfl)
theorem zzU : ArT Tryz.prog 103 3 2 [.int .i64 0, .int .i64 0] := ArT.ofB Tryz.underlying103 Tryz.sizeOf3 (by kernel_rfl)
theorem zlU : StA Tryz.prog 38 [(0, 1)] [kN] := StA.ofB Tryz.underlying38 (by kernel_rfl)
theorem zDm : StA Tryz.prog 65 [(0, 1), (1, 1)] [kS [], kN] := StA.ofB Tryz.underlying65 (by kernel_rfl)
theorem zCN : StA Tryz.prog 130 [(0, 1), (1, 1), (2, 1), (3, 1)] [kI 0, kN, .lf (.val (.map none)), .lf (.val (.map none))] := StA.ofB Tryz.underlying130 (by kernel_rfl)
theorem zqI : MapT Tryz.prog 76 103 3 zae (Rp.int .i64) (0 : Int) := MapT.ofB Tryz.underlying76 (zAw (r := zae) Tryz.underlying103 Tryz.sizeOf3 (by kernel_rfl) (by kernel_rfl) rfl rfl (fun _ => by kernel_rfl) (fun a b => by cases a; cases b; simp [zae, eqL, leq, Bool.decide_and, Bool.beq_eq_decide_eq])) (by kernel_rfl)
theorem zrL : MapT Tryz.prog 127 169 4 zj Rp.bool (false : Bool) := MapT.ofB Tryz.underlying127 (zud Tryz.underlying169 (by kernel_rfl) rfl (fun _ => by kernel_rfl) (fun a b => by cases a; cases b; simp [zj, eqL, leq, Bool.decide_and, Bool.beq_eq_decide_eq])) (by kernel_rfl)
theorem zyI : MapT Tryz.prog 128 171 4 zi Rp.bool (false : Bool) := MapT.ofB Tryz.underlying128 (zud Tryz.underlying171 (by kernel_rfl) rfl (fun _ => by kernel_rfl) (fun a b => by cases a; cases b; simp [zi, eqL, leq, Bool.decide_and, Bool.beq_eq_decide_eq])) (by kernel_rfl)
theorem zfC : MapT Tryz.prog 164 3 166 (Rp.int .i64) zr ((⟨[], 0⟩ : zk) : zk) := MapT.ofB Tryz.underlying164 (zAx Tryz.underlying3) (by kernel_rfl)
end Go.Proofs.YtglkepeofhonlaaGreatDoor
