/-
  Facts on the types of the program. No condition.
-/
import Derived.KernelRfl
import Derived.Test.YtdpolccecmaajaaProg
import Derived.Test.YtdpolccecmaajaaK1
import Derived.Lib.SlBytesConst
import Derived.Test.YtdpolccecmaajaaK2
import Derived.Test.YtdpolccecmaajaaS1
namespace Go.Proofs.Ytdpolccecmaajaa
open Go Go.RowKit
set_option linter.unusedVariables false
theorem zdE : Try.prog.follows .mixedOrders = true := by kernel_rfl
theorem zfp : ZeT Try.prog 22 55 za 48 ((⟨[], 0, 0, false, false, 0⟩ : zd) : zd) := ZeT.ofB Try.underlying22 (by kernel_rfl)
theorem zcG : ZeT Try.prog 25 5 Rp.byte 1 (0 : UInt8) := ZeT.ofB Try.underlying25 (by kernel_rfl)
theorem zev : ZeT Try.prog 40 31 zc 56 ((⟨(⟨0, 0, 0, 0, 0⟩ : ze), 0, false⟩ : zb) : zb) := ZeT.ofB Try.underlying40 (by kernel_rfl)
theorem zjE : ZeT Try.prog 43 37 zp 56 ((⟨(⟨0, 0, 0, 0, 0⟩ : ze), 0, false⟩ : zn) : zn) := ZeT.ofB Try.underlying43 (by kernel_rfl)
theorem ziL : ZeT Try.prog 49 25 (Rp.list Rp.byte) 24 ([] : (List UInt8)) := ZeT.ofB Try.underlying49 (by kernel_rfl)
theorem zaA : za.Plain := fun x => by simp [za, LV.plain]
theorem zgp : zp.Plain := fun x => by simp [zp, LV.plain]
theorem zcx : zc.Plain := fun x => by simp [zc, LV.plain]
theorem zmA : StT Try.prog 29 [(0, 1), (1, 1), (2, 1), (3, 1), (4, 1)] [.int .i64 0, .int .i64 0, .int .i64 0, .int .i64 0, .int .i64 0] := StT.ofB Try.underlying29 (by kernel_rfl)
theorem zos : StT Try.prog 31 [(0, 5), (5, 1), (6, 1)] [.int .i64 0, .int .i64 0, .int .i64 0, .int .i64 0, .int .i64 0, .int .i64 0, .bool false] := StT.ofB Try.underlying31 (by kernel_rfl)
theorem ziB : StT Try.prog 35 [(0, 1), (1, 1), (2, 1), (3, 1), (4, 1)] [.int .i64 0, .int .i64 0, .int .i64 0, .int .i64 0, .int .i64 0] := StT.ofB Try.underlying35 (by kernel_rfl)
theorem zle : StT Try.prog 37 [(0, 5), (5, 1), (6, 1)] [.int .i64 0, .int .i64 0, .int .i64 0, .int .i64 0, .int .i64 0, .int .i64 0, .bool false] := StT.ofB Try.underlying37 (by kernel_rfl)
theorem zql : StT Try.prog 55 [(0, 1), (1, 1), (2, 1), (3, 1), (4, 1), (5, 1)] [.str [], .int .i64 0, .int .i64 0, .bool false, .bool false, .int .i64 0] := StT.ofB Try.underlying55 (by kernel_rfl)
theorem zqm : StT Try.prog 67 [(0, 1), (1, 1)] [.int .i64 0, .int .i64 0] := StT.ofB Try.underlying67 (by kernel_rfl)
theorem zot : StT Try.prog 69 [(0, 1), (1, 1), (2, 1)] [.int .i64 0, .bool false, .int .u8 0] := StT.ofB Try.underlying69 (by kernel_rfl)
theorem zou : StT Try.prog 79 [(0, 1), (1, 1)] [.int .i64 0, .int .i64 0] := StT.ofB Try.underlying79 (by kernel_rfl)
theorem zdh : StT Try.prog 98 [(0, 1), (1, 1)] [.str [], .int .i64 0] := StT.ofB Try.underlying98 (by kernel_rfl)
theorem zpA : StA Try.prog 24 [(0, 1), (1, 1)] [kS [], kN] := StA.ofB Try.underlying24 (by kernel_rfl)
theorem znV : MapT Try.prog 58 67 69 zt zu ((⟨0, false, 0⟩ : zq) : zq) := MapT.ofB Try.underlying58 (zmN Try.underlying67 (by kernel_rfl) rfl (fun _ => by kernel_rfl) (fun a b => by cases a; cases b; simp [zt, eqL, leq, Bool.decide_and, Bool.beq_eq_decide_eq])) (by kernel_rfl)
theorem zbb : MapT Try.prog 100 3 98 (Rp.int .i64) zh ((⟨[], 0⟩ : zf) : zf) := MapT.ofB Try.underlying100 (znF Try.underlying3) (by kernel_rfl)
theorem zqb (a b : ze) : ∀ w, (Op.equalIn 10000 35 (.agg ((zg.lv a).map zaj).toArray) (.agg ((zg.lv b).map zaj).toArray)).run Try.prog w = .ok (decide (a = b)) w := eqT Try.underlying35 (by kernel_rfl) (by kernel_rfl) (by kernel_rfl) (by cases a; cases b; simp [zg, eqL, leq, Bool.decide_and, Bool.beq_eq_decide_eq])
end Go.Proofs.Ytdpolccecmaajaa
