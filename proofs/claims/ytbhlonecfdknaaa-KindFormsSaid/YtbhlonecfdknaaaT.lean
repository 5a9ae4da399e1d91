/-
  Facts on the types of the program. No condition.
-/
import Derived.KernelRfl
import Derived.Test.YtbhlonecfdknaaaProg
import Derived.Test.YtbhlonecfdknaaaK1
import Derived.Lib.SlBytesConst
import Derived.Test.YtbhlonecfdknaaaS1
namespace Go.Proofs.Ytbhlonecfdknaaa
open Go Go.RowKit
set_option linter.unusedVariables false
theorem mixed : Try.prog.follows .mixedOrders = true := by kernel_rfl
theorem zet26 : ZeT Try.prog 26 9 Rp.str 16 ([] : Str) := ZeT.ofB Try.underlying26 (by kernel_rfl)
theorem zet28 : ZeT Try.prog 28 3 (Rp.int .i64) 8 (0 : Int) := ZeT.ofB Try.underlying28 (by kernel_rfl)
theorem stt48 : StT Try.prog 48 [(0, 1), (1, 1)] [.str [], .int .i64 0] := StT.ofB Try.underlying48 (by kernel_rfl)
theorem mapt45 : MapT Try.prog 45 3 48 (Rp.int .i64) R_name_wire ((⟨[], 0⟩ : T_name_wire) : T_name_wire) := MapT.ofB Try.underlying45 (keyT_int Try.underlying3) (by kernel_rfl)
end Go.Proofs.Ytbhlonecfdknaaa
