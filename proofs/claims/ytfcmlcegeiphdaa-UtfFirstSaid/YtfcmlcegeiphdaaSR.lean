/-
  Records of the program. No condition.
-/
import Derived.Test.YtfcmlcegeiphdaaMap
namespace Go.Proofs.Ytfcmlcegeiphdaa
open Go
set_option linter.unusedVariables false
abbrev Str := List UInt8
structure T_Number_Wire where
  Number : Int
  Wire : Int deriving DecidableEq
def R_Number_Wire : Rp T_Number_Wire := ⟨2, true, fun x => [.int .i64 x.Number, .int .i64 x.Wire], fun _ => rfl, by decide⟩
end Go.Proofs.Ytfcmlcegeiphdaa
