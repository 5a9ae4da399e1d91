/-
  Records of the program. No condition.
-/
import Derived.Test.YtnhnanbgphdaeaaMap
namespace Go.Proofs.Ytnhnanbgphdaeaa
open Go
set_option linter.unusedVariables false
abbrev Str := List UInt8
structure T_Number_Wire where
  Number : Int
  Wire : Int deriving DecidableEq
def R_Number_Wire : Rp T_Number_Wire := ⟨2, true, fun x => [.int .i64 x.Number, .int .i64 x.Wire], fun _ => rfl, by decide⟩
structure T_Number_Wire_From_At_To where
  Number : Int
  Wire : Int
  From : Int
  At : Int
  To : Int deriving DecidableEq
def R_Number_Wire_From_At_To : Rp T_Number_Wire_From_At_To := ⟨5, true, fun x => [.int .i64 x.Number, .int .i64 x.Wire, .int .i64 x.From, .int .i64 x.At, .int .i64 x.To], fun _ => rfl, by decide⟩
end Go.Proofs.Ytnhnanbgphdaeaa
