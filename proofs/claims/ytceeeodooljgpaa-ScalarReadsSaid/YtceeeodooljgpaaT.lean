/-
  Facts on the types of the program. No condition.
-/
import Derived.KernelRfl
import Derived.Test.YtceeeodooljgpaaProg
import Derived.Test.YtceeeodooljgpaaK1
import Derived.Test.YtceeeodooljgpaaS1
namespace Go.Proofs.Ytceeeodooljgpaa
open Go Go.RowKit
set_option linter.unusedVariables false
theorem zet22 : ZeT Try.prog 22 5 Rp.byte 1 (0 : UInt8) := ZeT.ofB Try.underlying22 (by kernel_rfl)
end Go.Proofs.Ytceeeodooljgpaa
