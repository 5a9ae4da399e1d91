/-
  Facts on the types of the program. No condition.
-/
import Derived.KernelRfl
import Derived.Test.YthkdneddbbocmaaProg
import Derived.Test.YthkdneddbbocmaaK1
import Derived.Test.YthkdneddbbocmaaK2
import Derived.Test.YthkdneddbbocmaaS1
namespace Go.Proofs.Ythkdneddbbocmaa
open Go Go.RowKit
set_option linter.unusedVariables false
theorem mixed : Try.prog.follows .mixedOrders = true := by kernel_rfl
theorem zet22 : ZeT Try.prog 22 5 Rp.byte 1 (0 : UInt8) := ZeT.ofB Try.underlying22 (by kernel_rfl)
theorem zet24 : ZeT Try.prog 24 32 (Rp.int .u64) 8 (0 : Int) := ZeT.ofB Try.underlying24 (by kernel_rfl)
theorem zet46 : ZeT Try.prog 46 3 (Rp.int .i64) 8 (0 : Int) := ZeT.ofB Try.underlying46 (by kernel_rfl)
theorem zet73 : ZeT Try.prog 73 22 (Rp.list Rp.byte) 24 ([] : (List UInt8)) := ZeT.ofB Try.underlying73 (by kernel_rfl)
end Go.Proofs.Ythkdneddbbocmaa
