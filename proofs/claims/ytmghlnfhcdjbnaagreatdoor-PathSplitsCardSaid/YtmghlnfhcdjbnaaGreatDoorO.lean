/-
  How the arguments' types are opened. No condition.
-/
import Derived.KernelRfl
import Derived.Test.YtmghlnfhcdjbnaaGreatDoorT
import Derived.Test.YtmghlnfhcdjbnaaGreatDoorK1
namespace Go.Proofs.YtmghlnfhcdjbnaaGreatDoor
open Go Go.RowKit
theorem op22 : zjK Tryz.prog 22 (Rp.list Rp.str) (fun x => x.length * 16 ≤ 140737488351232 ∧ ∀ x' ∈ x, x'.length ≤ 140737488351232) := zkY Tryz.underlying22 (by kernel_rfl) (by kernel_rfl) (fun _ => zni Tryz.underlying9)
end Go.Proofs.YtmghlnfhcdjbnaaGreatDoor
