/-
  The laws as plain functions. No condition.
-/
import Derived.Deep.CondSized
import Derived.Deep.DeepHandedRow
import Derived.Test.YtkgohoggipdokaaGreatx1K1
import Derived.Test.YtkgohoggipdokaaGreatRows
namespace Go.Proofs.YtkgohoggipdokaaGreat
open Go Go.ChangeShapes Go.WideShapes Go.RowKit
theorem zzP {H:Type} {d:DataW H}:∀{l:List (DataW H)},d∈l->Rows.uptoBulk d<=Rows.uptoBulkAll l
  | x::r,h=>by
    simp only [Rows.uptoBulkAll];rcases xD.1 h with e| e
    · subst e;omega
    · have:=zzP e;omega
def SzU (P:Program) {H:Type} (t:TypeId) (d:DataW H):Prop:=SzOk P t d/\Rows.uptoBulk d<=1048576
theorem SzU.of_each {H:Type} {P:Program} {ts:List TypeId} {ds:List (DataW H)} (h:(DataW.weightsEach P ts ds).all (·<=reachBytes)=true) (hk:Rows.uptoSmall H ds=true) (j:Nat) {t:TypeId} {d:DataW H} (ht:ts[j]? =some t) (hd:ds[j]? =some d):SzU P t d:=
  ⟨SzOk.of_each h j ht hd,yC (zzP (pf hd)) (yO hk)⟩
section
end
section
end
end Go.Proofs.YtkgohoggipdokaaGreat
