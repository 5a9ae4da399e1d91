/-
  The laws as plain functions. No condition.
-/
import Derived.Test.YtaglemhabeipfaaGreatx1P2
import Derived.Test.YtaglemhabeipfaaGreatx1P3
import Derived.Test.YtaglemhabeipfaaGreatx1O
namespace Go.Proofs.YtaglemhabeipfaaGreat
open Go
set_option linter.unusedVariables false
theorem zQj {c:Int} (h:0<=c/\c<=255):IntKind.i64.wrap c=c:=uX
theorem zEe {a b:List UInt8}:zpp a b<0↔a=b:=by
 unfold zpp;by_cases h:a=b
 ·rw [xr h];simp [h]
 ·rw [xq h];constructor
  ·intro h';omega
  ·intro h';exact absurd h' h
theorem zLC (k:Nat):zfp (k+400)=some true:=by kernel_rfl
theorem zJF {fuel:Nat} (hf:400<=fuel):zfp fuel=some true:=by
 obtain ⟨k,rfl⟩:=Nat.exists_eq_add_of_le' hf;exact zLC k
theorem ws18 {s:List Mes} (w:s.length*40<=140737488351232/\∀m∈s,zkG m):WS s:=
 ⟨by omega,fun m hm=>⟨(w.2 m hm).1,by have:=(w.2 m hm).2.1;omega,fun f hf=>((w.2 m hm).2.2 f hf).1⟩⟩
end Go.Proofs.YtaglemhabeipfaaGreat
