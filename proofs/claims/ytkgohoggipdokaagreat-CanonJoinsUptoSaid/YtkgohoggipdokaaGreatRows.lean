/-
  NARROWER THAN 'FOR EVERY INPUT', by the rows' own cells (each row's printed sentence says how): CanonEncodes: loops · CanonValues: loops · CanonMeans: loops · CanonJoins: loops.
  DERIVED. THE GIVEN ROWS OF THIS SEAT. 5 by the template 'for every input the law returns true; each argument reads behind the call as it read before'; 0 by the template 'total and deterministic' (their statements: YtkgohoggipdokaaGreatTotals.lean).
  GIVEN WITH THE SEED: the statements are not yours to turn. If you find one false, say at which input.
  Laid BY PROGRAM, IN A SANDBOX (cutbox-rows.mjs): the forced cells as the released guide's own fill.sh prints them over the translation 40885f59005337c5… (all of the seat's roots in one cut). By AI agents, Wed Nov 11 2026. No macro, syntax, notation, axiom, sorry.
-/
import Derived.Test.YtkgohoggipdokaaGreatChecked
import GoSem.Claim
import GoSem.ClaimJoined
import GoSem.ClaimMapViews
import Derived.JoinedTies
import Derived.KernelRfl
namespace Go.Proofs.YtkgohoggipdokaaGreat
/- THE CELL 'sum', in the pinned program and in every row, IS THE sha256 OF THE DUMP (.gsa) THAT YtkgohoggipdokaaGreatProg.lean LOADS. Nothing in Lean hashes anything: it is a label: what it is worth is what the hold of that sum in a sandbox is worth. -/
noncomputable def Tryz.pinned : Pinned := { name := "ytkgohoggipdokaagreat", sum := "40885f59005337c59a0443d840744472f24c8a1d644e747d0a4a770dfd079bc2", checked := Tryz.checked }
namespace Rows
def none {H : Type} : Left H := { results := [], args := [] }

/-- 'darninglaw16.CanonEncodes': WHATEVER THE INPUT: true; the input reads as it did. -/
def canonEncodesSpec : ChangeSpec := { name := "canonEncodes", fn := fun _ => fun
  | [d1, d2, d3] => { results := [.lit (.bool true)], args := [d1, d2, d3] }
  | _ => none }
def canonEncodesRow : OpenClaim := { program := "ytkgohoggipdokaagreat", sum := "40885f59005337c59a0443d840744472f24c8a1d644e747d0a4a770dfd079bc2", func := "darning/darninglaw16.CanonEncodes", spec := "canonEncodes", unfollowed := true, recurses := true, loops := true, plainKeys := false, apart := false }
def CanonEncodesSaid : Prop := canonEncodesRow.holds Tryz.pinned (OpenSpec.ofChange canonEncodesSpec)

/-- ITS FALSE NEIGHBOUR: 'it returns false'. Refute it at one input. -/
def canonEncodesWrong : ChangeSpec := { name := "canonEncodes", fn := fun _ => fun
  | [d1, d2, d3] => { results := [.lit (.bool false)], args := [d1, d2, d3] }
  | _ => none }
def CanonEncodesWrongFalsely : Prop := canonEncodesRow.holds Tryz.pinned (OpenSpec.ofChange canonEncodesWrong)

/-- 'darninglaw16.CanonValues': WHATEVER THE INPUT: true; the input reads as it did. -/
def canonValuesSpec : ChangeSpec := { name := "canonValues", fn := fun _ => fun
  | [d1, d2, d3] => { results := [.lit (.bool true)], args := [d1, d2, d3] }
  | _ => none }
def canonValuesRow : OpenClaim := { program := "ytkgohoggipdokaagreat", sum := "40885f59005337c59a0443d840744472f24c8a1d644e747d0a4a770dfd079bc2", func := "darning/darninglaw16.CanonValues", spec := "canonValues", unfollowed := true, recurses := true, loops := true, plainKeys := false, apart := false }
def CanonValuesSaid : Prop := canonValuesRow.holds Tryz.pinned (OpenSpec.ofChange canonValuesSpec)

/-- ITS FALSE NEIGHBOUR: 'it returns false'. Refute it at one input. -/
def canonValuesWrong : ChangeSpec := { name := "canonValues", fn := fun _ => fun
  | [d1, d2, d3] => { results := [.lit (.bool false)], args := [d1, d2, d3] }
  | _ => none }
def CanonValuesWrongFalsely : Prop := canonValuesRow.holds Tryz.pinned (OpenSpec.ofChange canonValuesWrong)

/-- 'darninglaw16.CanonIs': WHATEVER THE INPUT: true; the input reads as it did. -/
def canonIsSpec : ChangeSpec := { name := "canonIs", fn := fun _ => fun
  | [d1, d2, d3] => { results := [.lit (.bool true)], args := [d1, d2, d3] }
  | _ => none }
def canonIsRow : OpenClaim := { program := "ytkgohoggipdokaagreat", sum := "40885f59005337c59a0443d840744472f24c8a1d644e747d0a4a770dfd079bc2", func := "darning/darninglaw16.CanonIs", spec := "canonIs", unfollowed := true, recurses := true, plainKeys := false, apart := false }
def CanonIsSaid : Prop := canonIsRow.holds Tryz.pinned (OpenSpec.ofChange canonIsSpec)

/-- ITS FALSE NEIGHBOUR: 'it returns false'. Refute it at one input. -/
def canonIsWrong : ChangeSpec := { name := "canonIs", fn := fun _ => fun
  | [d1, d2, d3] => { results := [.lit (.bool false)], args := [d1, d2, d3] }
  | _ => none }
def CanonIsWrongFalsely : Prop := canonIsRow.holds Tryz.pinned (OpenSpec.ofChange canonIsWrong)

/-- 'darninglaw16.CanonMeans': WHATEVER THE INPUT: true; the input reads as it did. -/
def canonMeansSpec : ChangeSpec := { name := "canonMeans", fn := fun _ => fun
  | [d1, d2, d3, d4] => { results := [.lit (.bool true)], args := [d1, d2, d3, d4] }
  | _ => none }
def canonMeansRow : OpenClaim := { program := "ytkgohoggipdokaagreat", sum := "40885f59005337c59a0443d840744472f24c8a1d644e747d0a4a770dfd079bc2", func := "darning/darninglaw16.CanonMeans", spec := "canonMeans", unfollowed := true, recurses := true, loops := true, plainKeys := false, apart := false }
def CanonMeansSaid : Prop := canonMeansRow.holds Tryz.pinned (OpenSpec.ofChange canonMeansSpec)

/-- ITS FALSE NEIGHBOUR: 'it returns false'. Refute it at one input. -/
def canonMeansWrong : ChangeSpec := { name := "canonMeans", fn := fun _ => fun
  | [d1, d2, d3, d4] => { results := [.lit (.bool false)], args := [d1, d2, d3, d4] }
  | _ => none }
def CanonMeansWrongFalsely : Prop := canonMeansRow.holds Tryz.pinned (OpenSpec.ofChange canonMeansWrong)

/-- 'darninglaw16.CanonJoins': WHATEVER THE INPUT: true; the input reads as it did. -/
def canonJoinsSpec : ChangeSpec := { name := "canonJoins", fn := fun _ => fun
  | [d1, d2, d3, d4] => { results := [.lit (.bool true)], args := [d1, d2, d3, d4] }
  | _ => none }
def canonJoinsRow : OpenClaim := { program := "ytkgohoggipdokaagreat", sum := "40885f59005337c59a0443d840744472f24c8a1d644e747d0a4a770dfd079bc2", func := "darning/darninglaw16.CanonJoins", spec := "canonJoins", unfollowed := true, recurses := true, loops := true, plainKeys := false, apart := false }
def CanonJoinsSaid : Prop := canonJoinsRow.holds Tryz.pinned (OpenSpec.ofChange canonJoinsSpec)

/-- ITS FALSE NEIGHBOUR: 'it returns false'. Refute it at one input. -/
def canonJoinsWrong : ChangeSpec := { name := "canonJoins", fn := fun _ => fun
  | [d1, d2, d3, d4] => { results := [.lit (.bool false)], args := [d1, d2, d3, d4] }
  | _ => none }
def CanonJoinsWrongFalsely : Prop := canonJoinsRow.holds Tryz.pinned (OpenSpec.ofChange canonJoinsWrong)

/- THE SECOND FORM. 'bulk': how many values and letters a reading holds, each counted each time it is reached (what is shared counts as often as it is met; a slice's spare places count too). A statement '..UptoSaid' is the law's where the arguments, and the package variables that the reading takes, are together of bulk at most 1048576: NARROWER than '..Said'. Prove '..Said' where nothing that the law and all that it calls make is longer than what came in: it says more and counts as full. Else prove '..UptoSaid'. A law counts once. -/
mutual
def uptoBulk {H : Type} : DataW H → Nat
  | .lit (.string bytes) => bytes.length + 1
  | .lit _ => 1
  | .nil => 1
  | .ptr d => uptoBulk d + 1
  | .slice elems spare => uptoBulkAll elems + uptoBulkAll spare + 1
  | .agg parts => uptoBulkAll parts + 1
  | .iface _ d => uptoBulk d + 1
  | .map entries => uptoBulkEntries entries + 1
  | .held _ => 1
def uptoBulkAll {H : Type} : List (DataW H) → Nat
  | [] => 0
  | d :: r => uptoBulk d + uptoBulkAll r
def uptoBulkEntries {H : Type} : List (Lit × DataW H) → Nat
  | [] => 0
  | x :: r => uptoBulkEntry x + uptoBulkEntries r
def uptoBulkEntry {H : Type} : Lit × DataW H → Nat
  | (.string bytes, d) => bytes.length + uptoBulk d + 1
  | (_, d) => uptoBulk d + 1
 end
def uptoSmall : (H : Type) → List (DataW H) → Bool := fun _ ds => decide (uptoBulkAll ds ≤ 1048576)
def OpenSpec.upto (s : _root_.Go.ChangeSpec) : _root_.Go.OpenSpec := { _root_.Go.OpenSpec.ofChange s with cond := some uptoSmall }

/-- 'darninglaw16.CanonEncodes', WHERE WHAT IT READS IS OF BULK AT MOST 1048576: true; the input reads as it did. -/
def canonEncodesUptoRow : OpenClaim := { program := "ytkgohoggipdokaagreat", sum := "40885f59005337c59a0443d840744472f24c8a1d644e747d0a4a770dfd079bc2", func := "darning/darninglaw16.CanonEncodes", spec := "canonEncodes", unfollowed := true, recurses := true, loops := true, plainKeys := false, apart := false, narrowed := true }
def CanonEncodesUptoSaid : Prop := canonEncodesUptoRow.holds Tryz.pinned (OpenSpec.upto canonEncodesSpec)

/-- 'darninglaw16.CanonValues', WHERE WHAT IT READS IS OF BULK AT MOST 1048576: true; the input reads as it did. -/
def canonValuesUptoRow : OpenClaim := { program := "ytkgohoggipdokaagreat", sum := "40885f59005337c59a0443d840744472f24c8a1d644e747d0a4a770dfd079bc2", func := "darning/darninglaw16.CanonValues", spec := "canonValues", unfollowed := true, recurses := true, loops := true, plainKeys := false, apart := false, narrowed := true }
def CanonValuesUptoSaid : Prop := canonValuesUptoRow.holds Tryz.pinned (OpenSpec.upto canonValuesSpec)

/-- 'darninglaw16.CanonIs', WHERE WHAT IT READS IS OF BULK AT MOST 1048576: true; the input reads as it did. -/
def canonIsUptoRow : OpenClaim := { program := "ytkgohoggipdokaagreat", sum := "40885f59005337c59a0443d840744472f24c8a1d644e747d0a4a770dfd079bc2", func := "darning/darninglaw16.CanonIs", spec := "canonIs", unfollowed := true, recurses := true, plainKeys := false, apart := false, narrowed := true }
def CanonIsUptoSaid : Prop := canonIsUptoRow.holds Tryz.pinned (OpenSpec.upto canonIsSpec)

/-- 'darninglaw16.CanonMeans', WHERE WHAT IT READS IS OF BULK AT MOST 1048576: true; the input reads as it did. -/
def canonMeansUptoRow : OpenClaim := { program := "ytkgohoggipdokaagreat", sum := "40885f59005337c59a0443d840744472f24c8a1d644e747d0a4a770dfd079bc2", func := "darning/darninglaw16.CanonMeans", spec := "canonMeans", unfollowed := true, recurses := true, loops := true, plainKeys := false, apart := false, narrowed := true }
def CanonMeansUptoSaid : Prop := canonMeansUptoRow.holds Tryz.pinned (OpenSpec.upto canonMeansSpec)

/-- 'darninglaw16.CanonJoins', WHERE WHAT IT READS IS OF BULK AT MOST 1048576: true; the input reads as it did. -/
def canonJoinsUptoRow : OpenClaim := { program := "ytkgohoggipdokaagreat", sum := "40885f59005337c59a0443d840744472f24c8a1d644e747d0a4a770dfd079bc2", func := "darning/darninglaw16.CanonJoins", spec := "canonJoins", unfollowed := true, recurses := true, loops := true, plainKeys := false, apart := false, narrowed := true }
def CanonJoinsUptoSaid : Prop := canonJoinsUptoRow.holds Tryz.pinned (OpenSpec.upto canonJoinsSpec)

end Rows
end Go.Proofs.YtkgohoggipdokaaGreat
