/-
  No cell of these rows narrows 'for every input' (looked for: loops, veiled, ifaces, maps, wideKeys, modest, calm, conditions, laid).
  DERIVED. THE GIVEN ROWS OF THIS SEAT. 4 by the template 'for every input the law returns true; each argument reads behind the call as it read before'; 0 by the template 'total and deterministic' (their statements: YtaglemhabeipfaaGreatTotals.lean).
  GIVEN WITH THE SEED: the statements are not yours to turn. If you find one false, say at which input.
  Laid BY PROGRAM, IN A SANDBOX (cutbox-rows.mjs): the forced cells as the released guide's own fill.sh prints them over the translation 55a79d122baf74d2… (all of the seat's roots in one cut). By AI agents, Wed Nov 11 2026. No macro, syntax, notation, axiom, sorry.
-/
import Derived.Test.YtaglemhabeipfaaGreatChecked
import GoSem.Claim
import GoSem.ClaimJoined
import GoSem.ClaimMapViews
import Derived.JoinedTies
import Derived.KernelRfl
namespace Go.Proofs.YtaglemhabeipfaaGreat
/- THE CELL 'sum', in the pinned program and in every row, IS THE sha256 OF THE DUMP (.gsa) THAT YtaglemhabeipfaaGreatProg.lean LOADS. Nothing in Lean hashes anything: it is a label: what it is worth is what the hold of that sum in a sandbox is worth. -/
noncomputable def Tryz.pinned : Pinned := { name := "ytaglemhabeipfaagreat", sum := "55a79d122baf74d22893af4149e2be1a7835f1e574d384733e6295d78eda4064", checked := Tryz.checked }
namespace Rows
def none {H : Type} : Left H := { results := [], args := [] }

/-- 'darninglaw18.NormForms': WHATEVER THE INPUT: true; the input reads as it did. -/
def normFormsSpec : ChangeSpec := { name := "normForms", fn := fun _ => fun
  | [d1, d2, d3, d4, d5] => { results := [.lit (.bool true)], args := [d1, d2, d3, d4, d5] }
  | _ => none }
def normFormsRow : OpenClaim := { program := "ytaglemhabeipfaagreat", sum := "55a79d122baf74d22893af4149e2be1a7835f1e574d384733e6295d78eda4064", func := "darning/darninglaw18.NormForms", spec := "normForms", inPlace := ["slices.overlaps[byte]"], unfollowed := true, recurses := true, plainKeys := false, apart := false }
def NormFormsSaid : Prop := normFormsRow.holds Tryz.pinned (OpenSpec.ofChange normFormsSpec)

/-- ITS FALSE NEIGHBOUR: 'it returns false'. Refute it at one input. -/
def normFormsWrong : ChangeSpec := { name := "normForms", fn := fun _ => fun
  | [d1, d2, d3, d4, d5] => { results := [.lit (.bool false)], args := [d1, d2, d3, d4, d5] }
  | _ => none }
def NormFormsWrongFalsely : Prop := normFormsRow.holds Tryz.pinned (OpenSpec.ofChange normFormsWrong)

/-- 'darninglaw18.NormSame': WHATEVER THE INPUT: true; the input reads as it did. -/
def normSameSpec : ChangeSpec := { name := "normSame", fn := fun _ => fun
  | [d1, d2, d3, d4, d5] => { results := [.lit (.bool true)], args := [d1, d2, d3, d4, d5] }
  | _ => none }
def normSameRow : OpenClaim := { program := "ytaglemhabeipfaagreat", sum := "55a79d122baf74d22893af4149e2be1a7835f1e574d384733e6295d78eda4064", func := "darning/darninglaw18.NormSame", spec := "normSame", inPlace := ["slices.overlaps[byte]"], unfollowed := true, recurses := true, plainKeys := false, apart := false }
def NormSameSaid : Prop := normSameRow.holds Tryz.pinned (OpenSpec.ofChange normSameSpec)

/-- ITS FALSE NEIGHBOUR: 'it returns false'. Refute it at one input. -/
def normSameWrong : ChangeSpec := { name := "normSame", fn := fun _ => fun
  | [d1, d2, d3, d4, d5] => { results := [.lit (.bool false)], args := [d1, d2, d3, d4, d5] }
  | _ => none }
def NormSameWrongFalsely : Prop := normSameRow.holds Tryz.pinned (OpenSpec.ofChange normSameWrong)

/-- 'darninglaw18.NormStays': WHATEVER THE INPUT: true; the input reads as it did. -/
def normStaysSpec : ChangeSpec := { name := "normStays", fn := fun _ => fun
  | [d1, d2, d3, d4, d5] => { results := [.lit (.bool true)], args := [d1, d2, d3, d4, d5] }
  | _ => none }
def normStaysRow : OpenClaim := { program := "ytaglemhabeipfaagreat", sum := "55a79d122baf74d22893af4149e2be1a7835f1e574d384733e6295d78eda4064", func := "darning/darninglaw18.NormStays", spec := "normStays", inPlace := ["slices.overlaps[byte]"], unfollowed := true, recurses := true, plainKeys := false, apart := false }
def NormStaysSaid : Prop := normStaysRow.holds Tryz.pinned (OpenSpec.ofChange normStaysSpec)

/-- ITS FALSE NEIGHBOUR: 'it returns false'. Refute it at one input. -/
def normStaysWrong : ChangeSpec := { name := "normStays", fn := fun _ => fun
  | [d1, d2, d3, d4, d5] => { results := [.lit (.bool false)], args := [d1, d2, d3, d4, d5] }
  | _ => none }
def NormStaysWrongFalsely : Prop := normStaysRow.holds Tryz.pinned (OpenSpec.ofChange normStaysWrong)

/-- 'darninglaw18.NormMerges': WHATEVER THE INPUT: true; the input reads as it did. -/
def normMergesSpec : ChangeSpec := { name := "normMerges", fn := fun _ => fun
  | [d1, d2, d3, d4, d5] => { results := [.lit (.bool true)], args := [d1, d2, d3, d4, d5] }
  | _ => none }
def normMergesRow : OpenClaim := { program := "ytaglemhabeipfaagreat", sum := "55a79d122baf74d22893af4149e2be1a7835f1e574d384733e6295d78eda4064", func := "darning/darninglaw18.NormMerges", spec := "normMerges", inPlace := ["slices.overlaps[byte]"], unfollowed := true, recurses := true, plainKeys := false, apart := false }
def NormMergesSaid : Prop := normMergesRow.holds Tryz.pinned (OpenSpec.ofChange normMergesSpec)

/-- ITS FALSE NEIGHBOUR: 'it returns false'. Refute it at one input. -/
def normMergesWrong : ChangeSpec := { name := "normMerges", fn := fun _ => fun
  | [d1, d2, d3, d4, d5] => { results := [.lit (.bool false)], args := [d1, d2, d3, d4, d5] }
  | _ => none }
def NormMergesWrongFalsely : Prop := normMergesRow.holds Tryz.pinned (OpenSpec.ofChange normMergesWrong)

/- THE SECOND FORM. 'bulk': how many values and letters a reading holds, each counted each time it is reached (what is shared counts as often as it is met; a slice's spare places count too). A statement '..UptoSaid' is the law's where the arguments, and the package variables that the reading takes, are together of bulk at most 1048576: NARROWER than '..Said'. Prove '..Said' where nothing that the law and all that it calls make is longer than what came in: it says more and counts as full. Else prove '..UptoSaid'. A law counts once. -/
mutual
def uptoBulk {H : Type} : DataW H → Nat
  | .lit (.string bytes) => bytes.length + 1
  | .lit _ => 1
  | .nil => 1
  | .ptr d => uptoBulk d + 1
  | .slice elems spare => uptoBulkAll elems + uptoBulkAll spare + 1
  | .agg parts => uptoBulkAll parts + 1
  | .iface _ d => uptoBulk d + 1
  | .map entries => uptoBulkEntries entries + 1
  | .held _ => 1
def uptoBulkAll {H : Type} : List (DataW H) → Nat
  | [] => 0
  | d :: r => uptoBulk d + uptoBulkAll r
def uptoBulkEntries {H : Type} : List (Lit × DataW H) → Nat
  | [] => 0
  | x :: r => uptoBulkEntry x + uptoBulkEntries r
def uptoBulkEntry {H : Type} : Lit × DataW H → Nat
  | (.string bytes, d) => bytes.length + uptoBulk d + 1
  | (_, d) => uptoBulk d + 1
 end
def uptoSmall : (H : Type) → List (DataW H) → Bool := fun _ ds => decide (uptoBulkAll ds ≤ 1048576)
def OpenSpec.upto (s : _root_.Go.ChangeSpec) : _root_.Go.OpenSpec := { _root_.Go.OpenSpec.ofChange s with cond := some uptoSmall }

/-- 'darninglaw18.NormForms', WHERE WHAT IT READS IS OF BULK AT MOST 1048576: true; the input reads as it did. -/
def normFormsUptoRow : OpenClaim := { program := "ytaglemhabeipfaagreat", sum := "55a79d122baf74d22893af4149e2be1a7835f1e574d384733e6295d78eda4064", func := "darning/darninglaw18.NormForms", spec := "normForms", inPlace := ["slices.overlaps[byte]"], unfollowed := true, recurses := true, plainKeys := false, apart := false, narrowed := true }
def NormFormsUptoSaid : Prop := normFormsUptoRow.holds Tryz.pinned (OpenSpec.upto normFormsSpec)

/-- 'darninglaw18.NormSame', WHERE WHAT IT READS IS OF BULK AT MOST 1048576: true; the input reads as it did. -/
def normSameUptoRow : OpenClaim := { program := "ytaglemhabeipfaagreat", sum := "55a79d122baf74d22893af4149e2be1a7835f1e574d384733e6295d78eda4064", func := "darning/darninglaw18.NormSame", spec := "normSame", inPlace := ["slices.overlaps[byte]"], unfollowed := true, recurses := true, plainKeys := false, apart := false, narrowed := true }
def NormSameUptoSaid : Prop := normSameUptoRow.holds Tryz.pinned (OpenSpec.upto normSameSpec)

/-- 'darninglaw18.NormStays', WHERE WHAT IT READS IS OF BULK AT MOST 1048576: true; the input reads as it did. -/
def normStaysUptoRow : OpenClaim := { program := "ytaglemhabeipfaagreat", sum := "55a79d122baf74d22893af4149e2be1a7835f1e574d384733e6295d78eda4064", func := "darning/darninglaw18.NormStays", spec := "normStays", inPlace := ["slices.overlaps[byte]"], unfollowed := true, recurses := true, plainKeys := false, apart := false, narrowed := true }
def NormStaysUptoSaid : Prop := normStaysUptoRow.holds Tryz.pinned (OpenSpec.upto normStaysSpec)

/-- 'darninglaw18.NormMerges', WHERE WHAT IT READS IS OF BULK AT MOST 1048576: true; the input reads as it did. -/
def normMergesUptoRow : OpenClaim := { program := "ytaglemhabeipfaagreat", sum := "55a79d122baf74d22893af4149e2be1a7835f1e574d384733e6295d78eda4064", func := "darning/darninglaw18.NormMerges", spec := "normMerges", inPlace := ["slices.overlaps[byte]"], unfollowed := true, recurses := true, plainKeys := false, apart := false, narrowed := true }
def NormMergesUptoSaid : Prop := normMergesUptoRow.holds Tryz.pinned (OpenSpec.upto normMergesSpec)

end Rows
end Go.Proofs.YtaglemhabeipfaaGreat
