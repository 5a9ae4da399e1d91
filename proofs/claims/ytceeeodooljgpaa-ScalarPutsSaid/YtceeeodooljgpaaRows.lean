/-
  No cell of these rows narrows 'for every input' (looked for: loops, veiled, ifaces, maps, wideKeys, modest, calm, conditions, laid).
  DERIVED. THE GIVEN ROWS OF THIS SEAT. 3 by the template 'for every input the law returns true; each argument reads behind the call as it read before'; 0 by the template 'total and deterministic' (their statements: YtceeeodooljgpaaTotals.lean).
  GIVEN WITH THE SEED: the statements are not yours to turn. If you find one false, say at which input.
  Laid BY PROGRAM, IN A SANDBOX (cutbox-rows.mjs): the forced cells as the released guide's own fill.sh prints them over the translation 2b308ea0c5856684… (all of the seat's roots in one cut). By AI agents, Wed Nov 11 2026. No macro, syntax, notation, axiom, sorry.
-/
import Derived.Test.YtceeeodooljgpaaChecked
import GoSem.Claim
import GoSem.ClaimJoined
import GoSem.ClaimMapViews
import Derived.JoinedTies
import Derived.KernelRfl
namespace Go.Proofs.Ytceeeodooljgpaa
/- THE CELL 'sum', in the pinned program and in every row, IS THE sha256 OF THE DUMP (.gsa) THAT YtceeeodooljgpaaProg.lean LOADS. Nothing in Lean hashes anything: it is a label: what it is worth is what the hold of that sum in a sandbox is worth. -/
noncomputable def Try.pinned : Pinned := { name := "ytceeeodooljgpaa", sum := "2b308ea0c585668446b1b133d9d5ec2fea676b33c4449327b981778bdc922f5f", checked := Try.checked }
namespace Rows
def none {H : Type} : Left H := { results := [], args := [] }

/-- 'darninglaw08.ScalarReads': WHATEVER THE INPUT: true; the input reads as it did. -/
def scalarReadsSpec : ChangeSpec := { name := "scalarReads", fn := fun _ => fun
  | [d1, d2] => { results := [.lit (.bool true)], args := [d1, d2] }
  | _ => none }
def scalarReadsRow : OpenClaim := { program := "ytceeeodooljgpaa", sum := "2b308ea0c585668446b1b133d9d5ec2fea676b33c4449327b981778bdc922f5f", func := "darning/darninglaw08.ScalarReads", spec := "scalarReads", recurses := true, apart := false }
def ScalarReadsSaid : Prop := scalarReadsRow.holds Try.pinned (OpenSpec.ofChange scalarReadsSpec)

/-- ITS FALSE NEIGHBOUR: 'it returns false'. Refute it at one input. -/
def scalarReadsWrong : ChangeSpec := { name := "scalarReads", fn := fun _ => fun
  | [d1, d2] => { results := [.lit (.bool false)], args := [d1, d2] }
  | _ => none }
def ScalarReadsWrongFalsely : Prop := scalarReadsRow.holds Try.pinned (OpenSpec.ofChange scalarReadsWrong)

/-- 'darninglaw08.ScalarPuts': WHATEVER THE INPUT: true; the input reads as it did. -/
def scalarPutsSpec : ChangeSpec := { name := "scalarPuts", fn := fun _ => fun
  | [d1, d2] => { results := [.lit (.bool true)], args := [d1, d2] }
  | _ => none }
def scalarPutsRow : OpenClaim := { program := "ytceeeodooljgpaa", sum := "2b308ea0c585668446b1b133d9d5ec2fea676b33c4449327b981778bdc922f5f", func := "darning/darninglaw08.ScalarPuts", spec := "scalarPuts", recurses := true, apart := false }
def ScalarPutsSaid : Prop := scalarPutsRow.holds Try.pinned (OpenSpec.ofChange scalarPutsSpec)

/-- ITS FALSE NEIGHBOUR: 'it returns false'. Refute it at one input. -/
def scalarPutsWrong : ChangeSpec := { name := "scalarPuts", fn := fun _ => fun
  | [d1, d2] => { results := [.lit (.bool false)], args := [d1, d2] }
  | _ => none }
def ScalarPutsWrongFalsely : Prop := scalarPutsRow.holds Try.pinned (OpenSpec.ofChange scalarPutsWrong)

/-- 'darninglaw08.ScalarSame': WHATEVER THE INPUT: true; the input reads as it did. -/
def scalarSameSpec : ChangeSpec := { name := "scalarSame", fn := fun _ => fun
  | [d1, d2, d3, d4, d5] => { results := [.lit (.bool true)], args := [d1, d2, d3, d4, d5] }
  | _ => none }
def scalarSameRow : OpenClaim := { program := "ytceeeodooljgpaa", sum := "2b308ea0c585668446b1b133d9d5ec2fea676b33c4449327b981778bdc922f5f", func := "darning/darninglaw08.ScalarSame", spec := "scalarSame", apart := false }
def ScalarSameSaid : Prop := scalarSameRow.holds Try.pinned (OpenSpec.ofChange scalarSameSpec)

/-- ITS FALSE NEIGHBOUR: 'it returns false'. Refute it at one input. -/
def scalarSameWrong : ChangeSpec := { name := "scalarSame", fn := fun _ => fun
  | [d1, d2, d3, d4, d5] => { results := [.lit (.bool false)], args := [d1, d2, d3, d4, d5] }
  | _ => none }
def ScalarSameWrongFalsely : Prop := scalarSameRow.holds Try.pinned (OpenSpec.ofChange scalarSameWrong)

/- THE SECOND FORM. 'bulk': how many values and letters a reading holds, each counted each time it is reached (what is shared counts as often as it is met; a slice's spare places count too). A statement '..UptoSaid' is the law's where the arguments, and the package variables that the reading takes, are together of bulk at most 1048576: NARROWER than '..Said'. Prove '..Said' where nothing that the law and all that it calls make is longer than what came in: it says more and counts as full. Else prove '..UptoSaid'. A law counts once. -/
mutual
def uptoBulk {H : Type} : DataW H → Nat
  | .lit (.string bytes) => bytes.length + 1
  | .lit _ => 1
  | .nil => 1
  | .ptr d => uptoBulk d + 1
  | .slice elems spare => uptoBulkAll elems + uptoBulkAll spare + 1
  | .agg parts => uptoBulkAll parts + 1
  | .iface _ d => uptoBulk d + 1
  | .map entries => uptoBulkEntries entries + 1
  | .held _ => 1
def uptoBulkAll {H : Type} : List (DataW H) → Nat
  | [] => 0
  | d :: r => uptoBulk d + uptoBulkAll r
def uptoBulkEntries {H : Type} : List (Lit × DataW H) → Nat
  | [] => 0
  | x :: r => uptoBulkEntry x + uptoBulkEntries r
def uptoBulkEntry {H : Type} : Lit × DataW H → Nat
  | (.string bytes, d) => bytes.length + uptoBulk d + 1
  | (_, d) => uptoBulk d + 1
 end
def uptoSmall : (H : Type) → List (DataW H) → Bool := fun _ ds => decide (uptoBulkAll ds ≤ 1048576)
def OpenSpec.upto (s : _root_.Go.ChangeSpec) : _root_.Go.OpenSpec := { _root_.Go.OpenSpec.ofChange s with cond := some uptoSmall }

/-- 'darninglaw08.ScalarReads', WHERE WHAT IT READS IS OF BULK AT MOST 1048576: true; the input reads as it did. -/
def scalarReadsUptoRow : OpenClaim := { program := "ytceeeodooljgpaa", sum := "2b308ea0c585668446b1b133d9d5ec2fea676b33c4449327b981778bdc922f5f", func := "darning/darninglaw08.ScalarReads", spec := "scalarReads", recurses := true, apart := false, narrowed := true }
def ScalarReadsUptoSaid : Prop := scalarReadsUptoRow.holds Try.pinned (OpenSpec.upto scalarReadsSpec)

/-- 'darninglaw08.ScalarPuts', WHERE WHAT IT READS IS OF BULK AT MOST 1048576: true; the input reads as it did. -/
def scalarPutsUptoRow : OpenClaim := { program := "ytceeeodooljgpaa", sum := "2b308ea0c585668446b1b133d9d5ec2fea676b33c4449327b981778bdc922f5f", func := "darning/darninglaw08.ScalarPuts", spec := "scalarPuts", recurses := true, apart := false, narrowed := true }
def ScalarPutsUptoSaid : Prop := scalarPutsUptoRow.holds Try.pinned (OpenSpec.upto scalarPutsSpec)

/-- 'darninglaw08.ScalarSame', WHERE WHAT IT READS IS OF BULK AT MOST 1048576: true; the input reads as it did. -/
def scalarSameUptoRow : OpenClaim := { program := "ytceeeodooljgpaa", sum := "2b308ea0c585668446b1b133d9d5ec2fea676b33c4449327b981778bdc922f5f", func := "darning/darninglaw08.ScalarSame", spec := "scalarSame", apart := false, narrowed := true }
def ScalarSameUptoSaid : Prop := scalarSameUptoRow.holds Try.pinned (OpenSpec.upto scalarSameSpec)

end Rows
end Go.Proofs.Ytceeeodooljgpaa
