/-
  No cell of these rows narrows 'for every input' (looked for: loops, veiled, ifaces, maps, wideKeys, modest, calm, conditions, laid).
  DERIVED. THE GIVEN ROWS OF THIS SEAT. 4 by the template 'for every input the law returns true; each argument reads behind the call as it read before'; 0 by the template 'total and deterministic' (their statements: YthkdneddbbocmaaTotals.lean).
  GIVEN WITH THE SEED: the statements are not yours to turn. If you find one false, say at which input.
  Laid BY PROGRAM, IN A SANDBOX (cutbox-rows.mjs): the forced cells as the released guide's own fill.sh prints them over the translation dd49b17d53f74572… (all of the seat's roots in one cut). By AI agents, Wed Nov 11 2026. No macro, syntax, notation, axiom, sorry.
-/
import Derived.Test.YthkdneddbbocmaaChecked
import GoSem.Claim
import GoSem.ClaimJoined
import GoSem.ClaimMapViews
import Derived.JoinedTies
import Derived.KernelRfl
namespace Go.Proofs.Ythkdneddbbocmaa
/- THE CELL 'sum', in the pinned program and in every row, IS THE sha256 OF THE DUMP (.gsa) THAT YthkdneddbbocmaaProg.lean LOADS. Nothing in Lean hashes anything: it is a label: what it is worth is what the hold of that sum in a sandbox is worth. -/
noncomputable def Try.pinned : Pinned := { name := "ythkdneddbbocmaa", sum := "dd49b17d53f745726929f827db5bf548bcea5bf1d81d8c281d18dfca38b64ab6", checked := Try.checked }
namespace Rows
def none {H : Type} : Left H := { results := [], args := [] }

/-- 'darninglaw09.RunWords': WHATEVER THE INPUT: true; the input reads as it did. -/
def runWordsSpec : ChangeSpec := { name := "runWords", fn := fun _ => fun
  | [d1, d2, d3] => { results := [.lit (.bool true)], args := [d1, d2, d3] }
  | _ => none }
def runWordsRow : OpenClaim := { program := "ythkdneddbbocmaa", sum := "dd49b17d53f745726929f827db5bf548bcea5bf1d81d8c281d18dfca38b64ab6", func := "darning/darninglaw09.RunWords", spec := "runWords", unfollowed := true, recurses := true, apart := false }
def RunWordsSaid : Prop := runWordsRow.holds Try.pinned (OpenSpec.ofChange runWordsSpec)

/-- ITS FALSE NEIGHBOUR: 'it returns false'. Refute it at one input. -/
def runWordsWrong : ChangeSpec := { name := "runWords", fn := fun _ => fun
  | [d1, d2, d3] => { results := [.lit (.bool false)], args := [d1, d2, d3] }
  | _ => none }
def RunWordsWrongFalsely : Prop := runWordsRow.holds Try.pinned (OpenSpec.ofChange runWordsWrong)

/-- 'darninglaw09.RunPacks': WHATEVER THE INPUT: true; the input reads as it did. -/
def runPacksSpec : ChangeSpec := { name := "runPacks", fn := fun _ => fun
  | [d1, d2] => { results := [.lit (.bool true)], args := [d1, d2] }
  | _ => none }
def runPacksRow : OpenClaim := { program := "ythkdneddbbocmaa", sum := "dd49b17d53f745726929f827db5bf548bcea5bf1d81d8c281d18dfca38b64ab6", func := "darning/darninglaw09.RunPacks", spec := "runPacks", unfollowed := true, recurses := true, apart := false }
def RunPacksSaid : Prop := runPacksRow.holds Try.pinned (OpenSpec.ofChange runPacksSpec)

/-- ITS FALSE NEIGHBOUR: 'it returns false'. Refute it at one input. -/
def runPacksWrong : ChangeSpec := { name := "runPacks", fn := fun _ => fun
  | [d1, d2] => { results := [.lit (.bool false)], args := [d1, d2] }
  | _ => none }
def RunPacksWrongFalsely : Prop := runPacksRow.holds Try.pinned (OpenSpec.ofChange runPacksWrong)

/-- 'darninglaw09.RunCuts': WHATEVER THE INPUT: true; the input reads as it did. -/
def runCutsSpec : ChangeSpec := { name := "runCuts", fn := fun _ => fun
  | [d1, d2, d3] => { results := [.lit (.bool true)], args := [d1, d2, d3] }
  | _ => none }
def runCutsRow : OpenClaim := { program := "ythkdneddbbocmaa", sum := "dd49b17d53f745726929f827db5bf548bcea5bf1d81d8c281d18dfca38b64ab6", func := "darning/darninglaw09.RunCuts", spec := "runCuts", unfollowed := true, recurses := true, apart := false }
def RunCutsSaid : Prop := runCutsRow.holds Try.pinned (OpenSpec.ofChange runCutsSpec)

/-- ITS FALSE NEIGHBOUR: 'it returns false'. Refute it at one input. -/
def runCutsWrong : ChangeSpec := { name := "runCuts", fn := fun _ => fun
  | [d1, d2, d3] => { results := [.lit (.bool false)], args := [d1, d2, d3] }
  | _ => none }
def RunCutsWrongFalsely : Prop := runCutsRow.holds Try.pinned (OpenSpec.ofChange runCutsWrong)

/-- 'darninglaw09.RunTogether': WHATEVER THE INPUT: true; the input reads as it did. -/
def runTogetherSpec : ChangeSpec := { name := "runTogether", fn := fun _ => fun
  | [d1, d2, d3] => { results := [.lit (.bool true)], args := [d1, d2, d3] }
  | _ => none }
def runTogetherRow : OpenClaim := { program := "ythkdneddbbocmaa", sum := "dd49b17d53f745726929f827db5bf548bcea5bf1d81d8c281d18dfca38b64ab6", func := "darning/darninglaw09.RunTogether", spec := "runTogether", unfollowed := true, recurses := true, apart := false }
def RunTogetherSaid : Prop := runTogetherRow.holds Try.pinned (OpenSpec.ofChange runTogetherSpec)

/-- ITS FALSE NEIGHBOUR: 'it returns false'. Refute it at one input. -/
def runTogetherWrong : ChangeSpec := { name := "runTogether", fn := fun _ => fun
  | [d1, d2, d3] => { results := [.lit (.bool false)], args := [d1, d2, d3] }
  | _ => none }
def RunTogetherWrongFalsely : Prop := runTogetherRow.holds Try.pinned (OpenSpec.ofChange runTogetherWrong)

/- THE SECOND FORM. 'bulk': how many values and letters a reading holds, each counted each time it is reached (what is shared counts as often as it is met; a slice's spare places count too). A statement '..UptoSaid' is the law's where the arguments, and the package variables that the reading takes, are together of bulk at most 1048576: NARROWER than '..Said'. Prove '..Said' where nothing that the law and all that it calls make is longer than what came in: it says more and counts as full. Else prove '..UptoSaid'. A law counts once. -/
mutual
def uptoBulk {H : Type} : DataW H → Nat
  | .lit (.string bytes) => bytes.length + 1
  | .lit _ => 1
  | .nil => 1
  | .ptr d => uptoBulk d + 1
  | .slice elems spare => uptoBulkAll elems + uptoBulkAll spare + 1
  | .agg parts => uptoBulkAll parts + 1
  | .iface _ d => uptoBulk d + 1
  | .map entries => uptoBulkEntries entries + 1
  | .held _ => 1
def uptoBulkAll {H : Type} : List (DataW H) → Nat
  | [] => 0
  | d :: r => uptoBulk d + uptoBulkAll r
def uptoBulkEntries {H : Type} : List (Lit × DataW H) → Nat
  | [] => 0
  | x :: r => uptoBulkEntry x + uptoBulkEntries r
def uptoBulkEntry {H : Type} : Lit × DataW H → Nat
  | (.string bytes, d) => bytes.length + uptoBulk d + 1
  | (_, d) => uptoBulk d + 1
 end
def uptoSmall : (H : Type) → List (DataW H) → Bool := fun _ ds => decide (uptoBulkAll ds ≤ 1048576)
def OpenSpec.upto (s : _root_.Go.ChangeSpec) : _root_.Go.OpenSpec := { _root_.Go.OpenSpec.ofChange s with cond := some uptoSmall }

/-- 'darninglaw09.RunWords', WHERE WHAT IT READS IS OF BULK AT MOST 1048576: true; the input reads as it did. -/
def runWordsUptoRow : OpenClaim := { program := "ythkdneddbbocmaa", sum := "dd49b17d53f745726929f827db5bf548bcea5bf1d81d8c281d18dfca38b64ab6", func := "darning/darninglaw09.RunWords", spec := "runWords", unfollowed := true, recurses := true, apart := false, narrowed := true }
def RunWordsUptoSaid : Prop := runWordsUptoRow.holds Try.pinned (OpenSpec.upto runWordsSpec)

/-- 'darninglaw09.RunPacks', WHERE WHAT IT READS IS OF BULK AT MOST 1048576: true; the input reads as it did. -/
def runPacksUptoRow : OpenClaim := { program := "ythkdneddbbocmaa", sum := "dd49b17d53f745726929f827db5bf548bcea5bf1d81d8c281d18dfca38b64ab6", func := "darning/darninglaw09.RunPacks", spec := "runPacks", unfollowed := true, recurses := true, apart := false, narrowed := true }
def RunPacksUptoSaid : Prop := runPacksUptoRow.holds Try.pinned (OpenSpec.upto runPacksSpec)

/-- 'darninglaw09.RunCuts', WHERE WHAT IT READS IS OF BULK AT MOST 1048576: true; the input reads as it did. -/
def runCutsUptoRow : OpenClaim := { program := "ythkdneddbbocmaa", sum := "dd49b17d53f745726929f827db5bf548bcea5bf1d81d8c281d18dfca38b64ab6", func := "darning/darninglaw09.RunCuts", spec := "runCuts", unfollowed := true, recurses := true, apart := false, narrowed := true }
def RunCutsUptoSaid : Prop := runCutsUptoRow.holds Try.pinned (OpenSpec.upto runCutsSpec)

/-- 'darninglaw09.RunTogether', WHERE WHAT IT READS IS OF BULK AT MOST 1048576: true; the input reads as it did. -/
def runTogetherUptoRow : OpenClaim := { program := "ythkdneddbbocmaa", sum := "dd49b17d53f745726929f827db5bf548bcea5bf1d81d8c281d18dfca38b64ab6", func := "darning/darninglaw09.RunTogether", spec := "runTogether", unfollowed := true, recurses := true, apart := false, narrowed := true }
def RunTogetherUptoSaid : Prop := runTogetherUptoRow.holds Try.pinned (OpenSpec.upto runTogetherSpec)

end Rows
end Go.Proofs.Ythkdneddbbocmaa
