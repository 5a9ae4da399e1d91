/-
  No cell of these rows narrows 'for every input' (looked for: loops, veiled, ifaces, maps, wideKeys, modest, calm, conditions, laid).
  DERIVED. THE GIVEN ROWS OF THIS SEAT. 3 by the template 'for every input the law returns true; each argument reads behind the call as it read before'; 0 by the template 'total and deterministic' (their statements: YtbhlonecfdknaaaTotals.lean).
  GIVEN WITH THE SEED: the statements are not yours to turn. If you find one false, say at which input.
  Laid BY PROGRAM, IN A SANDBOX (cutbox-rows.mjs): the forced cells as the released guide's own fill.sh prints them over the translation 95c35b0f4f6fc1d0… (all of the seat's roots in one cut). By AI agents, Wed Nov 11 2026. No macro, syntax, notation, axiom, sorry.
-/
import Derived.Test.YtbhlonecfdknaaaChecked
import GoSem.Claim
import GoSem.ClaimJoined
import GoSem.ClaimMapViews
import Derived.JoinedTies
import Derived.KernelRfl
namespace Go.Proofs.Ytbhlonecfdknaaa
/- THE CELL 'sum', in the pinned program and in every row, IS THE sha256 OF THE DUMP (.gsa) THAT YtbhlonecfdknaaaProg.lean LOADS. Nothing in Lean hashes anything: it is a label: what it is worth is what the hold of that sum in a sandbox is worth. -/
noncomputable def Try.pinned : Pinned := { name := "ytbhlonecfdknaaa", sum := "95c35b0f4f6fc1d0a9d864447fa9841358a32664a5a8631185d1537c2b8f45af", checked := Try.checked }
namespace Rows
def none {H : Type} : Left H := { results := [], args := [] }

/-- 'darninglaw06.KindForms': WHATEVER THE INPUT: true; the input reads as it did. -/
def kindFormsSpec : ChangeSpec := { name := "kindForms", fn := fun _ => fun
  | [d1, d2] => { results := [.lit (.bool true)], args := [d1, d2] }
  | _ => none }
def kindFormsRow : OpenClaim := { program := "ytbhlonecfdknaaa", sum := "95c35b0f4f6fc1d0a9d864447fa9841358a32664a5a8631185d1537c2b8f45af", func := "darning/darninglaw06.KindForms", spec := "kindForms", unfollowed := true, recurses := true, apart := false }
def KindFormsSaid : Prop := kindFormsRow.holds Try.pinned (OpenSpec.ofChange kindFormsSpec)

/-- ITS FALSE NEIGHBOUR: 'it returns false'. Refute it at one input. -/
def kindFormsWrong : ChangeSpec := { name := "kindForms", fn := fun _ => fun
  | [d1, d2] => { results := [.lit (.bool false)], args := [d1, d2] }
  | _ => none }
def KindFormsWrongFalsely : Prop := kindFormsRow.holds Try.pinned (OpenSpec.ofChange kindFormsWrong)

/-- 'darninglaw06.KindWords': WHATEVER THE INPUT: true; the input reads as it did. -/
def kindWordsSpec : ChangeSpec := { name := "kindWords", fn := fun _ => fun
  | [d1, d2] => { results := [.lit (.bool true)], args := [d1, d2] }
  | _ => none }
def kindWordsRow : OpenClaim := { program := "ytbhlonecfdknaaa", sum := "95c35b0f4f6fc1d0a9d864447fa9841358a32664a5a8631185d1537c2b8f45af", func := "darning/darninglaw06.KindWords", spec := "kindWords", apart := false }
def KindWordsSaid : Prop := kindWordsRow.holds Try.pinned (OpenSpec.ofChange kindWordsSpec)

/-- ITS FALSE NEIGHBOUR: 'it returns false'. Refute it at one input. -/
def kindWordsWrong : ChangeSpec := { name := "kindWords", fn := fun _ => fun
  | [d1, d2] => { results := [.lit (.bool false)], args := [d1, d2] }
  | _ => none }
def KindWordsWrongFalsely : Prop := kindWordsRow.holds Try.pinned (OpenSpec.ofChange kindWordsWrong)

/-- 'darninglaw06.KindStays': WHATEVER THE INPUT: true; the input reads as it did. -/
def kindStaysSpec : ChangeSpec := { name := "kindStays", fn := fun _ => fun
  | [d1, d2, d3] => { results := [.lit (.bool true)], args := [d1, d2, d3] }
  | _ => none }
def kindStaysRow : OpenClaim := { program := "ytbhlonecfdknaaa", sum := "95c35b0f4f6fc1d0a9d864447fa9841358a32664a5a8631185d1537c2b8f45af", func := "darning/darninglaw06.KindStays", spec := "kindStays", apart := false }
def KindStaysSaid : Prop := kindStaysRow.holds Try.pinned (OpenSpec.ofChange kindStaysSpec)

/-- ITS FALSE NEIGHBOUR: 'it returns false'. Refute it at one input. -/
def kindStaysWrong : ChangeSpec := { name := "kindStays", fn := fun _ => fun
  | [d1, d2, d3] => { results := [.lit (.bool false)], args := [d1, d2, d3] }
  | _ => none }
def KindStaysWrongFalsely : Prop := kindStaysRow.holds Try.pinned (OpenSpec.ofChange kindStaysWrong)

/- THE SECOND FORM. 'bulk': how many values and letters a reading holds, each counted each time it is reached (what is shared counts as often as it is met; a slice's spare places count too). A statement '..UptoSaid' is the law's where the arguments, and the package variables that the reading takes, are together of bulk at most 1048576: NARROWER than '..Said'. Prove '..Said' where nothing that the law and all that it calls make is longer than what came in: it says more and counts as full. Else prove '..UptoSaid'. A law counts once. -/
mutual
def uptoBulk {H : Type} : DataW H → Nat
  | .lit (.string bytes) => bytes.length + 1
  | .lit _ => 1
  | .nil => 1
  | .ptr d => uptoBulk d + 1
  | .slice elems spare => uptoBulkAll elems + uptoBulkAll spare + 1
  | .agg parts => uptoBulkAll parts + 1
  | .iface _ d => uptoBulk d + 1
  | .map entries => uptoBulkEntries entries + 1
  | .held _ => 1
def uptoBulkAll {H : Type} : List (DataW H) → Nat
  | [] => 0
  | d :: r => uptoBulk d + uptoBulkAll r
def uptoBulkEntries {H : Type} : List (Lit × DataW H) → Nat
  | [] => 0
  | x :: r => uptoBulkEntry x + uptoBulkEntries r
def uptoBulkEntry {H : Type} : Lit × DataW H → Nat
  | (.string bytes, d) => bytes.length + uptoBulk d + 1
  | (_, d) => uptoBulk d + 1
 end
def uptoSmall : (H : Type) → List (DataW H) → Bool := fun _ ds => decide (uptoBulkAll ds ≤ 1048576)
def OpenSpec.upto (s : _root_.Go.ChangeSpec) : _root_.Go.OpenSpec := { _root_.Go.OpenSpec.ofChange s with cond := some uptoSmall }

/-- 'darninglaw06.KindForms', WHERE WHAT IT READS IS OF BULK AT MOST 1048576: true; the input reads as it did. -/
def kindFormsUptoRow : OpenClaim := { program := "ytbhlonecfdknaaa", sum := "95c35b0f4f6fc1d0a9d864447fa9841358a32664a5a8631185d1537c2b8f45af", func := "darning/darninglaw06.KindForms", spec := "kindForms", unfollowed := true, recurses := true, apart := false, narrowed := true }
def KindFormsUptoSaid : Prop := kindFormsUptoRow.holds Try.pinned (OpenSpec.upto kindFormsSpec)

/-- 'darninglaw06.KindWords', WHERE WHAT IT READS IS OF BULK AT MOST 1048576: true; the input reads as it did. -/
def kindWordsUptoRow : OpenClaim := { program := "ytbhlonecfdknaaa", sum := "95c35b0f4f6fc1d0a9d864447fa9841358a32664a5a8631185d1537c2b8f45af", func := "darning/darninglaw06.KindWords", spec := "kindWords", apart := false, narrowed := true }
def KindWordsUptoSaid : Prop := kindWordsUptoRow.holds Try.pinned (OpenSpec.upto kindWordsSpec)

/-- 'darninglaw06.KindStays', WHERE WHAT IT READS IS OF BULK AT MOST 1048576: true; the input reads as it did. -/
def kindStaysUptoRow : OpenClaim := { program := "ytbhlonecfdknaaa", sum := "95c35b0f4f6fc1d0a9d864447fa9841358a32664a5a8631185d1537c2b8f45af", func := "darning/darninglaw06.KindStays", spec := "kindStays", apart := false, narrowed := true }
def KindStaysUptoSaid : Prop := kindStaysUptoRow.holds Try.pinned (OpenSpec.upto kindStaysSpec)

end Rows
end Go.Proofs.Ytbhlonecfdknaaa
