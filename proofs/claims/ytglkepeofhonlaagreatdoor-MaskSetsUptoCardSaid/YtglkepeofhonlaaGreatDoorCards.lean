/-
  DERIVED. GIVEN WITH THE SEED: THE CARDS: each row of YtglkepeofhonlaaGreatDoorRows.lean that lists a variable, with what it lists TIED to the program's text (the seventh form; the later family's looks); each row that meets fmt, with fmt's text TOLD by the authors' own Lean function (tested against real Go, not proved from fmt's source: count such statements apart). THE CARD IS WHAT COUNTS. Prove the row's statement (the work); the ties are given (YtglkepeofhonlaaGreatDoorTie.lean); close each card by the builder's one call (the guide's Derived/Test/ToyasCard.lean, 'card_holds'). Laid BY PROGRAM, IN A SANDBOX (cutbox-door.mjs). By AI agents, Wed Nov 11 2026. No macro, syntax, notation, axiom, sorry.
-/
import Derived.Test.YtglkepeofhonlaaGreatDoorRows
import GoSem.ClaimSeven
namespace Go.Proofs.YtglkepeofhonlaaGreatDoor
namespace Rows

/-- THE TIED CARD OF 'darninglaw13.MaskMakes'. -/
def maskMakesCard : Claim7 := { stood := { row := maskMakesRow, standIns := [], harness := (true, "4096849e30e431057f926a0efbd811b04fa25dfa4914acaea7042b1dea18fe93"), looks := false }, kinds := [], alts := [], laidByText := true, laidKinds := [.data, .pinned], laidTests := true, laidLooks := .later }
def MaskMakesCardSaid : Prop := Claim7.holds Tryz.pinned (.plain (OpenSpec.ofChange maskMakesSpec)) maskMakesCard

/-- THE TIED CARD OF 'darninglaw13.MaskWays'. -/
def maskWaysCard : Claim7 := { stood := { row := maskWaysRow, standIns := [], harness := (true, "4096849e30e431057f926a0efbd811b04fa25dfa4914acaea7042b1dea18fe93"), looks := false }, kinds := [], alts := [], laidByText := true, laidKinds := [.data, .pinned], laidTests := true, laidLooks := .later }
def MaskWaysCardSaid : Prop := Claim7.holds Tryz.pinned (.plain (OpenSpec.ofChange maskWaysSpec)) maskWaysCard

/-- THE TIED CARD OF 'darninglaw13.MaskSets'. -/
def maskSetsCard : Claim7 := { stood := { row := maskSetsRow, standIns := [], harness := (true, "4096849e30e431057f926a0efbd811b04fa25dfa4914acaea7042b1dea18fe93"), looks := false }, kinds := [], alts := [], laidByText := true, laidKinds := [.data, .pinned], laidTests := true, laidLooks := .later }
def MaskSetsCardSaid : Prop := Claim7.holds Tryz.pinned (.plain (OpenSpec.ofChange maskSetsSpec)) maskSetsCard

/-- THE TIED CARD OF 'darninglaw13.MaskNames'. -/
def maskNamesCard : Claim7 := { stood := { row := maskNamesRow, standIns := [], harness := (true, "4096849e30e431057f926a0efbd811b04fa25dfa4914acaea7042b1dea18fe93"), looks := false }, kinds := [], alts := [], laidByText := true, laidKinds := [.data, .pinned], laidTests := true, laidLooks := .later }
def MaskNamesCardSaid : Prop := Claim7.holds Tryz.pinned (.plain (OpenSpec.ofChange maskNamesSpec)) maskNamesCard

/-- THE SECOND FORM's CARD OF 'darninglaw13.MaskMakes'. -/
def maskMakesUptoCard : Claim7 := { stood := { row := maskMakesUptoRow, standIns := [], harness := (true, "4096849e30e431057f926a0efbd811b04fa25dfa4914acaea7042b1dea18fe93"), looks := false }, kinds := [], alts := [], laidByText := true, laidKinds := [.data, .pinned], laidTests := true, laidLooks := .later }
def MaskMakesUptoCardSaid : Prop := Claim7.holds Tryz.pinned (.plain (OpenSpec.upto maskMakesSpec)) maskMakesUptoCard

/-- THE SECOND FORM's CARD OF 'darninglaw13.MaskWays'. -/
def maskWaysUptoCard : Claim7 := { stood := { row := maskWaysUptoRow, standIns := [], harness := (true, "4096849e30e431057f926a0efbd811b04fa25dfa4914acaea7042b1dea18fe93"), looks := false }, kinds := [], alts := [], laidByText := true, laidKinds := [.data, .pinned], laidTests := true, laidLooks := .later }
def MaskWaysUptoCardSaid : Prop := Claim7.holds Tryz.pinned (.plain (OpenSpec.upto maskWaysSpec)) maskWaysUptoCard

/-- THE SECOND FORM's CARD OF 'darninglaw13.MaskSets'. -/
def maskSetsUptoCard : Claim7 := { stood := { row := maskSetsUptoRow, standIns := [], harness := (true, "4096849e30e431057f926a0efbd811b04fa25dfa4914acaea7042b1dea18fe93"), looks := false }, kinds := [], alts := [], laidByText := true, laidKinds := [.data, .pinned], laidTests := true, laidLooks := .later }
def MaskSetsUptoCardSaid : Prop := Claim7.holds Tryz.pinned (.plain (OpenSpec.upto maskSetsSpec)) maskSetsUptoCard

/-- THE SECOND FORM's CARD OF 'darninglaw13.MaskNames'. -/
def maskNamesUptoCard : Claim7 := { stood := { row := maskNamesUptoRow, standIns := [], harness := (true, "4096849e30e431057f926a0efbd811b04fa25dfa4914acaea7042b1dea18fe93"), looks := false }, kinds := [], alts := [], laidByText := true, laidKinds := [.data, .pinned], laidTests := true, laidLooks := .later }
def MaskNamesUptoCardSaid : Prop := Claim7.holds Tryz.pinned (.plain (OpenSpec.upto maskNamesSpec)) maskNamesUptoCard
end Rows
end Go.Proofs.YtglkepeofhonlaaGreatDoor
