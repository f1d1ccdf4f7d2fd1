/-
  DERIVED. GIVEN WITH THE SEED: THE CARDS: each row of YtbnchnbblchmnaaGreatDoorRows.lean that lists a variable, with what it lists TIED to the program's text (the seventh form; the later family's looks); each row that meets fmt, with fmt's text TOLD by the authors' own Lean function (tested against real Go, not proved from fmt's source: count such statements apart). THE CARD IS WHAT COUNTS. Prove the row's statement (the work); the ties are given (YtbnchnbblchmnaaGreatDoorTie.lean); close each card by the builder's one call (the guide's Derived/Test/ToyasCard.lean, 'card_holds'). Laid BY PROGRAM, IN A SANDBOX (cutbox-door.mjs). By AI agents, Wed Nov 11 2026. No macro, syntax, notation, axiom, sorry.
-/
import Derived.Test.YtbnchnbblchmnaaGreatDoorRows
import GoSem.ClaimSeven
namespace Go.Proofs.YtbnchnbblchmnaaGreatDoor
namespace Rows

/-- THE TIED CARD OF 'bookplatelaw10.TokenSets'. -/
def tokenSetsCard : Claim7 := { stood := { row := tokenSetsRow, standIns := [], harness := (true, "10a574b8e7cd3641429e1a1f2106fc0585f9f6b35d5f54a6b04931adb1f8b97d"), looks := false }, kinds := [], alts := [], laidByText := true, laidKinds := [.data, .listed, .data, .data, .pinned], laidTests := true, laidLooks := .later }
def TokenSetsCardSaid : Prop := Claim7.holds Tryz.pinned (.plain (OpenSpec.ofChange tokenSetsSpec)) tokenSetsCard

/-- THE TIED CARD OF 'bookplatetop.WholeTitles'. -/
def wholeTitlesCard : Claim7 := { stood := { row := wholeTitlesRow, standIns := [], harness := (true, "10a574b8e7cd3641429e1a1f2106fc0585f9f6b35d5f54a6b04931adb1f8b97d"), looks := false }, kinds := [], alts := [], laidByText := true, laidKinds := [.data, .listed, .data, .data, .pinned], laidTests := true, laidLooks := .later }
def WholeTitlesCardSaid : Prop := Claim7.holds Tryz.pinned (.plain (OpenSpec.ofChange wholeTitlesSpec)) wholeTitlesCard

/-- THE TIED CARD OF 'bookplatetop.WholeSearchForms'. -/
def wholeSearchFormsCard : Claim7 := { stood := { row := wholeSearchFormsRow, standIns := [], harness := (true, "10a574b8e7cd3641429e1a1f2106fc0585f9f6b35d5f54a6b04931adb1f8b97d"), looks := false }, kinds := [], alts := [], laidByText := true, laidKinds := [.data, .listed, .data, .data, .pinned], laidTests := true, laidLooks := .later }
def WholeSearchFormsCardSaid : Prop := Claim7.holds Tryz.pinned (.plain (OpenSpec.ofChange wholeSearchFormsSpec)) wholeSearchFormsCard

/-- THE SECOND FORM's CARD OF 'bookplatelaw10.TokenSets'. -/
def tokenSetsUptoCard : Claim7 := { stood := { row := tokenSetsUptoRow, standIns := [], harness := (true, "10a574b8e7cd3641429e1a1f2106fc0585f9f6b35d5f54a6b04931adb1f8b97d"), looks := false }, kinds := [], alts := [], laidByText := true, laidKinds := [.data, .listed, .data, .data, .pinned], laidTests := true, laidLooks := .later }
def TokenSetsUptoCardSaid : Prop := Claim7.holds Tryz.pinned (.plain (OpenSpec.upto tokenSetsSpec)) tokenSetsUptoCard

/-- THE SECOND FORM's CARD OF 'bookplatetop.WholeTitles'. -/
def wholeTitlesUptoCard : Claim7 := { stood := { row := wholeTitlesUptoRow, standIns := [], harness := (true, "10a574b8e7cd3641429e1a1f2106fc0585f9f6b35d5f54a6b04931adb1f8b97d"), looks := false }, kinds := [], alts := [], laidByText := true, laidKinds := [.data, .listed, .data, .data, .pinned], laidTests := true, laidLooks := .later }
def WholeTitlesUptoCardSaid : Prop := Claim7.holds Tryz.pinned (.plain (OpenSpec.upto wholeTitlesSpec)) wholeTitlesUptoCard

/-- THE SECOND FORM's CARD OF 'bookplatetop.WholeSearchForms'. -/
def wholeSearchFormsUptoCard : Claim7 := { stood := { row := wholeSearchFormsUptoRow, standIns := [], harness := (true, "10a574b8e7cd3641429e1a1f2106fc0585f9f6b35d5f54a6b04931adb1f8b97d"), looks := false }, kinds := [], alts := [], laidByText := true, laidKinds := [.data, .listed, .data, .data, .pinned], laidTests := true, laidLooks := .later }
def WholeSearchFormsUptoCardSaid : Prop := Claim7.holds Tryz.pinned (.plain (OpenSpec.upto wholeSearchFormsSpec)) wholeSearchFormsUptoCard
end Rows
end Go.Proofs.YtbnchnbblchmnaaGreatDoor
