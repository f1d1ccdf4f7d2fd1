/-
  DERIVED. GIVEN WITH THE SEED: THE CARDS: each row of YtmoinfkjcfkokaaDoorRows.lean that lists a variable, with what it lists TIED to the program's text (the seventh form; the later family's looks); each row that meets fmt, with fmt's text TOLD by the authors' own Lean function (tested against real Go, not proved from fmt's source: count such statements apart). THE CARD IS WHAT COUNTS. Prove the row's statement (the work); the ties are given (YtmoinfkjcfkokaaDoorTie.lean); close each card by the builder's one call (the guide's Derived/Test/ToyasCard.lean, 'card_holds'). Laid BY PROGRAM, IN A SANDBOX (cutbox-door.mjs). By AI agents, Wed Nov 11 2026. No macro, syntax, notation, axiom, sorry.
-/
import Derived.Test.YtmoinfkjcfkokaaDoorRows
import GoSem.ClaimSeven
namespace Go.Proofs.YtmoinfkjcfkokaaDoor
namespace Rows

/-- THE TIED CARD OF 'bookplatelaw06.FoldForms'. -/
def foldFormsCard : Claim7 := { stood := { row := foldFormsRow, standIns := [], harness := (true, "f6fb486e32702c11a74ae20260d9ad192fb03cb2f79143fe3a881c00ffeb60a8"), looks := false }, kinds := [], alts := [], laidByText := true, laidKinds := [.data], laidTests := true, laidLooks := .later }
def FoldFormsCardSaid : Prop := Claim7.holds Tryd.pinned (.plain (OpenSpec.ofChange foldFormsSpec)) foldFormsCard

/-- THE TIED CARD OF 'bookplatelaw06.FoldTwice'. -/
def foldTwiceCard : Claim7 := { stood := { row := foldTwiceRow, standIns := [], harness := (true, "f6fb486e32702c11a74ae20260d9ad192fb03cb2f79143fe3a881c00ffeb60a8"), looks := false }, kinds := [], alts := [], laidByText := true, laidKinds := [.data], laidTests := true, laidLooks := .later }
def FoldTwiceCardSaid : Prop := Claim7.holds Tryd.pinned (.plain (OpenSpec.ofChange foldTwiceSpec)) foldTwiceCard

/-- THE TIED CARD OF 'bookplatelaw06.FoldEqual'. -/
def foldEqualCard : Claim7 := { stood := { row := foldEqualRow, standIns := [], harness := (true, "f6fb486e32702c11a74ae20260d9ad192fb03cb2f79143fe3a881c00ffeb60a8"), looks := false }, kinds := [], alts := [], laidByText := true, laidKinds := [.data], laidTests := true, laidLooks := .later }
def FoldEqualCardSaid : Prop := Claim7.holds Tryd.pinned (.plain (OpenSpec.ofChange foldEqualSpec)) foldEqualCard

/-- THE TIED CARD OF 'bookplatelaw06.FoldCharacters'. -/
def foldCharactersCard : Claim7 := { stood := { row := foldCharactersRow, standIns := [], harness := (true, "f6fb486e32702c11a74ae20260d9ad192fb03cb2f79143fe3a881c00ffeb60a8"), looks := false }, kinds := [], alts := [], laidByText := true, laidKinds := [.data], laidTests := true, laidLooks := .later }
def FoldCharactersCardSaid : Prop := Claim7.holds Tryd.pinned (.plain (OpenSpec.ofChange foldCharactersSpec)) foldCharactersCard

/-- THE TIED CARD OF 'bookplatelaw06.FoldJoins'. -/
def foldJoinsCard : Claim7 := { stood := { row := foldJoinsRow, standIns := [], harness := (true, "f6fb486e32702c11a74ae20260d9ad192fb03cb2f79143fe3a881c00ffeb60a8"), looks := false }, kinds := [], alts := [], laidByText := true, laidKinds := [.data], laidTests := true, laidLooks := .later }
def FoldJoinsCardSaid : Prop := Claim7.holds Tryd.pinned (.plain (OpenSpec.ofChange foldJoinsSpec)) foldJoinsCard

/-- THE TIED CARD OF 'bookplatelaw06.FoldLower'. -/
def foldLowerCard : Claim7 := { stood := { row := foldLowerRow, standIns := [], harness := (true, "f6fb486e32702c11a74ae20260d9ad192fb03cb2f79143fe3a881c00ffeb60a8"), looks := false }, kinds := [], alts := [], laidByText := true, laidKinds := [.data], laidTests := true, laidLooks := .later }
def FoldLowerCardSaid : Prop := Claim7.holds Tryd.pinned (.plain (OpenSpec.ofChange foldLowerSpec)) foldLowerCard

/-- THE TIED CARD OF 'bookplatelaw06.FoldMarks'. -/
def foldMarksCard : Claim7 := { stood := { row := foldMarksRow, standIns := [], harness := (true, "f6fb486e32702c11a74ae20260d9ad192fb03cb2f79143fe3a881c00ffeb60a8"), looks := false }, kinds := [], alts := [], laidByText := true, laidKinds := [.data], laidTests := true, laidLooks := .later }
def FoldMarksCardSaid : Prop := Claim7.holds Tryd.pinned (.plain (OpenSpec.ofChange foldMarksSpec)) foldMarksCard

/-- THE SECOND FORM's CARD OF 'bookplatelaw06.FoldForms'. -/
def foldFormsUptoCard : Claim7 := { stood := { row := foldFormsUptoRow, standIns := [], harness := (true, "f6fb486e32702c11a74ae20260d9ad192fb03cb2f79143fe3a881c00ffeb60a8"), looks := false }, kinds := [], alts := [], laidByText := true, laidKinds := [.data], laidTests := true, laidLooks := .later }
def FoldFormsUptoCardSaid : Prop := Claim7.holds Tryd.pinned (.plain (OpenSpec.upto foldFormsSpec)) foldFormsUptoCard

/-- THE SECOND FORM's CARD OF 'bookplatelaw06.FoldTwice'. -/
def foldTwiceUptoCard : Claim7 := { stood := { row := foldTwiceUptoRow, standIns := [], harness := (true, "f6fb486e32702c11a74ae20260d9ad192fb03cb2f79143fe3a881c00ffeb60a8"), looks := false }, kinds := [], alts := [], laidByText := true, laidKinds := [.data], laidTests := true, laidLooks := .later }
def FoldTwiceUptoCardSaid : Prop := Claim7.holds Tryd.pinned (.plain (OpenSpec.upto foldTwiceSpec)) foldTwiceUptoCard

/-- THE SECOND FORM's CARD OF 'bookplatelaw06.FoldEqual'. -/
def foldEqualUptoCard : Claim7 := { stood := { row := foldEqualUptoRow, standIns := [], harness := (true, "f6fb486e32702c11a74ae20260d9ad192fb03cb2f79143fe3a881c00ffeb60a8"), looks := false }, kinds := [], alts := [], laidByText := true, laidKinds := [.data], laidTests := true, laidLooks := .later }
def FoldEqualUptoCardSaid : Prop := Claim7.holds Tryd.pinned (.plain (OpenSpec.upto foldEqualSpec)) foldEqualUptoCard

/-- THE SECOND FORM's CARD OF 'bookplatelaw06.FoldCharacters'. -/
def foldCharactersUptoCard : Claim7 := { stood := { row := foldCharactersUptoRow, standIns := [], harness := (true, "f6fb486e32702c11a74ae20260d9ad192fb03cb2f79143fe3a881c00ffeb60a8"), looks := false }, kinds := [], alts := [], laidByText := true, laidKinds := [.data], laidTests := true, laidLooks := .later }
def FoldCharactersUptoCardSaid : Prop := Claim7.holds Tryd.pinned (.plain (OpenSpec.upto foldCharactersSpec)) foldCharactersUptoCard

/-- THE SECOND FORM's CARD OF 'bookplatelaw06.FoldJoins'. -/
def foldJoinsUptoCard : Claim7 := { stood := { row := foldJoinsUptoRow, standIns := [], harness := (true, "f6fb486e32702c11a74ae20260d9ad192fb03cb2f79143fe3a881c00ffeb60a8"), looks := false }, kinds := [], alts := [], laidByText := true, laidKinds := [.data], laidTests := true, laidLooks := .later }
def FoldJoinsUptoCardSaid : Prop := Claim7.holds Tryd.pinned (.plain (OpenSpec.upto foldJoinsSpec)) foldJoinsUptoCard

/-- THE SECOND FORM's CARD OF 'bookplatelaw06.FoldLower'. -/
def foldLowerUptoCard : Claim7 := { stood := { row := foldLowerUptoRow, standIns := [], harness := (true, "f6fb486e32702c11a74ae20260d9ad192fb03cb2f79143fe3a881c00ffeb60a8"), looks := false }, kinds := [], alts := [], laidByText := true, laidKinds := [.data], laidTests := true, laidLooks := .later }
def FoldLowerUptoCardSaid : Prop := Claim7.holds Tryd.pinned (.plain (OpenSpec.upto foldLowerSpec)) foldLowerUptoCard

/-- THE SECOND FORM's CARD OF 'bookplatelaw06.FoldMarks'. -/
def foldMarksUptoCard : Claim7 := { stood := { row := foldMarksUptoRow, standIns := [], harness := (true, "f6fb486e32702c11a74ae20260d9ad192fb03cb2f79143fe3a881c00ffeb60a8"), looks := false }, kinds := [], alts := [], laidByText := true, laidKinds := [.data], laidTests := true, laidLooks := .later }
def FoldMarksUptoCardSaid : Prop := Claim7.holds Tryd.pinned (.plain (OpenSpec.upto foldMarksSpec)) foldMarksUptoCard
end Rows
end Go.Proofs.YtmoinfkjcfkokaaDoor
