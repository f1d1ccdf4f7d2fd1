/-
  DERIVED. GIVEN WITH THE SEED: THE CARDS: each row of YtpgaebdaakllaaaDoorRows.lean that lists a variable, with what it lists TIED to the program's text (the seventh form; the later family's looks); each row that meets fmt, with fmt's text TOLD by the authors' own Lean function (tested against real Go, not proved from fmt's source: count such statements apart). THE CARD IS WHAT COUNTS. Prove the row's statement (the work); the ties are given (YtpgaebdaakllaaaDoorTie.lean); close each card by the builder's one call (the guide's Derived/Test/ToyasCard.lean, 'card_holds'). Laid BY PROGRAM, IN A SANDBOX (cutbox-door.mjs). By AI agents, Wed Nov 11 2026. No macro, syntax, notation, axiom, sorry.
-/
import Derived.Test.YtpgaebdaakllaaaDoorRows
import GoSem.ClaimSeven
namespace Go.Proofs.YtpgaebdaakllaaaDoor
namespace Rows

/-- THE TIED CARD OF 'bookplatelaw05.NormalForms'. -/
def normalFormsCard : Claim7 := { stood := { row := normalFormsRow, standIns := [], harness := (true, "910111c6eb4e83a55821490134a9a392135bd58c415fd3f1dff24d9a6ffbf71d"), looks := false }, kinds := [], alts := [], laidByText := true, laidKinds := [.data], laidTests := true, laidLooks := .later }
def NormalFormsCardSaid : Prop := Claim7.holds Tryd.pinned (.plain (OpenSpec.ofChange normalFormsSpec)) normalFormsCard

/-- THE TIED CARD OF 'bookplatelaw05.NormalTwice'. -/
def normalTwiceCard : Claim7 := { stood := { row := normalTwiceRow, standIns := [], harness := (true, "910111c6eb4e83a55821490134a9a392135bd58c415fd3f1dff24d9a6ffbf71d"), looks := false }, kinds := [], alts := [], laidByText := true, laidKinds := [.data], laidTests := true, laidLooks := .later }
def NormalTwiceCardSaid : Prop := Claim7.holds Tryd.pinned (.plain (OpenSpec.ofChange normalTwiceSpec)) normalTwiceCard

/-- THE TIED CARD OF 'bookplatelaw05.NormalEqual'. -/
def normalEqualCard : Claim7 := { stood := { row := normalEqualRow, standIns := [], harness := (true, "910111c6eb4e83a55821490134a9a392135bd58c415fd3f1dff24d9a6ffbf71d"), looks := false }, kinds := [], alts := [], laidByText := true, laidKinds := [.data], laidTests := true, laidLooks := .later }
def NormalEqualCardSaid : Prop := Claim7.holds Tryd.pinned (.plain (OpenSpec.ofChange normalEqualSpec)) normalEqualCard

/-- THE TIED CARD OF 'bookplatelaw05.NormalOrder'. -/
def normalOrderCard : Claim7 := { stood := { row := normalOrderRow, standIns := [], harness := (true, "910111c6eb4e83a55821490134a9a392135bd58c415fd3f1dff24d9a6ffbf71d"), looks := false }, kinds := [], alts := [], laidByText := true, laidKinds := [.data], laidTests := true, laidLooks := .later }
def NormalOrderCardSaid : Prop := Claim7.holds Tryd.pinned (.plain (OpenSpec.ofChange normalOrderSpec)) normalOrderCard

/-- THE TIED CARD OF 'bookplatelaw05.NormalJoins'. -/
def normalJoinsCard : Claim7 := { stood := { row := normalJoinsRow, standIns := [], harness := (true, "910111c6eb4e83a55821490134a9a392135bd58c415fd3f1dff24d9a6ffbf71d"), looks := false }, kinds := [], alts := [], laidByText := true, laidKinds := [.data], laidTests := true, laidLooks := .later }
def NormalJoinsCardSaid : Prop := Claim7.holds Tryd.pinned (.plain (OpenSpec.ofChange normalJoinsSpec)) normalJoinsCard

/-- THE TIED CARD OF 'bookplatelaw05.NormalStrips'. -/
def normalStripsCard : Claim7 := { stood := { row := normalStripsRow, standIns := [], harness := (true, "910111c6eb4e83a55821490134a9a392135bd58c415fd3f1dff24d9a6ffbf71d"), looks := false }, kinds := [], alts := [], laidByText := true, laidKinds := [.data], laidTests := true, laidLooks := .later }
def NormalStripsCardSaid : Prop := Claim7.holds Tryd.pinned (.plain (OpenSpec.ofChange normalStripsSpec)) normalStripsCard

/-- THE TIED CARD OF 'bookplatelaw05.NormalLetters'. -/
def normalLettersCard : Claim7 := { stood := { row := normalLettersRow, standIns := [], harness := (true, "910111c6eb4e83a55821490134a9a392135bd58c415fd3f1dff24d9a6ffbf71d"), looks := false }, kinds := [], alts := [], laidByText := true, laidKinds := [.data], laidTests := true, laidLooks := .later }
def NormalLettersCardSaid : Prop := Claim7.holds Tryd.pinned (.plain (OpenSpec.ofChange normalLettersSpec)) normalLettersCard

/-- THE SECOND FORM's CARD OF 'bookplatelaw05.NormalForms'. -/
def normalFormsUptoCard : Claim7 := { stood := { row := normalFormsUptoRow, standIns := [], harness := (true, "910111c6eb4e83a55821490134a9a392135bd58c415fd3f1dff24d9a6ffbf71d"), looks := false }, kinds := [], alts := [], laidByText := true, laidKinds := [.data], laidTests := true, laidLooks := .later }
def NormalFormsUptoCardSaid : Prop := Claim7.holds Tryd.pinned (.plain (OpenSpec.upto normalFormsSpec)) normalFormsUptoCard

/-- THE SECOND FORM's CARD OF 'bookplatelaw05.NormalTwice'. -/
def normalTwiceUptoCard : Claim7 := { stood := { row := normalTwiceUptoRow, standIns := [], harness := (true, "910111c6eb4e83a55821490134a9a392135bd58c415fd3f1dff24d9a6ffbf71d"), looks := false }, kinds := [], alts := [], laidByText := true, laidKinds := [.data], laidTests := true, laidLooks := .later }
def NormalTwiceUptoCardSaid : Prop := Claim7.holds Tryd.pinned (.plain (OpenSpec.upto normalTwiceSpec)) normalTwiceUptoCard

/-- THE SECOND FORM's CARD OF 'bookplatelaw05.NormalEqual'. -/
def normalEqualUptoCard : Claim7 := { stood := { row := normalEqualUptoRow, standIns := [], harness := (true, "910111c6eb4e83a55821490134a9a392135bd58c415fd3f1dff24d9a6ffbf71d"), looks := false }, kinds := [], alts := [], laidByText := true, laidKinds := [.data], laidTests := true, laidLooks := .later }
def NormalEqualUptoCardSaid : Prop := Claim7.holds Tryd.pinned (.plain (OpenSpec.upto normalEqualSpec)) normalEqualUptoCard

/-- THE SECOND FORM's CARD OF 'bookplatelaw05.NormalOrder'. -/
def normalOrderUptoCard : Claim7 := { stood := { row := normalOrderUptoRow, standIns := [], harness := (true, "910111c6eb4e83a55821490134a9a392135bd58c415fd3f1dff24d9a6ffbf71d"), looks := false }, kinds := [], alts := [], laidByText := true, laidKinds := [.data], laidTests := true, laidLooks := .later }
def NormalOrderUptoCardSaid : Prop := Claim7.holds Tryd.pinned (.plain (OpenSpec.upto normalOrderSpec)) normalOrderUptoCard

/-- THE SECOND FORM's CARD OF 'bookplatelaw05.NormalJoins'. -/
def normalJoinsUptoCard : Claim7 := { stood := { row := normalJoinsUptoRow, standIns := [], harness := (true, "910111c6eb4e83a55821490134a9a392135bd58c415fd3f1dff24d9a6ffbf71d"), looks := false }, kinds := [], alts := [], laidByText := true, laidKinds := [.data], laidTests := true, laidLooks := .later }
def NormalJoinsUptoCardSaid : Prop := Claim7.holds Tryd.pinned (.plain (OpenSpec.upto normalJoinsSpec)) normalJoinsUptoCard

/-- THE SECOND FORM's CARD OF 'bookplatelaw05.NormalStrips'. -/
def normalStripsUptoCard : Claim7 := { stood := { row := normalStripsUptoRow, standIns := [], harness := (true, "910111c6eb4e83a55821490134a9a392135bd58c415fd3f1dff24d9a6ffbf71d"), looks := false }, kinds := [], alts := [], laidByText := true, laidKinds := [.data], laidTests := true, laidLooks := .later }
def NormalStripsUptoCardSaid : Prop := Claim7.holds Tryd.pinned (.plain (OpenSpec.upto normalStripsSpec)) normalStripsUptoCard

/-- THE SECOND FORM's CARD OF 'bookplatelaw05.NormalLetters'. -/
def normalLettersUptoCard : Claim7 := { stood := { row := normalLettersUptoRow, standIns := [], harness := (true, "910111c6eb4e83a55821490134a9a392135bd58c415fd3f1dff24d9a6ffbf71d"), looks := false }, kinds := [], alts := [], laidByText := true, laidKinds := [.data], laidTests := true, laidLooks := .later }
def NormalLettersUptoCardSaid : Prop := Claim7.holds Tryd.pinned (.plain (OpenSpec.upto normalLettersSpec)) normalLettersUptoCard
end Rows
end Go.Proofs.YtpgaebdaakllaaaDoor
