/-
  DERIVED. GIVEN WITH THE SEED: THE CARDS: each row of YtidbkllhlllnnaaDoorRows.lean that lists a variable, with what it lists TIED to the program's text (the seventh form; the later family's looks); each row that meets fmt, with fmt's text TOLD by the authors' own Lean function (tested against real Go, not proved from fmt's source: count such statements apart). THE CARD IS WHAT COUNTS. Prove the row's statement (the work); the ties are given (YtidbkllhlllnnaaDoorTie.lean); close each card by the builder's one call (the guide's Derived/Test/ToyasCard.lean, 'card_holds'). Laid BY PROGRAM, IN A SANDBOX (cutbox-door.mjs). By AI agents, Wed Nov 11 2026. No macro, syntax, notation, axiom, sorry.
-/
import Derived.Test.YtidbkllhlllnnaaDoorRows
import GoSem.ClaimSeven
namespace Go.Proofs.YtidbkllhlllnnaaDoor
namespace Rows

/-- THE TIED CARD OF 'bookplatelaw04.RepertoireClass'. -/
def repertoireClassCard : Claim7 := { stood := { row := repertoireClassRow, standIns := [], harness := (true, "2a31326882631dcb157b10cf7fcb7cea9c5a2e3e1abeccd06a8d8d8e4070b91f"), looks := false }, kinds := [], alts := [], laidByText := true, laidKinds := [.data], laidTests := true, laidLooks := .later }
def RepertoireClassCardSaid : Prop := Claim7.holds Tryd.pinned (.plain (OpenSpec.ofChange repertoireClassSpec)) repertoireClassCard

/-- THE TIED CARD OF 'bookplatelaw04.RepertoireDecode'. -/
def repertoireDecodeCard : Claim7 := { stood := { row := repertoireDecodeRow, standIns := [], harness := (true, "2a31326882631dcb157b10cf7fcb7cea9c5a2e3e1abeccd06a8d8d8e4070b91f"), looks := false }, kinds := [], alts := [], laidByText := true, laidKinds := [.data], laidTests := true, laidLooks := .later }
def RepertoireDecodeCardSaid : Prop := Claim7.holds Tryd.pinned (.plain (OpenSpec.ofChange repertoireDecodeSpec)) repertoireDecodeCard

/-- THE TIED CARD OF 'bookplatelaw04.RepertoireEncode'. -/
def repertoireEncodeCard : Claim7 := { stood := { row := repertoireEncodeRow, standIns := [], harness := (true, "2a31326882631dcb157b10cf7fcb7cea9c5a2e3e1abeccd06a8d8d8e4070b91f"), looks := false }, kinds := [], alts := [], laidByText := true, laidKinds := [.data], laidTests := true, laidLooks := .later }
def RepertoireEncodeCardSaid : Prop := Claim7.holds Tryd.pinned (.plain (OpenSpec.ofChange repertoireEncodeSpec)) repertoireEncodeCard

/-- THE TIED CARD OF 'bookplatelaw04.RepertoireInverse'. -/
def repertoireInverseCard : Claim7 := { stood := { row := repertoireInverseRow, standIns := [], harness := (true, "2a31326882631dcb157b10cf7fcb7cea9c5a2e3e1abeccd06a8d8d8e4070b91f"), looks := false }, kinds := [], alts := [], laidByText := true, laidKinds := [.data], laidTests := true, laidLooks := .later }
def RepertoireInverseCardSaid : Prop := Claim7.holds Tryd.pinned (.plain (OpenSpec.ofChange repertoireInverseSpec)) repertoireInverseCard

/-- THE TIED CARD OF 'bookplatelaw04.RepertoireCut'. -/
def repertoireCutCard : Claim7 := { stood := { row := repertoireCutRow, standIns := [], harness := (true, "2a31326882631dcb157b10cf7fcb7cea9c5a2e3e1abeccd06a8d8d8e4070b91f"), looks := false }, kinds := [], alts := [], laidByText := true, laidKinds := [.data], laidTests := true, laidLooks := .later }
def RepertoireCutCardSaid : Prop := Claim7.holds Tryd.pinned (.plain (OpenSpec.ofChange repertoireCutSpec)) repertoireCutCard

/-- THE TIED CARD OF 'bookplatelaw04.RepertoireList'. -/
def repertoireListCard : Claim7 := { stood := { row := repertoireListRow, standIns := [], harness := (true, "2a31326882631dcb157b10cf7fcb7cea9c5a2e3e1abeccd06a8d8d8e4070b91f"), looks := false }, kinds := [], alts := [], laidByText := true, laidKinds := [.data], laidTests := true, laidLooks := .later }
def RepertoireListCardSaid : Prop := Claim7.holds Tryd.pinned (.plain (OpenSpec.ofChange repertoireListSpec)) repertoireListCard

/-- THE TIED CARD OF 'bookplatelaw04.RepertoireScripts'. -/
def repertoireScriptsCard : Claim7 := { stood := { row := repertoireScriptsRow, standIns := [], harness := (true, "2a31326882631dcb157b10cf7fcb7cea9c5a2e3e1abeccd06a8d8d8e4070b91f"), looks := false }, kinds := [], alts := [], laidByText := true, laidKinds := [.data], laidTests := true, laidLooks := .later }
def RepertoireScriptsCardSaid : Prop := Claim7.holds Tryd.pinned (.plain (OpenSpec.ofChange repertoireScriptsSpec)) repertoireScriptsCard

/-- THE SECOND FORM's CARD OF 'bookplatelaw04.RepertoireClass'. -/
def repertoireClassUptoCard : Claim7 := { stood := { row := repertoireClassUptoRow, standIns := [], harness := (true, "2a31326882631dcb157b10cf7fcb7cea9c5a2e3e1abeccd06a8d8d8e4070b91f"), looks := false }, kinds := [], alts := [], laidByText := true, laidKinds := [.data], laidTests := true, laidLooks := .later }
def RepertoireClassUptoCardSaid : Prop := Claim7.holds Tryd.pinned (.plain (OpenSpec.upto repertoireClassSpec)) repertoireClassUptoCard

/-- THE SECOND FORM's CARD OF 'bookplatelaw04.RepertoireDecode'. -/
def repertoireDecodeUptoCard : Claim7 := { stood := { row := repertoireDecodeUptoRow, standIns := [], harness := (true, "2a31326882631dcb157b10cf7fcb7cea9c5a2e3e1abeccd06a8d8d8e4070b91f"), looks := false }, kinds := [], alts := [], laidByText := true, laidKinds := [.data], laidTests := true, laidLooks := .later }
def RepertoireDecodeUptoCardSaid : Prop := Claim7.holds Tryd.pinned (.plain (OpenSpec.upto repertoireDecodeSpec)) repertoireDecodeUptoCard

/-- THE SECOND FORM's CARD OF 'bookplatelaw04.RepertoireEncode'. -/
def repertoireEncodeUptoCard : Claim7 := { stood := { row := repertoireEncodeUptoRow, standIns := [], harness := (true, "2a31326882631dcb157b10cf7fcb7cea9c5a2e3e1abeccd06a8d8d8e4070b91f"), looks := false }, kinds := [], alts := [], laidByText := true, laidKinds := [.data], laidTests := true, laidLooks := .later }
def RepertoireEncodeUptoCardSaid : Prop := Claim7.holds Tryd.pinned (.plain (OpenSpec.upto repertoireEncodeSpec)) repertoireEncodeUptoCard

/-- THE SECOND FORM's CARD OF 'bookplatelaw04.RepertoireInverse'. -/
def repertoireInverseUptoCard : Claim7 := { stood := { row := repertoireInverseUptoRow, standIns := [], harness := (true, "2a31326882631dcb157b10cf7fcb7cea9c5a2e3e1abeccd06a8d8d8e4070b91f"), looks := false }, kinds := [], alts := [], laidByText := true, laidKinds := [.data], laidTests := true, laidLooks := .later }
def RepertoireInverseUptoCardSaid : Prop := Claim7.holds Tryd.pinned (.plain (OpenSpec.upto repertoireInverseSpec)) repertoireInverseUptoCard

/-- THE SECOND FORM's CARD OF 'bookplatelaw04.RepertoireCut'. -/
def repertoireCutUptoCard : Claim7 := { stood := { row := repertoireCutUptoRow, standIns := [], harness := (true, "2a31326882631dcb157b10cf7fcb7cea9c5a2e3e1abeccd06a8d8d8e4070b91f"), looks := false }, kinds := [], alts := [], laidByText := true, laidKinds := [.data], laidTests := true, laidLooks := .later }
def RepertoireCutUptoCardSaid : Prop := Claim7.holds Tryd.pinned (.plain (OpenSpec.upto repertoireCutSpec)) repertoireCutUptoCard

/-- THE SECOND FORM's CARD OF 'bookplatelaw04.RepertoireList'. -/
def repertoireListUptoCard : Claim7 := { stood := { row := repertoireListUptoRow, standIns := [], harness := (true, "2a31326882631dcb157b10cf7fcb7cea9c5a2e3e1abeccd06a8d8d8e4070b91f"), looks := false }, kinds := [], alts := [], laidByText := true, laidKinds := [.data], laidTests := true, laidLooks := .later }
def RepertoireListUptoCardSaid : Prop := Claim7.holds Tryd.pinned (.plain (OpenSpec.upto repertoireListSpec)) repertoireListUptoCard

/-- THE SECOND FORM's CARD OF 'bookplatelaw04.RepertoireScripts'. -/
def repertoireScriptsUptoCard : Claim7 := { stood := { row := repertoireScriptsUptoRow, standIns := [], harness := (true, "2a31326882631dcb157b10cf7fcb7cea9c5a2e3e1abeccd06a8d8d8e4070b91f"), looks := false }, kinds := [], alts := [], laidByText := true, laidKinds := [.data], laidTests := true, laidLooks := .later }
def RepertoireScriptsUptoCardSaid : Prop := Claim7.holds Tryd.pinned (.plain (OpenSpec.upto repertoireScriptsSpec)) repertoireScriptsUptoCard
end Rows
end Go.Proofs.YtidbkllhlllnnaaDoor
