/-
  DERIVED. GIVEN WITH THE SEED: THE CARDS: each row of YtafnjbmeponobaaGreatDoorRows.lean that lists a variable, with what it lists TIED to the program's text (the seventh form; the later family's looks); each row that meets fmt, with fmt's text TOLD by the authors' own Lean function (tested against real Go, not proved from fmt's source: count such statements apart). THE CARD IS WHAT COUNTS. Prove the row's statement (the work); the ties are given (YtafnjbmeponobaaGreatDoorTie.lean); close each card by the builder's one call (the guide's Derived/Test/ToyasCard.lean, 'card_holds'). Laid BY PROGRAM, IN A SANDBOX (cutbox-door.mjs). By AI agents, Wed Nov 11 2026. No macro, syntax, notation, axiom, sorry.
-/
import Derived.Test.YtafnjbmeponobaaGreatDoorRows
import GoSem.ClaimSeven
namespace Go.Proofs.YtafnjbmeponobaaGreatDoor
namespace Rows

/-- THE TIED CARD OF 'bookplatelaw08.CollateKeys'. -/
def collateKeysCard : Claim7 := { stood := { row := collateKeysRow, standIns := [], harness := (true, "1ab5a58a5fea3757fbeefb08536033fe974b35a92deabcb8e0a655785cb4c7c0"), looks := false }, kinds := [], alts := [], laidByText := true, laidKinds := [.data], laidTests := true, laidLooks := .later }
def CollateKeysCardSaid : Prop := Claim7.holds Tryz.pinned (.plain (OpenSpec.ofChange collateKeysSpec)) collateKeysCard

/-- THE TIED CARD OF 'bookplatelaw08.CollateCompare'. -/
def collateCompareCard : Claim7 := { stood := { row := collateCompareRow, standIns := [], harness := (true, "1ab5a58a5fea3757fbeefb08536033fe974b35a92deabcb8e0a655785cb4c7c0"), looks := false }, kinds := [], alts := [], laidByText := true, laidKinds := [.data], laidTests := true, laidLooks := .later }
def CollateCompareCardSaid : Prop := Claim7.holds Tryz.pinned (.plain (OpenSpec.ofChange collateCompareSpec)) collateCompareCard

/-- THE TIED CARD OF 'bookplatelaw08.CollateOrder'. -/
def collateOrderCard : Claim7 := { stood := { row := collateOrderRow, standIns := [], harness := (true, "1ab5a58a5fea3757fbeefb08536033fe974b35a92deabcb8e0a655785cb4c7c0"), looks := false }, kinds := [], alts := [], laidByText := true, laidKinds := [.data], laidTests := true, laidLooks := .later }
def CollateOrderCardSaid : Prop := Claim7.holds Tryz.pinned (.plain (OpenSpec.ofChange collateOrderSpec)) collateOrderCard

/-- THE TIED CARD OF 'bookplatelaw08.CollateEqual'. -/
def collateEqualCard : Claim7 := { stood := { row := collateEqualRow, standIns := [], harness := (true, "1ab5a58a5fea3757fbeefb08536033fe974b35a92deabcb8e0a655785cb4c7c0"), looks := false }, kinds := [], alts := [], laidByText := true, laidKinds := [.data], laidTests := true, laidLooks := .later }
def CollateEqualCardSaid : Prop := Claim7.holds Tryz.pinned (.plain (OpenSpec.ofChange collateEqualSpec)) collateEqualCard

/-- THE TIED CARD OF 'bookplatelaw08.CollateLevels'. -/
def collateLevelsCard : Claim7 := { stood := { row := collateLevelsRow, standIns := [], harness := (true, "1ab5a58a5fea3757fbeefb08536033fe974b35a92deabcb8e0a655785cb4c7c0"), looks := false }, kinds := [], alts := [], laidByText := true, laidKinds := [.data], laidTests := true, laidLooks := .later }
def CollateLevelsCardSaid : Prop := Claim7.holds Tryz.pinned (.plain (OpenSpec.ofChange collateLevelsSpec)) collateLevelsCard

/-- THE TIED CARD OF 'bookplatelaw08.CollateLetters'. -/
def collateLettersCard : Claim7 := { stood := { row := collateLettersRow, standIns := [], harness := (true, "1ab5a58a5fea3757fbeefb08536033fe974b35a92deabcb8e0a655785cb4c7c0"), looks := false }, kinds := [], alts := [], laidByText := true, laidKinds := [.data], laidTests := true, laidLooks := .later }
def CollateLettersCardSaid : Prop := Claim7.holds Tryz.pinned (.plain (OpenSpec.ofChange collateLettersSpec)) collateLettersCard

/-- THE TIED CARD OF 'bookplatelaw08.CollateSort'. -/
def collateSortCard : Claim7 := { stood := { row := collateSortRow, standIns := [], harness := (true, "1ab5a58a5fea3757fbeefb08536033fe974b35a92deabcb8e0a655785cb4c7c0"), looks := false }, kinds := [], alts := [], laidByText := true, laidKinds := [.data], laidTests := true, laidLooks := .later }
def CollateSortCardSaid : Prop := Claim7.holds Tryz.pinned (.plain (OpenSpec.ofChange collateSortSpec)) collateSortCard

/-- THE SECOND FORM's CARD OF 'bookplatelaw08.CollateKeys'. -/
def collateKeysUptoCard : Claim7 := { stood := { row := collateKeysUptoRow, standIns := [], harness := (true, "1ab5a58a5fea3757fbeefb08536033fe974b35a92deabcb8e0a655785cb4c7c0"), looks := false }, kinds := [], alts := [], laidByText := true, laidKinds := [.data], laidTests := true, laidLooks := .later }
def CollateKeysUptoCardSaid : Prop := Claim7.holds Tryz.pinned (.plain (OpenSpec.upto collateKeysSpec)) collateKeysUptoCard

/-- THE SECOND FORM's CARD OF 'bookplatelaw08.CollateCompare'. -/
def collateCompareUptoCard : Claim7 := { stood := { row := collateCompareUptoRow, standIns := [], harness := (true, "1ab5a58a5fea3757fbeefb08536033fe974b35a92deabcb8e0a655785cb4c7c0"), looks := false }, kinds := [], alts := [], laidByText := true, laidKinds := [.data], laidTests := true, laidLooks := .later }
def CollateCompareUptoCardSaid : Prop := Claim7.holds Tryz.pinned (.plain (OpenSpec.upto collateCompareSpec)) collateCompareUptoCard

/-- THE SECOND FORM's CARD OF 'bookplatelaw08.CollateOrder'. -/
def collateOrderUptoCard : Claim7 := { stood := { row := collateOrderUptoRow, standIns := [], harness := (true, "1ab5a58a5fea3757fbeefb08536033fe974b35a92deabcb8e0a655785cb4c7c0"), looks := false }, kinds := [], alts := [], laidByText := true, laidKinds := [.data], laidTests := true, laidLooks := .later }
def CollateOrderUptoCardSaid : Prop := Claim7.holds Tryz.pinned (.plain (OpenSpec.upto collateOrderSpec)) collateOrderUptoCard

/-- THE SECOND FORM's CARD OF 'bookplatelaw08.CollateEqual'. -/
def collateEqualUptoCard : Claim7 := { stood := { row := collateEqualUptoRow, standIns := [], harness := (true, "1ab5a58a5fea3757fbeefb08536033fe974b35a92deabcb8e0a655785cb4c7c0"), looks := false }, kinds := [], alts := [], laidByText := true, laidKinds := [.data], laidTests := true, laidLooks := .later }
def CollateEqualUptoCardSaid : Prop := Claim7.holds Tryz.pinned (.plain (OpenSpec.upto collateEqualSpec)) collateEqualUptoCard

/-- THE SECOND FORM's CARD OF 'bookplatelaw08.CollateLevels'. -/
def collateLevelsUptoCard : Claim7 := { stood := { row := collateLevelsUptoRow, standIns := [], harness := (true, "1ab5a58a5fea3757fbeefb08536033fe974b35a92deabcb8e0a655785cb4c7c0"), looks := false }, kinds := [], alts := [], laidByText := true, laidKinds := [.data], laidTests := true, laidLooks := .later }
def CollateLevelsUptoCardSaid : Prop := Claim7.holds Tryz.pinned (.plain (OpenSpec.upto collateLevelsSpec)) collateLevelsUptoCard

/-- THE SECOND FORM's CARD OF 'bookplatelaw08.CollateLetters'. -/
def collateLettersUptoCard : Claim7 := { stood := { row := collateLettersUptoRow, standIns := [], harness := (true, "1ab5a58a5fea3757fbeefb08536033fe974b35a92deabcb8e0a655785cb4c7c0"), looks := false }, kinds := [], alts := [], laidByText := true, laidKinds := [.data], laidTests := true, laidLooks := .later }
def CollateLettersUptoCardSaid : Prop := Claim7.holds Tryz.pinned (.plain (OpenSpec.upto collateLettersSpec)) collateLettersUptoCard

/-- THE SECOND FORM's CARD OF 'bookplatelaw08.CollateSort'. -/
def collateSortUptoCard : Claim7 := { stood := { row := collateSortUptoRow, standIns := [], harness := (true, "1ab5a58a5fea3757fbeefb08536033fe974b35a92deabcb8e0a655785cb4c7c0"), looks := false }, kinds := [], alts := [], laidByText := true, laidKinds := [.data], laidTests := true, laidLooks := .later }
def CollateSortUptoCardSaid : Prop := Claim7.holds Tryz.pinned (.plain (OpenSpec.upto collateSortSpec)) collateSortUptoCard
end Rows
end Go.Proofs.YtafnjbmeponobaaGreatDoor
