/-
  DERIVED. GIVEN WITH THE SEED: THE CARDS: each row of YtmgofhbdaopapaaGreatDoorRows.lean that lists a variable, with what it lists TIED to the program's text (the seventh form; the later family's looks); each row that meets fmt, with fmt's text TOLD by the authors' own Lean function (tested against real Go, not proved from fmt's source: count such statements apart). THE CARD IS WHAT COUNTS. Prove the row's statement (the work); the ties are given (YtmgofhbdaopapaaGreatDoorTie.lean); close each card by the builder's one call (the guide's Derived/Test/ToyasCard.lean, 'card_holds'). Laid BY PROGRAM, IN A SANDBOX (cutbox-door.mjs). By AI agents, Wed Nov 11 2026. No macro, syntax, notation, axiom, sorry.
-/
import Derived.Test.YtmgofhbdaopapaaGreatDoorRows
import GoSem.ClaimSeven
namespace Go.Proofs.YtmgofhbdaopapaaGreatDoor
namespace Rows

/-- THE TIED CARD OF 'bookplatelaw09.ArticleSkip'. -/
def articleSkipCard : Claim7 := { stood := { row := articleSkipRow, standIns := [], harness := (true, "9457165f3c45c550a00ee7173bdd055ff1b80021634f98d1c88ec95a50fabcd9"), looks := false }, kinds := [], alts := [], laidByText := true, laidKinds := [.data, .data, .pinned], laidTests := true, laidLooks := .later }
def ArticleSkipCardSaid : Prop := Claim7.holds Tryz.pinned (.plain (OpenSpec.ofChange articleSkipSpec)) articleSkipCard

/-- THE TIED CARD OF 'bookplatelaw09.ArticleSort'. -/
def articleSortCard : Claim7 := { stood := { row := articleSortRow, standIns := [], harness := (true, "9457165f3c45c550a00ee7173bdd055ff1b80021634f98d1c88ec95a50fabcd9"), looks := false }, kinds := [], alts := [], laidByText := true, laidKinds := [.data, .data, .pinned], laidTests := true, laidLooks := .later }
def ArticleSortCardSaid : Prop := Claim7.holds Tryz.pinned (.plain (OpenSpec.ofChange articleSortSpec)) articleSortCard

/-- THE TIED CARD OF 'bookplatelaw09.ArticleRest'. -/
def articleRestCard : Claim7 := { stood := { row := articleRestRow, standIns := [], harness := (true, "9457165f3c45c550a00ee7173bdd055ff1b80021634f98d1c88ec95a50fabcd9"), looks := false }, kinds := [], alts := [], laidByText := true, laidKinds := [.data, .data, .pinned], laidTests := true, laidLooks := .later }
def ArticleRestCardSaid : Prop := Claim7.holds Tryz.pinned (.plain (OpenSpec.ofChange articleRestSpec)) articleRestCard

/-- THE TIED CARD OF 'bookplatelaw09.ArticleEach'. -/
def articleEachCard : Claim7 := { stood := { row := articleEachRow, standIns := [], harness := (true, "9457165f3c45c550a00ee7173bdd055ff1b80021634f98d1c88ec95a50fabcd9"), looks := false }, kinds := [], alts := [], laidByText := true, laidKinds := [.data, .data, .pinned, .pinned], laidTests := true, laidLooks := .later }
def ArticleEachCardSaid : Prop := Claim7.holds Tryz.pinned (.plain (OpenSpec.ofChange articleEachSpec)) articleEachCard

/-- THE TIED CARD OF 'bookplatelaw09.ArticleOthers'. -/
def articleOthersCard : Claim7 := { stood := { row := articleOthersRow, standIns := [], harness := (true, "9457165f3c45c550a00ee7173bdd055ff1b80021634f98d1c88ec95a50fabcd9"), looks := false }, kinds := [], alts := [], laidByText := true, laidKinds := [.data, .data, .pinned], laidTests := true, laidLooks := .later }
def ArticleOthersCardSaid : Prop := Claim7.holds Tryz.pinned (.plain (OpenSpec.ofChange articleOthersSpec)) articleOthersCard

/-- THE SECOND FORM's CARD OF 'bookplatelaw09.ArticleSkip'. -/
def articleSkipUptoCard : Claim7 := { stood := { row := articleSkipUptoRow, standIns := [], harness := (true, "9457165f3c45c550a00ee7173bdd055ff1b80021634f98d1c88ec95a50fabcd9"), looks := false }, kinds := [], alts := [], laidByText := true, laidKinds := [.data, .data, .pinned], laidTests := true, laidLooks := .later }
def ArticleSkipUptoCardSaid : Prop := Claim7.holds Tryz.pinned (.plain (OpenSpec.upto articleSkipSpec)) articleSkipUptoCard

/-- THE SECOND FORM's CARD OF 'bookplatelaw09.ArticleSort'. -/
def articleSortUptoCard : Claim7 := { stood := { row := articleSortUptoRow, standIns := [], harness := (true, "9457165f3c45c550a00ee7173bdd055ff1b80021634f98d1c88ec95a50fabcd9"), looks := false }, kinds := [], alts := [], laidByText := true, laidKinds := [.data, .data, .pinned], laidTests := true, laidLooks := .later }
def ArticleSortUptoCardSaid : Prop := Claim7.holds Tryz.pinned (.plain (OpenSpec.upto articleSortSpec)) articleSortUptoCard

/-- THE SECOND FORM's CARD OF 'bookplatelaw09.ArticleRest'. -/
def articleRestUptoCard : Claim7 := { stood := { row := articleRestUptoRow, standIns := [], harness := (true, "9457165f3c45c550a00ee7173bdd055ff1b80021634f98d1c88ec95a50fabcd9"), looks := false }, kinds := [], alts := [], laidByText := true, laidKinds := [.data, .data, .pinned], laidTests := true, laidLooks := .later }
def ArticleRestUptoCardSaid : Prop := Claim7.holds Tryz.pinned (.plain (OpenSpec.upto articleRestSpec)) articleRestUptoCard

/-- THE SECOND FORM's CARD OF 'bookplatelaw09.ArticleEach'. -/
def articleEachUptoCard : Claim7 := { stood := { row := articleEachUptoRow, standIns := [], harness := (true, "9457165f3c45c550a00ee7173bdd055ff1b80021634f98d1c88ec95a50fabcd9"), looks := false }, kinds := [], alts := [], laidByText := true, laidKinds := [.data, .data, .pinned, .pinned], laidTests := true, laidLooks := .later }
def ArticleEachUptoCardSaid : Prop := Claim7.holds Tryz.pinned (.plain (OpenSpec.upto articleEachSpec)) articleEachUptoCard

/-- THE SECOND FORM's CARD OF 'bookplatelaw09.ArticleOthers'. -/
def articleOthersUptoCard : Claim7 := { stood := { row := articleOthersUptoRow, standIns := [], harness := (true, "9457165f3c45c550a00ee7173bdd055ff1b80021634f98d1c88ec95a50fabcd9"), looks := false }, kinds := [], alts := [], laidByText := true, laidKinds := [.data, .data, .pinned], laidTests := true, laidLooks := .later }
def ArticleOthersUptoCardSaid : Prop := Claim7.holds Tryz.pinned (.plain (OpenSpec.upto articleOthersSpec)) articleOthersUptoCard
end Rows
end Go.Proofs.YtmgofhbdaopapaaGreatDoor
