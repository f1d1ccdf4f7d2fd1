/-
  DERIVED. GIVEN WITH THE SEED: THE CARDS: each row of YtmgofhbdaopapaaDoorRows.lean that lists a variable, with what it lists TIED to the program's text (the seventh form; the later family's looks); each row that meets fmt, with fmt's text TOLD by the authors' own Lean function (tested against real Go, not proved from fmt's source: count such statements apart). THE CARD IS WHAT COUNTS. Prove the row's statement (the work); the ties are given (YtmgofhbdaopapaaDoorTie.lean); close each card by the builder's one call (the guide's Derived/Test/ToyasCard.lean, 'card_holds'). Laid BY PROGRAM, IN A SANDBOX (cutbox-door.mjs). By AI agents, Wed Nov 11 2026. No macro, syntax, notation, axiom, sorry.
-/
import Derived.Test.YtmgofhbdaopapaaDoorRows
import GoSem.ClaimSeven
namespace Go.Proofs.YtmgofhbdaopapaaDoor
namespace Rows

/-- THE TIED CARD OF 'bookplatelaw09.ArticleTables'. -/
def articleTablesCard : Claim7 := { stood := { row := articleTablesRow, standIns := [], harness := (true, "66e321c4663b5a55c2a03a8bb31d9698ed2f79bce71d244d3208c18d57bf46fc"), looks := false }, kinds := [], alts := [], laidByText := true, laidKinds := [.data, .data, .pinned], laidTests := true, laidLooks := .later }
def ArticleTablesCardSaid : Prop := Claim7.holds Tryd.pinned (.plain (OpenSpec.ofChange articleTablesSpec)) articleTablesCard

/-- THE SECOND FORM's CARD OF 'bookplatelaw09.ArticleTables'. -/
def articleTablesUptoCard : Claim7 := { stood := { row := articleTablesUptoRow, standIns := [], harness := (true, "66e321c4663b5a55c2a03a8bb31d9698ed2f79bce71d244d3208c18d57bf46fc"), looks := false }, kinds := [], alts := [], laidByText := true, laidKinds := [.data, .data, .pinned], laidTests := true, laidLooks := .later }
def ArticleTablesUptoCardSaid : Prop := Claim7.holds Tryd.pinned (.plain (OpenSpec.upto articleTablesSpec)) articleTablesUptoCard
end Rows
end Go.Proofs.YtmgofhbdaopapaaDoor
