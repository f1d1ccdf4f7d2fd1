/-
  DERIVED. GIVEN WITH THE SEED: THE CARDS: each row of YtafnjbmeponobaaDoorRows.lean that lists a variable, with what it lists TIED to the program's text (the seventh form; the later family's looks); each row that meets fmt, with fmt's text TOLD by the authors' own Lean function (tested against real Go, not proved from fmt's source: count such statements apart). THE CARD IS WHAT COUNTS. Prove the row's statement (the work); the ties are given (YtafnjbmeponobaaDoorTie.lean); close each card by the builder's one call (the guide's Derived/Test/ToyasCard.lean, 'card_holds'). Laid BY PROGRAM, IN A SANDBOX (cutbox-door.mjs). By AI agents, Wed Nov 11 2026. No macro, syntax, notation, axiom, sorry.
-/
import Derived.Test.YtafnjbmeponobaaDoorRows
import GoSem.ClaimSeven
namespace Go.Proofs.YtafnjbmeponobaaDoor
namespace Rows

/-- THE TIED CARD OF 'bookplatelaw08.CollateBeginnings'. -/
def collateBeginningsCard : Claim7 := { stood := { row := collateBeginningsRow, standIns := [], harness := (true, "c8c00f30940f471d439e9813ef7e631dab287b1bbb3abbd0f74ff22ec4608caa"), looks := false }, kinds := [], alts := [], laidByText := true, laidKinds := [.data], laidTests := true, laidLooks := .later }
def CollateBeginningsCardSaid : Prop := Claim7.holds Tryd.pinned (.plain (OpenSpec.ofChange collateBeginningsSpec)) collateBeginningsCard

/-- THE SECOND FORM's CARD OF 'bookplatelaw08.CollateBeginnings'. -/
def collateBeginningsUptoCard : Claim7 := { stood := { row := collateBeginningsUptoRow, standIns := [], harness := (true, "c8c00f30940f471d439e9813ef7e631dab287b1bbb3abbd0f74ff22ec4608caa"), looks := false }, kinds := [], alts := [], laidByText := true, laidKinds := [.data], laidTests := true, laidLooks := .later }
def CollateBeginningsUptoCardSaid : Prop := Claim7.holds Tryd.pinned (.plain (OpenSpec.upto collateBeginningsSpec)) collateBeginningsUptoCard
end Rows
end Go.Proofs.YtafnjbmeponobaaDoor
