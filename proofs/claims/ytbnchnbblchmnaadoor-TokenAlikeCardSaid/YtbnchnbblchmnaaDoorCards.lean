/-
  DERIVED. GIVEN WITH THE SEED: THE CARDS: each row of YtbnchnbblchmnaaDoorRows.lean that lists a variable, with what it lists TIED to the program's text (the seventh form; the later family's looks); each row that meets fmt, with fmt's text TOLD by the authors' own Lean function (tested against real Go, not proved from fmt's source: count such statements apart). THE CARD IS WHAT COUNTS. Prove the row's statement (the work); the ties are given (YtbnchnbblchmnaaDoorTie.lean); close each card by the builder's one call (the guide's Derived/Test/ToyasCard.lean, 'card_holds'). Laid BY PROGRAM, IN A SANDBOX (cutbox-door.mjs). By AI agents, Wed Nov 11 2026. No macro, syntax, notation, axiom, sorry.
-/
import Derived.Test.YtbnchnbblchmnaaDoorRows
import GoSem.ClaimSeven
namespace Go.Proofs.YtbnchnbblchmnaaDoor
namespace Rows

/-- THE TIED CARD OF 'bookplatelaw10.TokenWords'. -/
def tokenWordsCard : Claim7 := { stood := { row := tokenWordsRow, standIns := [], harness := (true, "5de29d091c4a3e676de7413bea04e068d33c223927c255b15ab4e96c2b670b03"), looks := false }, kinds := [], alts := [], laidByText := true, laidKinds := [.data, .listed, .data, .data, .pinned], laidTests := true, laidLooks := .later }
def TokenWordsCardSaid : Prop := Claim7.holds Tryd.pinned (.plain (OpenSpec.ofChange tokenWordsSpec)) tokenWordsCard

/-- THE TIED CARD OF 'bookplatelaw10.TokenZone'. -/
def tokenZoneCard : Claim7 := { stood := { row := tokenZoneRow, standIns := [], harness := (true, "5de29d091c4a3e676de7413bea04e068d33c223927c255b15ab4e96c2b670b03"), looks := false }, kinds := [], alts := [], laidByText := true, laidKinds := [.data, .listed, .data, .data, .pinned], laidTests := true, laidLooks := .later }
def TokenZoneCardSaid : Prop := Claim7.holds Tryd.pinned (.plain (OpenSpec.ofChange tokenZoneSpec)) tokenZoneCard

/-- THE TIED CARD OF 'bookplatelaw10.TokenJoined'. -/
def tokenJoinedCard : Claim7 := { stood := { row := tokenJoinedRow, standIns := [], harness := (true, "5de29d091c4a3e676de7413bea04e068d33c223927c255b15ab4e96c2b670b03"), looks := false }, kinds := [], alts := [], laidByText := true, laidKinds := [.data, .listed, .data, .data, .pinned], laidTests := true, laidLooks := .later }
def TokenJoinedCardSaid : Prop := Claim7.holds Tryd.pinned (.plain (OpenSpec.ofChange tokenJoinedSpec)) tokenJoinedCard

/-- THE TIED CARD OF 'bookplatelaw10.TokenGaps'. -/
def tokenGapsCard : Claim7 := { stood := { row := tokenGapsRow, standIns := [], harness := (true, "5de29d091c4a3e676de7413bea04e068d33c223927c255b15ab4e96c2b670b03"), looks := false }, kinds := [], alts := [], laidByText := true, laidKinds := [.data, .listed, .data, .data, .pinned], laidTests := true, laidLooks := .later }
def TokenGapsCardSaid : Prop := Claim7.holds Tryd.pinned (.plain (OpenSpec.ofChange tokenGapsSpec)) tokenGapsCard

/-- THE TIED CARD OF 'bookplatelaw10.TokenAlike'. -/
def tokenAlikeCard : Claim7 := { stood := { row := tokenAlikeRow, standIns := [], harness := (true, "5de29d091c4a3e676de7413bea04e068d33c223927c255b15ab4e96c2b670b03"), looks := false }, kinds := [], alts := [], laidByText := true, laidKinds := [.data, .listed, .data, .data, .pinned], laidTests := true, laidLooks := .later }
def TokenAlikeCardSaid : Prop := Claim7.holds Tryd.pinned (.plain (OpenSpec.ofChange tokenAlikeSpec)) tokenAlikeCard

/-- THE SECOND FORM's CARD OF 'bookplatelaw10.TokenWords'. -/
def tokenWordsUptoCard : Claim7 := { stood := { row := tokenWordsUptoRow, standIns := [], harness := (true, "5de29d091c4a3e676de7413bea04e068d33c223927c255b15ab4e96c2b670b03"), looks := false }, kinds := [], alts := [], laidByText := true, laidKinds := [.data, .listed, .data, .data, .pinned], laidTests := true, laidLooks := .later }
def TokenWordsUptoCardSaid : Prop := Claim7.holds Tryd.pinned (.plain (OpenSpec.upto tokenWordsSpec)) tokenWordsUptoCard

/-- THE SECOND FORM's CARD OF 'bookplatelaw10.TokenZone'. -/
def tokenZoneUptoCard : Claim7 := { stood := { row := tokenZoneUptoRow, standIns := [], harness := (true, "5de29d091c4a3e676de7413bea04e068d33c223927c255b15ab4e96c2b670b03"), looks := false }, kinds := [], alts := [], laidByText := true, laidKinds := [.data, .listed, .data, .data, .pinned], laidTests := true, laidLooks := .later }
def TokenZoneUptoCardSaid : Prop := Claim7.holds Tryd.pinned (.plain (OpenSpec.upto tokenZoneSpec)) tokenZoneUptoCard

/-- THE SECOND FORM's CARD OF 'bookplatelaw10.TokenJoined'. -/
def tokenJoinedUptoCard : Claim7 := { stood := { row := tokenJoinedUptoRow, standIns := [], harness := (true, "5de29d091c4a3e676de7413bea04e068d33c223927c255b15ab4e96c2b670b03"), looks := false }, kinds := [], alts := [], laidByText := true, laidKinds := [.data, .listed, .data, .data, .pinned], laidTests := true, laidLooks := .later }
def TokenJoinedUptoCardSaid : Prop := Claim7.holds Tryd.pinned (.plain (OpenSpec.upto tokenJoinedSpec)) tokenJoinedUptoCard

/-- THE SECOND FORM's CARD OF 'bookplatelaw10.TokenGaps'. -/
def tokenGapsUptoCard : Claim7 := { stood := { row := tokenGapsUptoRow, standIns := [], harness := (true, "5de29d091c4a3e676de7413bea04e068d33c223927c255b15ab4e96c2b670b03"), looks := false }, kinds := [], alts := [], laidByText := true, laidKinds := [.data, .listed, .data, .data, .pinned], laidTests := true, laidLooks := .later }
def TokenGapsUptoCardSaid : Prop := Claim7.holds Tryd.pinned (.plain (OpenSpec.upto tokenGapsSpec)) tokenGapsUptoCard

/-- THE SECOND FORM's CARD OF 'bookplatelaw10.TokenAlike'. -/
def tokenAlikeUptoCard : Claim7 := { stood := { row := tokenAlikeUptoRow, standIns := [], harness := (true, "5de29d091c4a3e676de7413bea04e068d33c223927c255b15ab4e96c2b670b03"), looks := false }, kinds := [], alts := [], laidByText := true, laidKinds := [.data, .listed, .data, .data, .pinned], laidTests := true, laidLooks := .later }
def TokenAlikeUptoCardSaid : Prop := Claim7.holds Tryd.pinned (.plain (OpenSpec.upto tokenAlikeSpec)) tokenAlikeUptoCard
end Rows
end Go.Proofs.YtbnchnbblchmnaaDoor
