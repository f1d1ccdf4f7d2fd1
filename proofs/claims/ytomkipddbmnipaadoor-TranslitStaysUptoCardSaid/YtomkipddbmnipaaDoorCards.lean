/-
  DERIVED. GIVEN WITH THE SEED: THE CARDS: each row of YtomkipddbmnipaaDoorRows.lean that lists a variable, with what it lists TIED to the program's text (the seventh form; the later family's looks); each row that meets fmt, with fmt's text TOLD by the authors' own Lean function (tested against real Go, not proved from fmt's source: count such statements apart). THE CARD IS WHAT COUNTS. Prove the row's statement (the work); the ties are given (YtomkipddbmnipaaDoorTie.lean); close each card by the builder's one call (the guide's Derived/Test/ToyasCard.lean, 'card_holds'). Laid BY PROGRAM, IN A SANDBOX (cutbox-door.mjs). By AI agents, Wed Nov 11 2026. No macro, syntax, notation, axiom, sorry.
-/
import Derived.Test.YtomkipddbmnipaaDoorRows
import GoSem.ClaimSeven
namespace Go.Proofs.YtomkipddbmnipaaDoor
namespace Rows

/-- THE TIED CARD OF 'bookplatelaw07.TranslitTo'. -/
def translitToCard : Claim7 := { stood := { row := translitToRow, standIns := [], harness := (true, "8400ade35f914b67dd273f687cc35949e09ab6c3a01b9422faec33783f6c8b47"), looks := false }, kinds := [], alts := [], laidByText := true, laidKinds := [.data, .data, .pinned], laidTests := true, laidLooks := .later }
def TranslitToCardSaid : Prop := Claim7.holds Tryd.pinned (.plain (OpenSpec.ofChange translitToSpec)) translitToCard

/-- THE TIED CARD OF 'bookplatelaw07.TranslitRound'. -/
def translitRoundCard : Claim7 := { stood := { row := translitRoundRow, standIns := [], harness := (true, "8400ade35f914b67dd273f687cc35949e09ab6c3a01b9422faec33783f6c8b47"), looks := false }, kinds := [], alts := [], laidByText := true, laidKinds := [.data, .data, .pinned], laidTests := true, laidLooks := .later }
def TranslitRoundCardSaid : Prop := Claim7.holds Tryd.pinned (.plain (OpenSpec.ofChange translitRoundSpec)) translitRoundCard

/-- THE TIED CARD OF 'bookplatelaw07.TranslitLongest'. -/
def translitLongestCard : Claim7 := { stood := { row := translitLongestRow, standIns := [], harness := (true, "8400ade35f914b67dd273f687cc35949e09ab6c3a01b9422faec33783f6c8b47"), looks := false }, kinds := [], alts := [], laidByText := true, laidKinds := [.data, .data, .pinned], laidTests := true, laidLooks := .later }
def TranslitLongestCardSaid : Prop := Claim7.holds Tryd.pinned (.plain (OpenSpec.ofChange translitLongestSpec)) translitLongestCard

/-- THE TIED CARD OF 'bookplatelaw07.TranslitJoins'. -/
def translitJoinsCard : Claim7 := { stood := { row := translitJoinsRow, standIns := [], harness := (true, "8400ade35f914b67dd273f687cc35949e09ab6c3a01b9422faec33783f6c8b47"), looks := false }, kinds := [], alts := [], laidByText := true, laidKinds := [.data, .data, .pinned], laidTests := true, laidLooks := .later }
def TranslitJoinsCardSaid : Prop := Claim7.holds Tryd.pinned (.plain (OpenSpec.ofChange translitJoinsSpec)) translitJoinsCard

/-- THE TIED CARD OF 'bookplatelaw07.TranslitTables'. -/
def translitTablesCard : Claim7 := { stood := { row := translitTablesRow, standIns := [], harness := (true, "8400ade35f914b67dd273f687cc35949e09ab6c3a01b9422faec33783f6c8b47"), looks := false }, kinds := [], alts := [], laidByText := true, laidKinds := [.data, .data, .pinned], laidTests := true, laidLooks := .later }
def TranslitTablesCardSaid : Prop := Claim7.holds Tryd.pinned (.plain (OpenSpec.ofChange translitTablesSpec)) translitTablesCard

/-- THE TIED CARD OF 'bookplatelaw07.TranslitCyrillic'. -/
def translitCyrillicCard : Claim7 := { stood := { row := translitCyrillicRow, standIns := [], harness := (true, "8400ade35f914b67dd273f687cc35949e09ab6c3a01b9422faec33783f6c8b47"), looks := false }, kinds := [], alts := [], laidByText := true, laidKinds := [.data, .data, .pinned], laidTests := true, laidLooks := .later }
def TranslitCyrillicCardSaid : Prop := Claim7.holds Tryd.pinned (.plain (OpenSpec.ofChange translitCyrillicSpec)) translitCyrillicCard

/-- THE TIED CARD OF 'bookplatelaw07.TranslitStays'. -/
def translitStaysCard : Claim7 := { stood := { row := translitStaysRow, standIns := [], harness := (true, "8400ade35f914b67dd273f687cc35949e09ab6c3a01b9422faec33783f6c8b47"), looks := false }, kinds := [], alts := [], laidByText := true, laidKinds := [.data, .data, .pinned], laidTests := true, laidLooks := .later }
def TranslitStaysCardSaid : Prop := Claim7.holds Tryd.pinned (.plain (OpenSpec.ofChange translitStaysSpec)) translitStaysCard

/-- THE SECOND FORM's CARD OF 'bookplatelaw07.TranslitTo'. -/
def translitToUptoCard : Claim7 := { stood := { row := translitToUptoRow, standIns := [], harness := (true, "8400ade35f914b67dd273f687cc35949e09ab6c3a01b9422faec33783f6c8b47"), looks := false }, kinds := [], alts := [], laidByText := true, laidKinds := [.data, .data, .pinned], laidTests := true, laidLooks := .later }
def TranslitToUptoCardSaid : Prop := Claim7.holds Tryd.pinned (.plain (OpenSpec.upto translitToSpec)) translitToUptoCard

/-- THE SECOND FORM's CARD OF 'bookplatelaw07.TranslitRound'. -/
def translitRoundUptoCard : Claim7 := { stood := { row := translitRoundUptoRow, standIns := [], harness := (true, "8400ade35f914b67dd273f687cc35949e09ab6c3a01b9422faec33783f6c8b47"), looks := false }, kinds := [], alts := [], laidByText := true, laidKinds := [.data, .data, .pinned], laidTests := true, laidLooks := .later }
def TranslitRoundUptoCardSaid : Prop := Claim7.holds Tryd.pinned (.plain (OpenSpec.upto translitRoundSpec)) translitRoundUptoCard

/-- THE SECOND FORM's CARD OF 'bookplatelaw07.TranslitLongest'. -/
def translitLongestUptoCard : Claim7 := { stood := { row := translitLongestUptoRow, standIns := [], harness := (true, "8400ade35f914b67dd273f687cc35949e09ab6c3a01b9422faec33783f6c8b47"), looks := false }, kinds := [], alts := [], laidByText := true, laidKinds := [.data, .data, .pinned], laidTests := true, laidLooks := .later }
def TranslitLongestUptoCardSaid : Prop := Claim7.holds Tryd.pinned (.plain (OpenSpec.upto translitLongestSpec)) translitLongestUptoCard

/-- THE SECOND FORM's CARD OF 'bookplatelaw07.TranslitJoins'. -/
def translitJoinsUptoCard : Claim7 := { stood := { row := translitJoinsUptoRow, standIns := [], harness := (true, "8400ade35f914b67dd273f687cc35949e09ab6c3a01b9422faec33783f6c8b47"), looks := false }, kinds := [], alts := [], laidByText := true, laidKinds := [.data, .data, .pinned], laidTests := true, laidLooks := .later }
def TranslitJoinsUptoCardSaid : Prop := Claim7.holds Tryd.pinned (.plain (OpenSpec.upto translitJoinsSpec)) translitJoinsUptoCard

/-- THE SECOND FORM's CARD OF 'bookplatelaw07.TranslitTables'. -/
def translitTablesUptoCard : Claim7 := { stood := { row := translitTablesUptoRow, standIns := [], harness := (true, "8400ade35f914b67dd273f687cc35949e09ab6c3a01b9422faec33783f6c8b47"), looks := false }, kinds := [], alts := [], laidByText := true, laidKinds := [.data, .data, .pinned], laidTests := true, laidLooks := .later }
def TranslitTablesUptoCardSaid : Prop := Claim7.holds Tryd.pinned (.plain (OpenSpec.upto translitTablesSpec)) translitTablesUptoCard

/-- THE SECOND FORM's CARD OF 'bookplatelaw07.TranslitCyrillic'. -/
def translitCyrillicUptoCard : Claim7 := { stood := { row := translitCyrillicUptoRow, standIns := [], harness := (true, "8400ade35f914b67dd273f687cc35949e09ab6c3a01b9422faec33783f6c8b47"), looks := false }, kinds := [], alts := [], laidByText := true, laidKinds := [.data, .data, .pinned], laidTests := true, laidLooks := .later }
def TranslitCyrillicUptoCardSaid : Prop := Claim7.holds Tryd.pinned (.plain (OpenSpec.upto translitCyrillicSpec)) translitCyrillicUptoCard

/-- THE SECOND FORM's CARD OF 'bookplatelaw07.TranslitStays'. -/
def translitStaysUptoCard : Claim7 := { stood := { row := translitStaysUptoRow, standIns := [], harness := (true, "8400ade35f914b67dd273f687cc35949e09ab6c3a01b9422faec33783f6c8b47"), looks := false }, kinds := [], alts := [], laidByText := true, laidKinds := [.data, .data, .pinned], laidTests := true, laidLooks := .later }
def TranslitStaysUptoCardSaid : Prop := Claim7.holds Tryd.pinned (.plain (OpenSpec.upto translitStaysSpec)) translitStaysUptoCard
end Rows
end Go.Proofs.YtomkipddbmnipaaDoor
