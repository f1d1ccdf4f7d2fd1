/-
  NARROWER THAN 'FOR EVERY INPUT', by the rows' own cells (each row's printed sentence says how): TranslitTo: laid · TranslitRound: laid · TranslitLongest: laid · TranslitJoins: laid · TranslitTables: laid · TranslitCyrillic: laid · TranslitStays: laid.
  DERIVED. THE GIVEN ROWS OF THIS SEAT. 7 by the template 'for every input the law returns true; each argument reads behind the call as it read before'; 0 by the template 'total and deterministic' (their statements: YtomkipddbmnipaaDoorTotals.lean).
  GIVEN WITH THE SEED: the statements are not yours to turn. If you find one false, say at which input.
  Laid BY PROGRAM, IN A SANDBOX (cutbox-rows.mjs): the forced cells as the released guide's own fill.sh prints them over the translation 878a810d187a1941… (all of the seat's roots in one cut). By AI agents, Wed Nov 11 2026. No macro, syntax, notation, axiom, sorry.
-/
import Derived.Test.YtomkipddbmnipaaDoorChecked
import GoSem.PinnedTables
import GoSem.Claim
import GoSem.ClaimJoined
import GoSem.ClaimMapViews
import Derived.JoinedTies
import Derived.KernelRfl
namespace Go.Proofs.YtomkipddbmnipaaDoor
/- THE CELL 'sum', in the pinned program and in every row, IS THE sha256 OF THE DUMP (.gsa) THAT YtomkipddbmnipaaDoorProg.lean LOADS. Nothing in Lean hashes anything: it is a label: what it is worth is what the hold of that sum in a sandbox is worth. -/
noncomputable def Tryd.pinned : Pinned := { name := "ytomkipddbmnipaadoor", sum := "878a810d187a19414722c78878eca323f81bbd25dabdb24ad920989bfbc2bcc0", checked := Tryd.checked }
namespace Rows
def none {H : Type} : Left H := { results := [], args := [] }

/- WHAT THE LISTED PACKAGE-LEVEL VARIABLES READ AS WHEN THE CALL BEGINS. Each datum BY PROGRAM (the guide's laid-datum.mjs) off the statement by which the dump's own 'gosem.cut.vars' lays the variable. In a bare row this is a premise. The card (YtomkipddbmnipaaDoorCards.lean) ties it to the program's text. -/
def laid_unicode_utf8_acceptRanges {H : Type} : DataW H := .agg [.agg [.lit (.int .u8 128), .lit (.int .u8 191)], .agg [.lit (.int .u8 160), .lit (.int .u8 191)], .agg [.lit (.int .u8 128), .lit (.int .u8 159)], .agg [.lit (.int .u8 144), .lit (.int .u8 191)], .agg [.lit (.int .u8 128), .lit (.int .u8 143)], .agg [.lit (.int .u8 0), .lit (.int .u8 0)], .agg [.lit (.int .u8 0), .lit (.int .u8 0)], .agg [.lit (.int .u8 0), .lit (.int .u8 0)], .agg [.lit (.int .u8 0), .lit (.int .u8 0)], .agg [.lit (.int .u8 0), .lit (.int .u8 0)], .agg [.lit (.int .u8 0), .lit (.int .u8 0)], .agg [.lit (.int .u8 0), .lit (.int .u8 0)], .agg [.lit (.int .u8 0), .lit (.int .u8 0)], .agg [.lit (.int .u8 0), .lit (.int .u8 0)], .agg [.lit (.int .u8 0), .lit (.int .u8 0)], .agg [.lit (.int .u8 0), .lit (.int .u8 0)]]
def laid_bookplate_repertoire_spans {H : Type} : DataW H := .agg [.agg [.lit (.int .u16 32), .lit (.int .u16 32), .lit (.int .u8 0), .lit (.int .u8 4)], .agg [.lit (.int .u16 33), .lit (.int .u16 47), .lit (.int .u8 0), .lit (.int .u8 5)], .agg [.lit (.int .u16 48), .lit (.int .u16 57), .lit (.int .u8 0), .lit (.int .u8 3)], .agg [.lit (.int .u16 58), .lit (.int .u16 64), .lit (.int .u8 0), .lit (.int .u8 5)], .agg [.lit (.int .u16 65), .lit (.int .u16 90), .lit (.int .u8 1), .lit (.int .u8 1)], .agg [.lit (.int .u16 91), .lit (.int .u16 96), .lit (.int .u8 0), .lit (.int .u8 5)], .agg [.lit (.int .u16 97), .lit (.int .u16 122), .lit (.int .u8 1), .lit (.int .u8 1)], .agg [.lit (.int .u16 123), .lit (.int .u16 126), .lit (.int .u8 0), .lit (.int .u8 5)], .agg [.lit (.int .u16 160), .lit (.int .u16 160), .lit (.int .u8 0), .lit (.int .u8 4)], .agg [.lit (.int .u16 178), .lit (.int .u16 179), .lit (.int .u8 0), .lit (.int .u8 3)], .agg [.lit (.int .u16 185), .lit (.int .u16 185), .lit (.int .u8 0), .lit (.int .u8 3)], .agg [.lit (.int .u16 192), .lit (.int .u16 214), .lit (.int .u8 1), .lit (.int .u8 1)], .agg [.lit (.int .u16 216), .lit (.int .u16 246), .lit (.int .u8 1), .lit (.int .u8 1)], .agg [.lit (.int .u16 248), .lit (.int .u16 305), .lit (.int .u8 1), .lit (.int .u8 1)], .agg [.lit (.int .u16 308), .lit (.int .u16 311), .lit (.int .u8 1), .lit (.int .u8 1)], .agg [.lit (.int .u16 313), .lit (.int .u16 318), .lit (.int .u8 1), .lit (.int .u8 1)], .agg [.lit (.int .u16 321), .lit (.int .u16 328), .lit (.int .u8 1), .lit (.int .u8 1)], .agg [.lit (.int .u16 330), .lit (.int .u16 383), .lit (.int .u8 1), .lit (.int .u8 1)], .agg [.lit (.int .u16 768), .lit (.int .u16 772), .lit (.int .u8 0), .lit (.int .u8 2)], .agg [.lit (.int .u16 774), .lit (.int .u16 776), .lit (.int .u8 0), .lit (.int .u8 2)], .agg [.lit (.int .u16 778), .lit (.int .u16 780), .lit (.int .u8 0), .lit (.int .u8 2)], .agg [.lit (.int .u16 803), .lit (.int .u16 803), .lit (.int .u8 0), .lit (.int .u8 2)], .agg [.lit (.int .u16 807), .lit (.int .u16 808), .lit (.int .u8 0), .lit (.int .u8 2)], .agg [.lit (.int .u16 902), .lit (.int .u16 902), .lit (.int .u8 2), .lit (.int .u8 1)], .agg [.lit (.int .u16 904), .lit (.int .u16 906), .lit (.int .u8 2), .lit (.int .u8 1)], .agg [.lit (.int .u16 908), .lit (.int .u16 908), .lit (.int .u8 2), .lit (.int .u8 1)], .agg [.lit (.int .u16 910), .lit (.int .u16 911), .lit (.int .u8 2), .lit (.int .u8 1)], .agg [.lit (.int .u16 913), .lit (.int .u16 929), .lit (.int .u8 2), .lit (.int .u8 1)], .agg [.lit (.int .u16 931), .lit (.int .u16 943), .lit (.int .u8 2), .lit (.int .u8 1)], .agg [.lit (.int .u16 945), .lit (.int .u16 974), .lit (.int .u8 2), .lit (.int .u8 1)], .agg [.lit (.int .u16 1025), .lit (.int .u16 1025), .lit (.int .u8 3), .lit (.int .u8 1)], .agg [.lit (.int .u16 1028), .lit (.int .u16 1028), .lit (.int .u8 3), .lit (.int .u8 1)], .agg [.lit (.int .u16 1030), .lit (.int .u16 1031), .lit (.int .u8 3), .lit (.int .u8 1)], .agg [.lit (.int .u16 1038), .lit (.int .u16 1038), .lit (.int .u8 3), .lit (.int .u8 1)], .agg [.lit (.int .u16 1040), .lit (.int .u16 1103), .lit (.int .u8 3), .lit (.int .u8 1)], .agg [.lit (.int .u16 1105), .lit (.int .u16 1105), .lit (.int .u8 3), .lit (.int .u8 1)], .agg [.lit (.int .u16 1108), .lit (.int .u16 1108), .lit (.int .u8 3), .lit (.int .u8 1)], .agg [.lit (.int .u16 1110), .lit (.int .u16 1111), .lit (.int .u8 3), .lit (.int .u8 1)], .agg [.lit (.int .u16 1118), .lit (.int .u16 1118), .lit (.int .u8 3), .lit (.int .u8 1)], .agg [.lit (.int .u16 1168), .lit (.int .u16 1169), .lit (.int .u8 3), .lit (.int .u8 1)], .agg [.lit (.int .u16 64257), .lit (.int .u16 64258), .lit (.int .u8 1), .lit (.int .u8 1)]]
/-- One of Go's own tables, pinned by name: the form's constant. -/
def laid_unicode_utf8_first : DataW Unit := Go.Pinned.utf8First

/-- 'bookplatelaw07.TranslitTo': WHATEVER THE INPUT: true; the input reads as it did. -/
def translitToSpec : ChangeSpec := { name := "translitTo", fn := fun _ => fun
  | [d1, d2] => { results := [.lit (.bool true)], args := [d1, d2] }
  | _ => none }
def translitToRow : OpenClaim := { program := "ytomkipddbmnipaadoor", sum := "878a810d187a19414722c78878eca323f81bbd25dabdb24ad920989bfbc2bcc0", func := "bookplate/bookplatelaw07.TranslitTo", spec := "translitTo", inPlace := ["internal/bytealg.CountString", "internal/bytealg.IndexByteString", "internal/bytealg.IndexString", "internal/abi.NoEscape"], unfollowed := true, recurses := true, named := ["unicode/utf8.first", "unicode/utf8.acceptRanges", "internal/bytealg.MaxLen", "bookplate/repertoire.spans"], apart := false, laid := [("unicode/utf8.acceptRanges", laid_unicode_utf8_acceptRanges), ("bookplate/repertoire.spans", laid_bookplate_repertoire_spans), ("unicode/utf8.first", laid_unicode_utf8_first)] }
def TranslitToSaid : Prop := translitToRow.holds Tryd.pinned (OpenSpec.ofChange translitToSpec)

/-- ITS FALSE NEIGHBOUR: 'it returns false'. Refute it at one input. -/
def translitToWrong : ChangeSpec := { name := "translitTo", fn := fun _ => fun
  | [d1, d2] => { results := [.lit (.bool false)], args := [d1, d2] }
  | _ => none }
def TranslitToWrongFalsely : Prop := translitToRow.holds Tryd.pinned (OpenSpec.ofChange translitToWrong)

/-- 'bookplatelaw07.TranslitRound': WHATEVER THE INPUT: true; the input reads as it did. -/
def translitRoundSpec : ChangeSpec := { name := "translitRound", fn := fun _ => fun
  | [d1, d2] => { results := [.lit (.bool true)], args := [d1, d2] }
  | _ => none }
def translitRoundRow : OpenClaim := { program := "ytomkipddbmnipaadoor", sum := "878a810d187a19414722c78878eca323f81bbd25dabdb24ad920989bfbc2bcc0", func := "bookplate/bookplatelaw07.TranslitRound", spec := "translitRound", inPlace := ["internal/bytealg.CountString", "internal/bytealg.IndexByteString", "internal/bytealg.IndexString", "internal/abi.NoEscape"], unfollowed := true, recurses := true, named := ["unicode/utf8.first", "unicode/utf8.acceptRanges", "internal/bytealg.MaxLen", "bookplate/repertoire.spans"], apart := false, laid := [("unicode/utf8.acceptRanges", laid_unicode_utf8_acceptRanges), ("bookplate/repertoire.spans", laid_bookplate_repertoire_spans), ("unicode/utf8.first", laid_unicode_utf8_first)] }
def TranslitRoundSaid : Prop := translitRoundRow.holds Tryd.pinned (OpenSpec.ofChange translitRoundSpec)

/-- ITS FALSE NEIGHBOUR: 'it returns false'. Refute it at one input. -/
def translitRoundWrong : ChangeSpec := { name := "translitRound", fn := fun _ => fun
  | [d1, d2] => { results := [.lit (.bool false)], args := [d1, d2] }
  | _ => none }
def TranslitRoundWrongFalsely : Prop := translitRoundRow.holds Tryd.pinned (OpenSpec.ofChange translitRoundWrong)

/-- 'bookplatelaw07.TranslitLongest': WHATEVER THE INPUT: true; the input reads as it did. -/
def translitLongestSpec : ChangeSpec := { name := "translitLongest", fn := fun _ => fun
  | [d1, d2] => { results := [.lit (.bool true)], args := [d1, d2] }
  | _ => none }
def translitLongestRow : OpenClaim := { program := "ytomkipddbmnipaadoor", sum := "878a810d187a19414722c78878eca323f81bbd25dabdb24ad920989bfbc2bcc0", func := "bookplate/bookplatelaw07.TranslitLongest", spec := "translitLongest", inPlace := ["internal/bytealg.CountString", "internal/bytealg.IndexByteString", "internal/bytealg.IndexString", "internal/abi.NoEscape"], unfollowed := true, recurses := true, named := ["unicode/utf8.first", "unicode/utf8.acceptRanges", "internal/bytealg.MaxLen", "bookplate/repertoire.spans"], apart := false, laid := [("unicode/utf8.acceptRanges", laid_unicode_utf8_acceptRanges), ("bookplate/repertoire.spans", laid_bookplate_repertoire_spans), ("unicode/utf8.first", laid_unicode_utf8_first)] }
def TranslitLongestSaid : Prop := translitLongestRow.holds Tryd.pinned (OpenSpec.ofChange translitLongestSpec)

/-- ITS FALSE NEIGHBOUR: 'it returns false'. Refute it at one input. -/
def translitLongestWrong : ChangeSpec := { name := "translitLongest", fn := fun _ => fun
  | [d1, d2] => { results := [.lit (.bool false)], args := [d1, d2] }
  | _ => none }
def TranslitLongestWrongFalsely : Prop := translitLongestRow.holds Tryd.pinned (OpenSpec.ofChange translitLongestWrong)

/-- 'bookplatelaw07.TranslitJoins': WHATEVER THE INPUT: true; the input reads as it did. -/
def translitJoinsSpec : ChangeSpec := { name := "translitJoins", fn := fun _ => fun
  | [d1, d2, d3] => { results := [.lit (.bool true)], args := [d1, d2, d3] }
  | _ => none }
def translitJoinsRow : OpenClaim := { program := "ytomkipddbmnipaadoor", sum := "878a810d187a19414722c78878eca323f81bbd25dabdb24ad920989bfbc2bcc0", func := "bookplate/bookplatelaw07.TranslitJoins", spec := "translitJoins", inPlace := ["internal/bytealg.CountString", "internal/bytealg.IndexByteString", "internal/bytealg.IndexString", "internal/abi.NoEscape"], unfollowed := true, recurses := true, named := ["unicode/utf8.first", "unicode/utf8.acceptRanges", "internal/bytealg.MaxLen", "bookplate/repertoire.spans"], apart := false, laid := [("unicode/utf8.acceptRanges", laid_unicode_utf8_acceptRanges), ("bookplate/repertoire.spans", laid_bookplate_repertoire_spans), ("unicode/utf8.first", laid_unicode_utf8_first)] }
def TranslitJoinsSaid : Prop := translitJoinsRow.holds Tryd.pinned (OpenSpec.ofChange translitJoinsSpec)

/-- ITS FALSE NEIGHBOUR: 'it returns false'. Refute it at one input. -/
def translitJoinsWrong : ChangeSpec := { name := "translitJoins", fn := fun _ => fun
  | [d1, d2, d3] => { results := [.lit (.bool false)], args := [d1, d2, d3] }
  | _ => none }
def TranslitJoinsWrongFalsely : Prop := translitJoinsRow.holds Tryd.pinned (OpenSpec.ofChange translitJoinsWrong)

/-- 'bookplatelaw07.TranslitTables': WHATEVER THE INPUT: true; the input reads as it did. -/
def translitTablesSpec : ChangeSpec := { name := "translitTables", fn := fun _ => fun
  | [] => { results := [.lit (.bool true)], args := [] }
  | _ => none }
def translitTablesRow : OpenClaim := { program := "ytomkipddbmnipaadoor", sum := "878a810d187a19414722c78878eca323f81bbd25dabdb24ad920989bfbc2bcc0", func := "bookplate/bookplatelaw07.TranslitTables", spec := "translitTables", inPlace := ["internal/bytealg.CountString", "internal/bytealg.IndexByteString", "internal/bytealg.IndexString", "internal/abi.NoEscape"], unfollowed := true, recurses := true, named := ["unicode/utf8.first", "unicode/utf8.acceptRanges", "internal/bytealg.MaxLen", "bookplate/repertoire.spans"], apart := false, laid := [("unicode/utf8.acceptRanges", laid_unicode_utf8_acceptRanges), ("bookplate/repertoire.spans", laid_bookplate_repertoire_spans), ("unicode/utf8.first", laid_unicode_utf8_first)] }
def TranslitTablesSaid : Prop := translitTablesRow.holds Tryd.pinned (OpenSpec.ofChange translitTablesSpec)

/-- ITS FALSE NEIGHBOUR: 'it returns false'. Refute it at one input. -/
def translitTablesWrong : ChangeSpec := { name := "translitTables", fn := fun _ => fun
  | [] => { results := [.lit (.bool false)], args := [] }
  | _ => none }
def TranslitTablesWrongFalsely : Prop := translitTablesRow.holds Tryd.pinned (OpenSpec.ofChange translitTablesWrong)

/-- 'bookplatelaw07.TranslitCyrillic': WHATEVER THE INPUT: true; the input reads as it did. -/
def translitCyrillicSpec : ChangeSpec := { name := "translitCyrillic", fn := fun _ => fun
  | [d] => { results := [.lit (.bool true)], args := [d] }
  | _ => none }
def translitCyrillicRow : OpenClaim := { program := "ytomkipddbmnipaadoor", sum := "878a810d187a19414722c78878eca323f81bbd25dabdb24ad920989bfbc2bcc0", func := "bookplate/bookplatelaw07.TranslitCyrillic", spec := "translitCyrillic", inPlace := ["internal/bytealg.CountString", "internal/bytealg.IndexByteString", "internal/bytealg.IndexString", "internal/abi.NoEscape"], unfollowed := true, recurses := true, named := ["unicode/utf8.first", "unicode/utf8.acceptRanges", "internal/bytealg.MaxLen", "bookplate/repertoire.spans"], apart := false, laid := [("unicode/utf8.acceptRanges", laid_unicode_utf8_acceptRanges), ("bookplate/repertoire.spans", laid_bookplate_repertoire_spans), ("unicode/utf8.first", laid_unicode_utf8_first)] }
def TranslitCyrillicSaid : Prop := translitCyrillicRow.holds Tryd.pinned (OpenSpec.ofChange translitCyrillicSpec)

/-- ITS FALSE NEIGHBOUR: 'it returns false'. Refute it at one input. -/
def translitCyrillicWrong : ChangeSpec := { name := "translitCyrillic", fn := fun _ => fun
  | [d] => { results := [.lit (.bool false)], args := [d] }
  | _ => none }
def TranslitCyrillicWrongFalsely : Prop := translitCyrillicRow.holds Tryd.pinned (OpenSpec.ofChange translitCyrillicWrong)

/-- 'bookplatelaw07.TranslitStays': WHATEVER THE INPUT: true; the input reads as it did. -/
def translitStaysSpec : ChangeSpec := { name := "translitStays", fn := fun _ => fun
  | [d1, d2] => { results := [.lit (.bool true)], args := [d1, d2] }
  | _ => none }
def translitStaysRow : OpenClaim := { program := "ytomkipddbmnipaadoor", sum := "878a810d187a19414722c78878eca323f81bbd25dabdb24ad920989bfbc2bcc0", func := "bookplate/bookplatelaw07.TranslitStays", spec := "translitStays", inPlace := ["internal/bytealg.CountString", "internal/bytealg.IndexByteString", "internal/bytealg.IndexString", "internal/abi.NoEscape"], unfollowed := true, recurses := true, named := ["unicode/utf8.first", "unicode/utf8.acceptRanges", "internal/bytealg.MaxLen", "bookplate/repertoire.spans"], apart := false, laid := [("unicode/utf8.acceptRanges", laid_unicode_utf8_acceptRanges), ("bookplate/repertoire.spans", laid_bookplate_repertoire_spans), ("unicode/utf8.first", laid_unicode_utf8_first)] }
def TranslitStaysSaid : Prop := translitStaysRow.holds Tryd.pinned (OpenSpec.ofChange translitStaysSpec)

/-- ITS FALSE NEIGHBOUR: 'it returns false'. Refute it at one input. -/
def translitStaysWrong : ChangeSpec := { name := "translitStays", fn := fun _ => fun
  | [d1, d2] => { results := [.lit (.bool false)], args := [d1, d2] }
  | _ => none }
def TranslitStaysWrongFalsely : Prop := translitStaysRow.holds Tryd.pinned (OpenSpec.ofChange translitStaysWrong)

/- THE SECOND FORM. 'bulk': how many values and letters a reading holds, each counted each time it is reached (what is shared counts as often as it is met; a slice's spare places count too). A statement '..UptoSaid' is the law's where the arguments, and the package variables that the reading takes, are together of bulk at most 1048576: NARROWER than '..Said'. Prove '..Said' where nothing that the law and all that it calls make is longer than what came in: it says more and counts as full. Else prove '..UptoSaid'. A law counts once. -/
mutual
def uptoBulk {H : Type} : DataW H → Nat
  | .lit (.string bytes) => bytes.length + 1
  | .lit _ => 1
  | .nil => 1
  | .ptr d => uptoBulk d + 1
  | .slice elems spare => uptoBulkAll elems + uptoBulkAll spare + 1
  | .agg parts => uptoBulkAll parts + 1
  | .iface _ d => uptoBulk d + 1
  | .map entries => uptoBulkEntries entries + 1
  | .held _ => 1
def uptoBulkAll {H : Type} : List (DataW H) → Nat
  | [] => 0
  | d :: r => uptoBulk d + uptoBulkAll r
def uptoBulkEntries {H : Type} : List (Lit × DataW H) → Nat
  | [] => 0
  | x :: r => uptoBulkEntry x + uptoBulkEntries r
def uptoBulkEntry {H : Type} : Lit × DataW H → Nat
  | (.string bytes, d) => bytes.length + uptoBulk d + 1
  | (_, d) => uptoBulk d + 1
 end
def uptoSmall : (H : Type) → List (DataW H) → Bool := fun _ ds => decide (uptoBulkAll ds ≤ 1048576)
def OpenSpec.upto (s : _root_.Go.ChangeSpec) : _root_.Go.OpenSpec := { _root_.Go.OpenSpec.ofChange s with cond := some uptoSmall }

/-- 'bookplatelaw07.TranslitTo', WHERE WHAT IT READS IS OF BULK AT MOST 1048576: true; the input reads as it did. -/
def translitToUptoRow : OpenClaim := { program := "ytomkipddbmnipaadoor", sum := "878a810d187a19414722c78878eca323f81bbd25dabdb24ad920989bfbc2bcc0", func := "bookplate/bookplatelaw07.TranslitTo", spec := "translitTo", inPlace := ["internal/bytealg.CountString", "internal/bytealg.IndexByteString", "internal/bytealg.IndexString", "internal/abi.NoEscape"], unfollowed := true, recurses := true, named := ["unicode/utf8.first", "unicode/utf8.acceptRanges", "internal/bytealg.MaxLen", "bookplate/repertoire.spans"], apart := false, laid := [("unicode/utf8.acceptRanges", laid_unicode_utf8_acceptRanges), ("bookplate/repertoire.spans", laid_bookplate_repertoire_spans), ("unicode/utf8.first", laid_unicode_utf8_first)], narrowed := true }
def TranslitToUptoSaid : Prop := translitToUptoRow.holds Tryd.pinned (OpenSpec.upto translitToSpec)

/-- 'bookplatelaw07.TranslitRound', WHERE WHAT IT READS IS OF BULK AT MOST 1048576: true; the input reads as it did. -/
def translitRoundUptoRow : OpenClaim := { program := "ytomkipddbmnipaadoor", sum := "878a810d187a19414722c78878eca323f81bbd25dabdb24ad920989bfbc2bcc0", func := "bookplate/bookplatelaw07.TranslitRound", spec := "translitRound", inPlace := ["internal/bytealg.CountString", "internal/bytealg.IndexByteString", "internal/bytealg.IndexString", "internal/abi.NoEscape"], unfollowed := true, recurses := true, named := ["unicode/utf8.first", "unicode/utf8.acceptRanges", "internal/bytealg.MaxLen", "bookplate/repertoire.spans"], apart := false, laid := [("unicode/utf8.acceptRanges", laid_unicode_utf8_acceptRanges), ("bookplate/repertoire.spans", laid_bookplate_repertoire_spans), ("unicode/utf8.first", laid_unicode_utf8_first)], narrowed := true }
def TranslitRoundUptoSaid : Prop := translitRoundUptoRow.holds Tryd.pinned (OpenSpec.upto translitRoundSpec)

/-- 'bookplatelaw07.TranslitLongest', WHERE WHAT IT READS IS OF BULK AT MOST 1048576: true; the input reads as it did. -/
def translitLongestUptoRow : OpenClaim := { program := "ytomkipddbmnipaadoor", sum := "878a810d187a19414722c78878eca323f81bbd25dabdb24ad920989bfbc2bcc0", func := "bookplate/bookplatelaw07.TranslitLongest", spec := "translitLongest", inPlace := ["internal/bytealg.CountString", "internal/bytealg.IndexByteString", "internal/bytealg.IndexString", "internal/abi.NoEscape"], unfollowed := true, recurses := true, named := ["unicode/utf8.first", "unicode/utf8.acceptRanges", "internal/bytealg.MaxLen", "bookplate/repertoire.spans"], apart := false, laid := [("unicode/utf8.acceptRanges", laid_unicode_utf8_acceptRanges), ("bookplate/repertoire.spans", laid_bookplate_repertoire_spans), ("unicode/utf8.first", laid_unicode_utf8_first)], narrowed := true }
def TranslitLongestUptoSaid : Prop := translitLongestUptoRow.holds Tryd.pinned (OpenSpec.upto translitLongestSpec)

/-- 'bookplatelaw07.TranslitJoins', WHERE WHAT IT READS IS OF BULK AT MOST 1048576: true; the input reads as it did. -/
def translitJoinsUptoRow : OpenClaim := { program := "ytomkipddbmnipaadoor", sum := "878a810d187a19414722c78878eca323f81bbd25dabdb24ad920989bfbc2bcc0", func := "bookplate/bookplatelaw07.TranslitJoins", spec := "translitJoins", inPlace := ["internal/bytealg.CountString", "internal/bytealg.IndexByteString", "internal/bytealg.IndexString", "internal/abi.NoEscape"], unfollowed := true, recurses := true, named := ["unicode/utf8.first", "unicode/utf8.acceptRanges", "internal/bytealg.MaxLen", "bookplate/repertoire.spans"], apart := false, laid := [("unicode/utf8.acceptRanges", laid_unicode_utf8_acceptRanges), ("bookplate/repertoire.spans", laid_bookplate_repertoire_spans), ("unicode/utf8.first", laid_unicode_utf8_first)], narrowed := true }
def TranslitJoinsUptoSaid : Prop := translitJoinsUptoRow.holds Tryd.pinned (OpenSpec.upto translitJoinsSpec)

/-- 'bookplatelaw07.TranslitTables', WHERE WHAT IT READS IS OF BULK AT MOST 1048576: true; the input reads as it did. -/
def translitTablesUptoRow : OpenClaim := { program := "ytomkipddbmnipaadoor", sum := "878a810d187a19414722c78878eca323f81bbd25dabdb24ad920989bfbc2bcc0", func := "bookplate/bookplatelaw07.TranslitTables", spec := "translitTables", inPlace := ["internal/bytealg.CountString", "internal/bytealg.IndexByteString", "internal/bytealg.IndexString", "internal/abi.NoEscape"], unfollowed := true, recurses := true, named := ["unicode/utf8.first", "unicode/utf8.acceptRanges", "internal/bytealg.MaxLen", "bookplate/repertoire.spans"], apart := false, laid := [("unicode/utf8.acceptRanges", laid_unicode_utf8_acceptRanges), ("bookplate/repertoire.spans", laid_bookplate_repertoire_spans), ("unicode/utf8.first", laid_unicode_utf8_first)], narrowed := true }
def TranslitTablesUptoSaid : Prop := translitTablesUptoRow.holds Tryd.pinned (OpenSpec.upto translitTablesSpec)

/-- 'bookplatelaw07.TranslitCyrillic', WHERE WHAT IT READS IS OF BULK AT MOST 1048576: true; the input reads as it did. -/
def translitCyrillicUptoRow : OpenClaim := { program := "ytomkipddbmnipaadoor", sum := "878a810d187a19414722c78878eca323f81bbd25dabdb24ad920989bfbc2bcc0", func := "bookplate/bookplatelaw07.TranslitCyrillic", spec := "translitCyrillic", inPlace := ["internal/bytealg.CountString", "internal/bytealg.IndexByteString", "internal/bytealg.IndexString", "internal/abi.NoEscape"], unfollowed := true, recurses := true, named := ["unicode/utf8.first", "unicode/utf8.acceptRanges", "internal/bytealg.MaxLen", "bookplate/repertoire.spans"], apart := false, laid := [("unicode/utf8.acceptRanges", laid_unicode_utf8_acceptRanges), ("bookplate/repertoire.spans", laid_bookplate_repertoire_spans), ("unicode/utf8.first", laid_unicode_utf8_first)], narrowed := true }
def TranslitCyrillicUptoSaid : Prop := translitCyrillicUptoRow.holds Tryd.pinned (OpenSpec.upto translitCyrillicSpec)

/-- 'bookplatelaw07.TranslitStays', WHERE WHAT IT READS IS OF BULK AT MOST 1048576: true; the input reads as it did. -/
def translitStaysUptoRow : OpenClaim := { program := "ytomkipddbmnipaadoor", sum := "878a810d187a19414722c78878eca323f81bbd25dabdb24ad920989bfbc2bcc0", func := "bookplate/bookplatelaw07.TranslitStays", spec := "translitStays", inPlace := ["internal/bytealg.CountString", "internal/bytealg.IndexByteString", "internal/bytealg.IndexString", "internal/abi.NoEscape"], unfollowed := true, recurses := true, named := ["unicode/utf8.first", "unicode/utf8.acceptRanges", "internal/bytealg.MaxLen", "bookplate/repertoire.spans"], apart := false, laid := [("unicode/utf8.acceptRanges", laid_unicode_utf8_acceptRanges), ("bookplate/repertoire.spans", laid_bookplate_repertoire_spans), ("unicode/utf8.first", laid_unicode_utf8_first)], narrowed := true }
def TranslitStaysUptoSaid : Prop := translitStaysUptoRow.holds Tryd.pinned (OpenSpec.upto translitStaysSpec)

end Rows
end Go.Proofs.YtomkipddbmnipaaDoor
