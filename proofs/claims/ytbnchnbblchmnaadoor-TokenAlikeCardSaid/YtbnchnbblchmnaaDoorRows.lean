/-
  NARROWER THAN 'FOR EVERY INPUT', by the rows' own cells (each row's printed sentence says how): TokenWords: laid · TokenZone: laid · TokenJoined: laid · TokenGaps: laid · TokenAlike: laid.
  DERIVED. THE GIVEN ROWS OF THIS SEAT. 5 by the template 'for every input the law returns true; each argument reads behind the call as it read before'; 0 by the template 'total and deterministic' (their statements: YtbnchnbblchmnaaDoorTotals.lean).
  GIVEN WITH THE SEED: the statements are not yours to turn. If you find one false, say at which input.
  Laid BY PROGRAM, IN A SANDBOX (cutbox-rows.mjs): the forced cells as the released guide's own fill.sh prints them over the translation f5857e2f91d34a51… (all of the seat's roots in one cut). By AI agents, Wed Nov 11 2026. No macro, syntax, notation, axiom, sorry.
-/
import Derived.Test.YtbnchnbblchmnaaDoorChecked
import GoSem.PinnedTables
import GoSem.Claim
import GoSem.ClaimJoined
import GoSem.ClaimMapViews
import Derived.JoinedTies
import Derived.KernelRfl
namespace Go.Proofs.YtbnchnbblchmnaaDoor
/- THE CELL 'sum', in the pinned program and in every row, IS THE sha256 OF THE DUMP (.gsa) THAT YtbnchnbblchmnaaDoorProg.lean LOADS. Nothing in Lean hashes anything: it is a label: what it is worth is what the hold of that sum in a sandbox is worth. -/
noncomputable def Tryd.pinned : Pinned := { name := "ytbnchnbblchmnaadoor", sum := "f5857e2f91d34a51424b6188985f73ac79d5773b0bbd9d5a93529cccd66d56c5", checked := Tryd.checked }
namespace Rows
def none {H : Type} : Left H := { results := [], args := [] }

/- WHAT THE LISTED PACKAGE-LEVEL VARIABLES READ AS WHEN THE CALL BEGINS. Each datum BY PROGRAM (the guide's laid-datum.mjs) off the statement by which the dump's own 'gosem.cut.vars' lays the variable. In a bare row this is a premise. The card (YtbnchnbblchmnaaDoorCards.lean) ties it to the program's text. -/
def laid_unicode_utf8_acceptRanges {H : Type} : DataW H := .agg [.agg [.lit (.int .u8 128), .lit (.int .u8 191)], .agg [.lit (.int .u8 160), .lit (.int .u8 191)], .agg [.lit (.int .u8 128), .lit (.int .u8 159)], .agg [.lit (.int .u8 144), .lit (.int .u8 191)], .agg [.lit (.int .u8 128), .lit (.int .u8 143)], .agg [.lit (.int .u8 0), .lit (.int .u8 0)], .agg [.lit (.int .u8 0), .lit (.int .u8 0)], .agg [.lit (.int .u8 0), .lit (.int .u8 0)], .agg [.lit (.int .u8 0), .lit (.int .u8 0)], .agg [.lit (.int .u8 0), .lit (.int .u8 0)], .agg [.lit (.int .u8 0), .lit (.int .u8 0)], .agg [.lit (.int .u8 0), .lit (.int .u8 0)], .agg [.lit (.int .u8 0), .lit (.int .u8 0)], .agg [.lit (.int .u8 0), .lit (.int .u8 0)], .agg [.lit (.int .u8 0), .lit (.int .u8 0)], .agg [.lit (.int .u8 0), .lit (.int .u8 0)]]
def laid_unicode_White_Space {H : Type} : DataW H := .ptr (.agg [.slice [.agg [.lit (.int .u16 9), .lit (.int .u16 13), .lit (.int .u16 1)], .agg [.lit (.int .u16 32), .lit (.int .u16 133), .lit (.int .u16 101)], .agg [.lit (.int .u16 160), .lit (.int .u16 5760), .lit (.int .u16 5600)], .agg [.lit (.int .u16 8192), .lit (.int .u16 8202), .lit (.int .u16 1)], .agg [.lit (.int .u16 8232), .lit (.int .u16 8233), .lit (.int .u16 1)], .agg [.lit (.int .u16 8239), .lit (.int .u16 8287), .lit (.int .u16 48)], .agg [.lit (.int .u16 12288), .lit (.int .u16 12288), .lit (.int .u16 1)]] [], .nil, .lit (.int .i64 2)])
def laid_strings_asciiSpace {H : Type} : DataW H := .agg [.lit (.int .u8 0), .lit (.int .u8 0), .lit (.int .u8 0), .lit (.int .u8 0), .lit (.int .u8 0), .lit (.int .u8 0), .lit (.int .u8 0), .lit (.int .u8 0), .lit (.int .u8 0), .lit (.int .u8 1), .lit (.int .u8 1), .lit (.int .u8 1), .lit (.int .u8 1), .lit (.int .u8 1), .lit (.int .u8 0), .lit (.int .u8 0), .lit (.int .u8 0), .lit (.int .u8 0), .lit (.int .u8 0), .lit (.int .u8 0), .lit (.int .u8 0), .lit (.int .u8 0), .lit (.int .u8 0), .lit (.int .u8 0), .lit (.int .u8 0), .lit (.int .u8 0), .lit (.int .u8 0), .lit (.int .u8 0), .lit (.int .u8 0), .lit (.int .u8 0), .lit (.int .u8 0), .lit (.int .u8 0), .lit (.int .u8 1), .lit (.int .u8 0), .lit (.int .u8 0), .lit (.int .u8 0), .lit (.int .u8 0), .lit (.int .u8 0), .lit (.int .u8 0), .lit (.int .u8 0), .lit (.int .u8 0), .lit (.int .u8 0), .lit (.int .u8 0), .lit (.int .u8 0), .lit (.int .u8 0), .lit (.int .u8 0), .lit (.int .u8 0), .lit (.int .u8 0), .lit (.int .u8 0), .lit (.int .u8 0), .lit (.int .u8 0), .lit (.int .u8 0), .lit (.int .u8 0), .lit (.int .u8 0), .lit (.int .u8 0), .lit (.int .u8 0), .lit (.int .u8 0), .lit (.int .u8 0), .lit (.int .u8 0), .lit (.int .u8 0), .lit (.int .u8 0), .lit (.int .u8 0), .lit (.int .u8 0), .lit (.int .u8 0), .lit (.int .u8 0), .lit (.int .u8 0), .lit (.int .u8 0), .lit (.int .u8 0), .lit (.int .u8 0), .lit (.int .u8 0), .lit (.int .u8 0), .lit (.int .u8 0), .lit (.int .u8 0), .lit (.int .u8 0), .lit (.int .u8 0), .lit (.int .u8 0), .lit (.int .u8 0), .lit (.int .u8 0), .lit (.int .u8 0), .lit (.int .u8 0), .lit (.int .u8 0), .lit (.int .u8 0), .lit (.int .u8 0), .lit (.int .u8 0), .lit (.int .u8 0), .lit (.int .u8 0), .lit (.int .u8 0), .lit (.int .u8 0), .lit (.int .u8 0), .lit (.int .u8 0), .lit (.int .u8 0), .lit (.int .u8 0), .lit (.int .u8 0), .lit (.int .u8 0), .lit (.int .u8 0), .lit (.int .u8 0), .lit (.int .u8 0), .lit (.int .u8 0), .lit (.int .u8 0), .lit (.int .u8 0), .lit (.int .u8 0), .lit (.int .u8 0), .lit (.int .u8 0), .lit (.int .u8 0), .lit (.int .u8 0), .lit (.int .u8 0), .lit (.int .u8 0), .lit (.int .u8 0), .lit (.int .u8 0), .lit (.int .u8 0), .lit (.int .u8 0), .lit (.int .u8 0), .lit (.int .u8 0), .lit (.int .u8 0), .lit (.int .u8 0), .lit (.int .u8 0), .lit (.int .u8 0), .lit (.int .u8 0), .lit (.int .u8 0), .lit (.int .u8 0), .lit (.int .u8 0), .lit (.int .u8 0), .lit (.int .u8 0), .lit (.int .u8 0), .lit (.int .u8 0), .lit (.int .u8 0), .lit (.int .u8 0), .lit (.int .u8 0), .lit (.int .u8 0), .lit (.int .u8 0), .lit (.int .u8 0), .lit (.int .u8 0), .lit (.int .u8 0), .lit (.int .u8 0), .lit (.int .u8 0), .lit (.int .u8 0), .lit (.int .u8 0), .lit (.int .u8 0), .lit (.int .u8 0), .lit (.int .u8 0), .lit (.int .u8 0), .lit (.int .u8 0), .lit (.int .u8 0), .lit (.int .u8 0), .lit (.int .u8 0), .lit (.int .u8 0), .lit (.int .u8 0), .lit (.int .u8 0), .lit (.int .u8 0), .lit (.int .u8 0), .lit (.int .u8 0), .lit (.int .u8 0), .lit (.int .u8 0), .lit (.int .u8 0), .lit (.int .u8 0), .lit (.int .u8 0), .lit (.int .u8 0), .lit (.int .u8 0), .lit (.int .u8 0), .lit (.int .u8 0), .lit (.int .u8 0), .lit (.int .u8 0), .lit (.int .u8 0), .lit (.int .u8 0), .lit (.int .u8 0), .lit (.int .u8 0), .lit (.int .u8 0), .lit (.int .u8 0), .lit (.int .u8 0), .lit (.int .u8 0), .lit (.int .u8 0), .lit (.int .u8 0), .lit (.int .u8 0), .lit (.int .u8 0), .lit (.int .u8 0), .lit (.int .u8 0), .lit (.int .u8 0), .lit (.int .u8 0), .lit (.int .u8 0), .lit (.int .u8 0), .lit (.int .u8 0), .lit (.int .u8 0), .lit (.int .u8 0), .lit (.int .u8 0), .lit (.int .u8 0), .lit (.int .u8 0), .lit (.int .u8 0), .lit (.int .u8 0), .lit (.int .u8 0), .lit (.int .u8 0), .lit (.int .u8 0), .lit (.int .u8 0), .lit (.int .u8 0), .lit (.int .u8 0), .lit (.int .u8 0), .lit (.int .u8 0), .lit (.int .u8 0), .lit (.int .u8 0), .lit (.int .u8 0), .lit (.int .u8 0), .lit (.int .u8 0), .lit (.int .u8 0), .lit (.int .u8 0), .lit (.int .u8 0), .lit (.int .u8 0), .lit (.int .u8 0), .lit (.int .u8 0), .lit (.int .u8 0), .lit (.int .u8 0), .lit (.int .u8 0), .lit (.int .u8 0), .lit (.int .u8 0), .lit (.int .u8 0), .lit (.int .u8 0), .lit (.int .u8 0), .lit (.int .u8 0), .lit (.int .u8 0), .lit (.int .u8 0), .lit (.int .u8 0), .lit (.int .u8 0), .lit (.int .u8 0), .lit (.int .u8 0), .lit (.int .u8 0), .lit (.int .u8 0), .lit (.int .u8 0), .lit (.int .u8 0), .lit (.int .u8 0), .lit (.int .u8 0), .lit (.int .u8 0), .lit (.int .u8 0), .lit (.int .u8 0), .lit (.int .u8 0), .lit (.int .u8 0), .lit (.int .u8 0), .lit (.int .u8 0), .lit (.int .u8 0), .lit (.int .u8 0), .lit (.int .u8 0), .lit (.int .u8 0), .lit (.int .u8 0), .lit (.int .u8 0), .lit (.int .u8 0), .lit (.int .u8 0), .lit (.int .u8 0), .lit (.int .u8 0), .lit (.int .u8 0), .lit (.int .u8 0), .lit (.int .u8 0), .lit (.int .u8 0), .lit (.int .u8 0), .lit (.int .u8 0), .lit (.int .u8 0), .lit (.int .u8 0), .lit (.int .u8 0), .lit (.int .u8 0), .lit (.int .u8 0)]
def laid_bookplate_repertoire_spans {H : Type} : DataW H := .agg [.agg [.lit (.int .u16 32), .lit (.int .u16 32), .lit (.int .u8 0), .lit (.int .u8 4)], .agg [.lit (.int .u16 33), .lit (.int .u16 47), .lit (.int .u8 0), .lit (.int .u8 5)], .agg [.lit (.int .u16 48), .lit (.int .u16 57), .lit (.int .u8 0), .lit (.int .u8 3)], .agg [.lit (.int .u16 58), .lit (.int .u16 64), .lit (.int .u8 0), .lit (.int .u8 5)], .agg [.lit (.int .u16 65), .lit (.int .u16 90), .lit (.int .u8 1), .lit (.int .u8 1)], .agg [.lit (.int .u16 91), .lit (.int .u16 96), .lit (.int .u8 0), .lit (.int .u8 5)], .agg [.lit (.int .u16 97), .lit (.int .u16 122), .lit (.int .u8 1), .lit (.int .u8 1)], .agg [.lit (.int .u16 123), .lit (.int .u16 126), .lit (.int .u8 0), .lit (.int .u8 5)], .agg [.lit (.int .u16 160), .lit (.int .u16 160), .lit (.int .u8 0), .lit (.int .u8 4)], .agg [.lit (.int .u16 178), .lit (.int .u16 179), .lit (.int .u8 0), .lit (.int .u8 3)], .agg [.lit (.int .u16 185), .lit (.int .u16 185), .lit (.int .u8 0), .lit (.int .u8 3)], .agg [.lit (.int .u16 192), .lit (.int .u16 214), .lit (.int .u8 1), .lit (.int .u8 1)], .agg [.lit (.int .u16 216), .lit (.int .u16 246), .lit (.int .u8 1), .lit (.int .u8 1)], .agg [.lit (.int .u16 248), .lit (.int .u16 305), .lit (.int .u8 1), .lit (.int .u8 1)], .agg [.lit (.int .u16 308), .lit (.int .u16 311), .lit (.int .u8 1), .lit (.int .u8 1)], .agg [.lit (.int .u16 313), .lit (.int .u16 318), .lit (.int .u8 1), .lit (.int .u8 1)], .agg [.lit (.int .u16 321), .lit (.int .u16 328), .lit (.int .u8 1), .lit (.int .u8 1)], .agg [.lit (.int .u16 330), .lit (.int .u16 383), .lit (.int .u8 1), .lit (.int .u8 1)], .agg [.lit (.int .u16 768), .lit (.int .u16 772), .lit (.int .u8 0), .lit (.int .u8 2)], .agg [.lit (.int .u16 774), .lit (.int .u16 776), .lit (.int .u8 0), .lit (.int .u8 2)], .agg [.lit (.int .u16 778), .lit (.int .u16 780), .lit (.int .u8 0), .lit (.int .u8 2)], .agg [.lit (.int .u16 803), .lit (.int .u16 803), .lit (.int .u8 0), .lit (.int .u8 2)], .agg [.lit (.int .u16 807), .lit (.int .u16 808), .lit (.int .u8 0), .lit (.int .u8 2)], .agg [.lit (.int .u16 902), .lit (.int .u16 902), .lit (.int .u8 2), .lit (.int .u8 1)], .agg [.lit (.int .u16 904), .lit (.int .u16 906), .lit (.int .u8 2), .lit (.int .u8 1)], .agg [.lit (.int .u16 908), .lit (.int .u16 908), .lit (.int .u8 2), .lit (.int .u8 1)], .agg [.lit (.int .u16 910), .lit (.int .u16 911), .lit (.int .u8 2), .lit (.int .u8 1)], .agg [.lit (.int .u16 913), .lit (.int .u16 929), .lit (.int .u8 2), .lit (.int .u8 1)], .agg [.lit (.int .u16 931), .lit (.int .u16 943), .lit (.int .u8 2), .lit (.int .u8 1)], .agg [.lit (.int .u16 945), .lit (.int .u16 974), .lit (.int .u8 2), .lit (.int .u8 1)], .agg [.lit (.int .u16 1025), .lit (.int .u16 1025), .lit (.int .u8 3), .lit (.int .u8 1)], .agg [.lit (.int .u16 1028), .lit (.int .u16 1028), .lit (.int .u8 3), .lit (.int .u8 1)], .agg [.lit (.int .u16 1030), .lit (.int .u16 1031), .lit (.int .u8 3), .lit (.int .u8 1)], .agg [.lit (.int .u16 1038), .lit (.int .u16 1038), .lit (.int .u8 3), .lit (.int .u8 1)], .agg [.lit (.int .u16 1040), .lit (.int .u16 1103), .lit (.int .u8 3), .lit (.int .u8 1)], .agg [.lit (.int .u16 1105), .lit (.int .u16 1105), .lit (.int .u8 3), .lit (.int .u8 1)], .agg [.lit (.int .u16 1108), .lit (.int .u16 1108), .lit (.int .u8 3), .lit (.int .u8 1)], .agg [.lit (.int .u16 1110), .lit (.int .u16 1111), .lit (.int .u8 3), .lit (.int .u8 1)], .agg [.lit (.int .u16 1118), .lit (.int .u16 1118), .lit (.int .u8 3), .lit (.int .u8 1)], .agg [.lit (.int .u16 1168), .lit (.int .u16 1169), .lit (.int .u8 3), .lit (.int .u8 1)], .agg [.lit (.int .u16 64257), .lit (.int .u16 64258), .lit (.int .u8 1), .lit (.int .u8 1)]]
/-- One of Go's own tables, pinned by name: the form's constant. -/
def laid_unicode_utf8_first : DataW Unit := Go.Pinned.utf8First

/-- 'bookplatelaw10.TokenWords': WHATEVER THE INPUT: true; the input reads as it did. -/
def tokenWordsSpec : ChangeSpec := { name := "tokenWords", fn := fun _ => fun
  | [d] => { results := [.lit (.bool true)], args := [d] }
  | _ => none }
def tokenWordsRow : OpenClaim := { program := "ytbnchnbblchmnaadoor", sum := "f5857e2f91d34a51424b6188985f73ac79d5773b0bbd9d5a93529cccd66d56c5", func := "bookplate/bookplatelaw10.TokenWords", spec := "tokenWords", inPlace := ["internal/abi.NoEscape", "internal/bytealg.IndexByteString", "internal/bytealg.IndexString", "internal/bytealg.MakeNoZero"], unfollowed := true, recurses := true, named := ["bookplate/repertoire.spans", "strings.asciiSpace", "unicode/utf8.first", "unicode/utf8.acceptRanges", "unicode.White_Space", "internal/bytealg.MaxLen"], plainKeys := false, apart := false, laid := [("unicode/utf8.acceptRanges", laid_unicode_utf8_acceptRanges), ("unicode.White_Space", laid_unicode_White_Space), ("strings.asciiSpace", laid_strings_asciiSpace), ("bookplate/repertoire.spans", laid_bookplate_repertoire_spans), ("unicode/utf8.first", laid_unicode_utf8_first)] }
def TokenWordsSaid : Prop := tokenWordsRow.holds Tryd.pinned (OpenSpec.ofChange tokenWordsSpec)

/-- ITS FALSE NEIGHBOUR: 'it returns false'. Refute it at one input. -/
def tokenWordsWrong : ChangeSpec := { name := "tokenWords", fn := fun _ => fun
  | [d] => { results := [.lit (.bool false)], args := [d] }
  | _ => none }
def TokenWordsWrongFalsely : Prop := tokenWordsRow.holds Tryd.pinned (OpenSpec.ofChange tokenWordsWrong)

/-- 'bookplatelaw10.TokenZone': WHATEVER THE INPUT: true; the input reads as it did. -/
def tokenZoneSpec : ChangeSpec := { name := "tokenZone", fn := fun _ => fun
  | [d1, d2] => { results := [.lit (.bool true)], args := [d1, d2] }
  | _ => none }
def tokenZoneRow : OpenClaim := { program := "ytbnchnbblchmnaadoor", sum := "f5857e2f91d34a51424b6188985f73ac79d5773b0bbd9d5a93529cccd66d56c5", func := "bookplate/bookplatelaw10.TokenZone", spec := "tokenZone", inPlace := ["internal/abi.NoEscape", "internal/bytealg.IndexByteString", "internal/bytealg.IndexString", "internal/bytealg.MakeNoZero"], unfollowed := true, recurses := true, named := ["bookplate/repertoire.spans", "strings.asciiSpace", "unicode/utf8.first", "unicode/utf8.acceptRanges", "unicode.White_Space", "internal/bytealg.MaxLen"], plainKeys := false, apart := false, laid := [("unicode/utf8.acceptRanges", laid_unicode_utf8_acceptRanges), ("unicode.White_Space", laid_unicode_White_Space), ("strings.asciiSpace", laid_strings_asciiSpace), ("bookplate/repertoire.spans", laid_bookplate_repertoire_spans), ("unicode/utf8.first", laid_unicode_utf8_first)] }
def TokenZoneSaid : Prop := tokenZoneRow.holds Tryd.pinned (OpenSpec.ofChange tokenZoneSpec)

/-- ITS FALSE NEIGHBOUR: 'it returns false'. Refute it at one input. -/
def tokenZoneWrong : ChangeSpec := { name := "tokenZone", fn := fun _ => fun
  | [d1, d2] => { results := [.lit (.bool false)], args := [d1, d2] }
  | _ => none }
def TokenZoneWrongFalsely : Prop := tokenZoneRow.holds Tryd.pinned (OpenSpec.ofChange tokenZoneWrong)

/-- 'bookplatelaw10.TokenJoined': WHATEVER THE INPUT: true; the input reads as it did. -/
def tokenJoinedSpec : ChangeSpec := { name := "tokenJoined", fn := fun _ => fun
  | [d] => { results := [.lit (.bool true)], args := [d] }
  | _ => none }
def tokenJoinedRow : OpenClaim := { program := "ytbnchnbblchmnaadoor", sum := "f5857e2f91d34a51424b6188985f73ac79d5773b0bbd9d5a93529cccd66d56c5", func := "bookplate/bookplatelaw10.TokenJoined", spec := "tokenJoined", inPlace := ["internal/abi.NoEscape", "internal/bytealg.IndexByteString", "internal/bytealg.IndexString", "internal/bytealg.MakeNoZero"], unfollowed := true, recurses := true, named := ["bookplate/repertoire.spans", "strings.asciiSpace", "unicode/utf8.first", "unicode/utf8.acceptRanges", "unicode.White_Space", "internal/bytealg.MaxLen"], plainKeys := false, apart := false, laid := [("unicode/utf8.acceptRanges", laid_unicode_utf8_acceptRanges), ("unicode.White_Space", laid_unicode_White_Space), ("strings.asciiSpace", laid_strings_asciiSpace), ("bookplate/repertoire.spans", laid_bookplate_repertoire_spans), ("unicode/utf8.first", laid_unicode_utf8_first)] }
def TokenJoinedSaid : Prop := tokenJoinedRow.holds Tryd.pinned (OpenSpec.ofChange tokenJoinedSpec)

/-- ITS FALSE NEIGHBOUR: 'it returns false'. Refute it at one input. -/
def tokenJoinedWrong : ChangeSpec := { name := "tokenJoined", fn := fun _ => fun
  | [d] => { results := [.lit (.bool false)], args := [d] }
  | _ => none }
def TokenJoinedWrongFalsely : Prop := tokenJoinedRow.holds Tryd.pinned (OpenSpec.ofChange tokenJoinedWrong)

/-- 'bookplatelaw10.TokenGaps': WHATEVER THE INPUT: true; the input reads as it did. -/
def tokenGapsSpec : ChangeSpec := { name := "tokenGaps", fn := fun _ => fun
  | [d1, d2, d3] => { results := [.lit (.bool true)], args := [d1, d2, d3] }
  | _ => none }
def tokenGapsRow : OpenClaim := { program := "ytbnchnbblchmnaadoor", sum := "f5857e2f91d34a51424b6188985f73ac79d5773b0bbd9d5a93529cccd66d56c5", func := "bookplate/bookplatelaw10.TokenGaps", spec := "tokenGaps", inPlace := ["internal/abi.NoEscape", "internal/bytealg.IndexByteString", "internal/bytealg.IndexString", "internal/bytealg.MakeNoZero"], unfollowed := true, recurses := true, named := ["bookplate/repertoire.spans", "strings.asciiSpace", "unicode/utf8.first", "unicode/utf8.acceptRanges", "unicode.White_Space", "internal/bytealg.MaxLen"], plainKeys := false, apart := false, laid := [("unicode/utf8.acceptRanges", laid_unicode_utf8_acceptRanges), ("unicode.White_Space", laid_unicode_White_Space), ("strings.asciiSpace", laid_strings_asciiSpace), ("bookplate/repertoire.spans", laid_bookplate_repertoire_spans), ("unicode/utf8.first", laid_unicode_utf8_first)] }
def TokenGapsSaid : Prop := tokenGapsRow.holds Tryd.pinned (OpenSpec.ofChange tokenGapsSpec)

/-- ITS FALSE NEIGHBOUR: 'it returns false'. Refute it at one input. -/
def tokenGapsWrong : ChangeSpec := { name := "tokenGaps", fn := fun _ => fun
  | [d1, d2, d3] => { results := [.lit (.bool false)], args := [d1, d2, d3] }
  | _ => none }
def TokenGapsWrongFalsely : Prop := tokenGapsRow.holds Tryd.pinned (OpenSpec.ofChange tokenGapsWrong)

/-- 'bookplatelaw10.TokenAlike': WHATEVER THE INPUT: true; the input reads as it did. -/
def tokenAlikeSpec : ChangeSpec := { name := "tokenAlike", fn := fun _ => fun
  | [d1, d2] => { results := [.lit (.bool true)], args := [d1, d2] }
  | _ => none }
def tokenAlikeRow : OpenClaim := { program := "ytbnchnbblchmnaadoor", sum := "f5857e2f91d34a51424b6188985f73ac79d5773b0bbd9d5a93529cccd66d56c5", func := "bookplate/bookplatelaw10.TokenAlike", spec := "tokenAlike", inPlace := ["internal/abi.NoEscape", "internal/bytealg.IndexByteString", "internal/bytealg.IndexString", "internal/bytealg.MakeNoZero"], unfollowed := true, recurses := true, named := ["bookplate/repertoire.spans", "strings.asciiSpace", "unicode/utf8.first", "unicode/utf8.acceptRanges", "unicode.White_Space", "internal/bytealg.MaxLen"], plainKeys := false, apart := false, laid := [("unicode/utf8.acceptRanges", laid_unicode_utf8_acceptRanges), ("unicode.White_Space", laid_unicode_White_Space), ("strings.asciiSpace", laid_strings_asciiSpace), ("bookplate/repertoire.spans", laid_bookplate_repertoire_spans), ("unicode/utf8.first", laid_unicode_utf8_first)] }
def TokenAlikeSaid : Prop := tokenAlikeRow.holds Tryd.pinned (OpenSpec.ofChange tokenAlikeSpec)

/-- ITS FALSE NEIGHBOUR: 'it returns false'. Refute it at one input. -/
def tokenAlikeWrong : ChangeSpec := { name := "tokenAlike", fn := fun _ => fun
  | [d1, d2] => { results := [.lit (.bool false)], args := [d1, d2] }
  | _ => none }
def TokenAlikeWrongFalsely : Prop := tokenAlikeRow.holds Tryd.pinned (OpenSpec.ofChange tokenAlikeWrong)

/- THE SECOND FORM. 'bulk': how many values and letters a reading holds, each counted each time it is reached (what is shared counts as often as it is met; a slice's spare places count too). A statement '..UptoSaid' is the law's where the arguments, and the package variables that the reading takes, are together of bulk at most 1048576: NARROWER than '..Said'. Prove '..Said' where nothing that the law and all that it calls make is longer than what came in: it says more and counts as full. Else prove '..UptoSaid'. A law counts once. -/
mutual
def uptoBulk {H : Type} : DataW H → Nat
  | .lit (.string bytes) => bytes.length + 1
  | .lit _ => 1
  | .nil => 1
  | .ptr d => uptoBulk d + 1
  | .slice elems spare => uptoBulkAll elems + uptoBulkAll spare + 1
  | .agg parts => uptoBulkAll parts + 1
  | .iface _ d => uptoBulk d + 1
  | .map entries => uptoBulkEntries entries + 1
  | .held _ => 1
def uptoBulkAll {H : Type} : List (DataW H) → Nat
  | [] => 0
  | d :: r => uptoBulk d + uptoBulkAll r
def uptoBulkEntries {H : Type} : List (Lit × DataW H) → Nat
  | [] => 0
  | x :: r => uptoBulkEntry x + uptoBulkEntries r
def uptoBulkEntry {H : Type} : Lit × DataW H → Nat
  | (.string bytes, d) => bytes.length + uptoBulk d + 1
  | (_, d) => uptoBulk d + 1
 end
def uptoSmall : (H : Type) → List (DataW H) → Bool := fun _ ds => decide (uptoBulkAll ds ≤ 1048576)
def OpenSpec.upto (s : _root_.Go.ChangeSpec) : _root_.Go.OpenSpec := { _root_.Go.OpenSpec.ofChange s with cond := some uptoSmall }

/-- 'bookplatelaw10.TokenWords', WHERE WHAT IT READS IS OF BULK AT MOST 1048576: true; the input reads as it did. -/
def tokenWordsUptoRow : OpenClaim := { program := "ytbnchnbblchmnaadoor", sum := "f5857e2f91d34a51424b6188985f73ac79d5773b0bbd9d5a93529cccd66d56c5", func := "bookplate/bookplatelaw10.TokenWords", spec := "tokenWords", inPlace := ["internal/abi.NoEscape", "internal/bytealg.IndexByteString", "internal/bytealg.IndexString", "internal/bytealg.MakeNoZero"], unfollowed := true, recurses := true, named := ["bookplate/repertoire.spans", "strings.asciiSpace", "unicode/utf8.first", "unicode/utf8.acceptRanges", "unicode.White_Space", "internal/bytealg.MaxLen"], plainKeys := false, apart := false, laid := [("unicode/utf8.acceptRanges", laid_unicode_utf8_acceptRanges), ("unicode.White_Space", laid_unicode_White_Space), ("strings.asciiSpace", laid_strings_asciiSpace), ("bookplate/repertoire.spans", laid_bookplate_repertoire_spans), ("unicode/utf8.first", laid_unicode_utf8_first)], narrowed := true }
def TokenWordsUptoSaid : Prop := tokenWordsUptoRow.holds Tryd.pinned (OpenSpec.upto tokenWordsSpec)

/-- 'bookplatelaw10.TokenZone', WHERE WHAT IT READS IS OF BULK AT MOST 1048576: true; the input reads as it did. -/
def tokenZoneUptoRow : OpenClaim := { program := "ytbnchnbblchmnaadoor", sum := "f5857e2f91d34a51424b6188985f73ac79d5773b0bbd9d5a93529cccd66d56c5", func := "bookplate/bookplatelaw10.TokenZone", spec := "tokenZone", inPlace := ["internal/abi.NoEscape", "internal/bytealg.IndexByteString", "internal/bytealg.IndexString", "internal/bytealg.MakeNoZero"], unfollowed := true, recurses := true, named := ["bookplate/repertoire.spans", "strings.asciiSpace", "unicode/utf8.first", "unicode/utf8.acceptRanges", "unicode.White_Space", "internal/bytealg.MaxLen"], plainKeys := false, apart := false, laid := [("unicode/utf8.acceptRanges", laid_unicode_utf8_acceptRanges), ("unicode.White_Space", laid_unicode_White_Space), ("strings.asciiSpace", laid_strings_asciiSpace), ("bookplate/repertoire.spans", laid_bookplate_repertoire_spans), ("unicode/utf8.first", laid_unicode_utf8_first)], narrowed := true }
def TokenZoneUptoSaid : Prop := tokenZoneUptoRow.holds Tryd.pinned (OpenSpec.upto tokenZoneSpec)

/-- 'bookplatelaw10.TokenJoined', WHERE WHAT IT READS IS OF BULK AT MOST 1048576: true; the input reads as it did. -/
def tokenJoinedUptoRow : OpenClaim := { program := "ytbnchnbblchmnaadoor", sum := "f5857e2f91d34a51424b6188985f73ac79d5773b0bbd9d5a93529cccd66d56c5", func := "bookplate/bookplatelaw10.TokenJoined", spec := "tokenJoined", inPlace := ["internal/abi.NoEscape", "internal/bytealg.IndexByteString", "internal/bytealg.IndexString", "internal/bytealg.MakeNoZero"], unfollowed := true, recurses := true, named := ["bookplate/repertoire.spans", "strings.asciiSpace", "unicode/utf8.first", "unicode/utf8.acceptRanges", "unicode.White_Space", "internal/bytealg.MaxLen"], plainKeys := false, apart := false, laid := [("unicode/utf8.acceptRanges", laid_unicode_utf8_acceptRanges), ("unicode.White_Space", laid_unicode_White_Space), ("strings.asciiSpace", laid_strings_asciiSpace), ("bookplate/repertoire.spans", laid_bookplate_repertoire_spans), ("unicode/utf8.first", laid_unicode_utf8_first)], narrowed := true }
def TokenJoinedUptoSaid : Prop := tokenJoinedUptoRow.holds Tryd.pinned (OpenSpec.upto tokenJoinedSpec)

/-- 'bookplatelaw10.TokenGaps', WHERE WHAT IT READS IS OF BULK AT MOST 1048576: true; the input reads as it did. -/
def tokenGapsUptoRow : OpenClaim := { program := "ytbnchnbblchmnaadoor", sum := "f5857e2f91d34a51424b6188985f73ac79d5773b0bbd9d5a93529cccd66d56c5", func := "bookplate/bookplatelaw10.TokenGaps", spec := "tokenGaps", inPlace := ["internal/abi.NoEscape", "internal/bytealg.IndexByteString", "internal/bytealg.IndexString", "internal/bytealg.MakeNoZero"], unfollowed := true, recurses := true, named := ["bookplate/repertoire.spans", "strings.asciiSpace", "unicode/utf8.first", "unicode/utf8.acceptRanges", "unicode.White_Space", "internal/bytealg.MaxLen"], plainKeys := false, apart := false, laid := [("unicode/utf8.acceptRanges", laid_unicode_utf8_acceptRanges), ("unicode.White_Space", laid_unicode_White_Space), ("strings.asciiSpace", laid_strings_asciiSpace), ("bookplate/repertoire.spans", laid_bookplate_repertoire_spans), ("unicode/utf8.first", laid_unicode_utf8_first)], narrowed := true }
def TokenGapsUptoSaid : Prop := tokenGapsUptoRow.holds Tryd.pinned (OpenSpec.upto tokenGapsSpec)

/-- 'bookplatelaw10.TokenAlike', WHERE WHAT IT READS IS OF BULK AT MOST 1048576: true; the input reads as it did. -/
def tokenAlikeUptoRow : OpenClaim := { program := "ytbnchnbblchmnaadoor", sum := "f5857e2f91d34a51424b6188985f73ac79d5773b0bbd9d5a93529cccd66d56c5", func := "bookplate/bookplatelaw10.TokenAlike", spec := "tokenAlike", inPlace := ["internal/abi.NoEscape", "internal/bytealg.IndexByteString", "internal/bytealg.IndexString", "internal/bytealg.MakeNoZero"], unfollowed := true, recurses := true, named := ["bookplate/repertoire.spans", "strings.asciiSpace", "unicode/utf8.first", "unicode/utf8.acceptRanges", "unicode.White_Space", "internal/bytealg.MaxLen"], plainKeys := false, apart := false, laid := [("unicode/utf8.acceptRanges", laid_unicode_utf8_acceptRanges), ("unicode.White_Space", laid_unicode_White_Space), ("strings.asciiSpace", laid_strings_asciiSpace), ("bookplate/repertoire.spans", laid_bookplate_repertoire_spans), ("unicode/utf8.first", laid_unicode_utf8_first)], narrowed := true }
def TokenAlikeUptoSaid : Prop := tokenAlikeUptoRow.holds Tryd.pinned (OpenSpec.upto tokenAlikeSpec)

end Rows
end Go.Proofs.YtbnchnbblchmnaaDoor
