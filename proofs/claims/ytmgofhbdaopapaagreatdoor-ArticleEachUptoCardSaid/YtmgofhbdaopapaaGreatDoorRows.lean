/-
  NARROWER THAN 'FOR EVERY INPUT', by the rows' own cells (each row's printed sentence says how): ArticleSkip: laid · ArticleSort: laid · ArticleRest: laid · ArticleEach: laid · ArticleOthers: laid.
  DERIVED. THE GIVEN ROWS OF THIS SEAT. 5 by the template 'for every input the law returns true; each argument reads behind the call as it read before'; 0 by the template 'total and deterministic' (their statements: YtmgofhbdaopapaaGreatDoorTotals.lean).
  GIVEN WITH THE SEED: the statements are not yours to turn. If you find one false, say at which input.
  Laid BY PROGRAM, IN A SANDBOX (cutbox-rows.mjs): the forced cells as the released guide's own fill.sh prints them over the translation 4390f833c97ecc79… (all of the seat's roots in one cut). By AI agents, Wed Nov 11 2026. No macro, syntax, notation, axiom, sorry.
-/
import Derived.Test.YtmgofhbdaopapaaGreatDoorChecked
import GoSem.PinnedTables
import GoSem.Claim
import GoSem.ClaimJoined
import GoSem.ClaimMapViews
import Derived.JoinedTies
import Derived.KernelRfl
namespace Go.Proofs.YtmgofhbdaopapaaGreatDoor
/- THE CELL 'sum', in the pinned program and in every row, IS THE sha256 OF THE DUMP (.gsa) THAT YtmgofhbdaopapaaGreatDoorProg.lean LOADS. Nothing in Lean hashes anything: it is a label: what it is worth is what the hold of that sum in a sandbox is worth. -/
noncomputable def Tryz.pinned : Pinned := { name := "ytmgofhbdaopapaagreatdoor", sum := "4390f833c97ecc792164d67005ac96bb59cc3ee4220ee8b386b666a4ebffc4fe", checked := Tryz.checked }
namespace Rows
def none {H : Type} : Left H := { results := [], args := [] }

/- WHAT THE LISTED PACKAGE-LEVEL VARIABLES READ AS WHEN THE CALL BEGINS. Each datum BY PROGRAM (the guide's laid-datum.mjs) off the statement by which the dump's own 'gosem.cut.vars' lays the variable. In a bare row this is a premise. The card (YtmgofhbdaopapaaGreatDoorCards.lean) ties it to the program's text. -/
def laid_unicode_utf8_acceptRanges {H : Type} : DataW H := .agg [.agg [.lit (.int .u8 128), .lit (.int .u8 191)], .agg [.lit (.int .u8 160), .lit (.int .u8 191)], .agg [.lit (.int .u8 128), .lit (.int .u8 159)], .agg [.lit (.int .u8 144), .lit (.int .u8 191)], .agg [.lit (.int .u8 128), .lit (.int .u8 143)], .agg [.lit (.int .u8 0), .lit (.int .u8 0)], .agg [.lit (.int .u8 0), .lit (.int .u8 0)], .agg [.lit (.int .u8 0), .lit (.int .u8 0)], .agg [.lit (.int .u8 0), .lit (.int .u8 0)], .agg [.lit (.int .u8 0), .lit (.int .u8 0)], .agg [.lit (.int .u8 0), .lit (.int .u8 0)], .agg [.lit (.int .u8 0), .lit (.int .u8 0)], .agg [.lit (.int .u8 0), .lit (.int .u8 0)], .agg [.lit (.int .u8 0), .lit (.int .u8 0)], .agg [.lit (.int .u8 0), .lit (.int .u8 0)], .agg [.lit (.int .u8 0), .lit (.int .u8 0)]]
def laid_bookplate_repertoire_spans {H : Type} : DataW H := .agg [.agg [.lit (.int .u16 32), .lit (.int .u16 32), .lit (.int .u8 0), .lit (.int .u8 4)], .agg [.lit (.int .u16 33), .lit (.int .u16 47), .lit (.int .u8 0), .lit (.int .u8 5)], .agg [.lit (.int .u16 48), .lit (.int .u16 57), .lit (.int .u8 0), .lit (.int .u8 3)], .agg [.lit (.int .u16 58), .lit (.int .u16 64), .lit (.int .u8 0), .lit (.int .u8 5)], .agg [.lit (.int .u16 65), .lit (.int .u16 90), .lit (.int .u8 1), .lit (.int .u8 1)], .agg [.lit (.int .u16 91), .lit (.int .u16 96), .lit (.int .u8 0), .lit (.int .u8 5)], .agg [.lit (.int .u16 97), .lit (.int .u16 122), .lit (.int .u8 1), .lit (.int .u8 1)], .agg [.lit (.int .u16 123), .lit (.int .u16 126), .lit (.int .u8 0), .lit (.int .u8 5)], .agg [.lit (.int .u16 160), .lit (.int .u16 160), .lit (.int .u8 0), .lit (.int .u8 4)], .agg [.lit (.int .u16 178), .lit (.int .u16 179), .lit (.int .u8 0), .lit (.int .u8 3)], .agg [.lit (.int .u16 185), .lit (.int .u16 185), .lit (.int .u8 0), .lit (.int .u8 3)], .agg [.lit (.int .u16 192), .lit (.int .u16 214), .lit (.int .u8 1), .lit (.int .u8 1)], .agg [.lit (.int .u16 216), .lit (.int .u16 246), .lit (.int .u8 1), .lit (.int .u8 1)], .agg [.lit (.int .u16 248), .lit (.int .u16 305), .lit (.int .u8 1), .lit (.int .u8 1)], .agg [.lit (.int .u16 308), .lit (.int .u16 311), .lit (.int .u8 1), .lit (.int .u8 1)], .agg [.lit (.int .u16 313), .lit (.int .u16 318), .lit (.int .u8 1), .lit (.int .u8 1)], .agg [.lit (.int .u16 321), .lit (.int .u16 328), .lit (.int .u8 1), .lit (.int .u8 1)], .agg [.lit (.int .u16 330), .lit (.int .u16 383), .lit (.int .u8 1), .lit (.int .u8 1)], .agg [.lit (.int .u16 768), .lit (.int .u16 772), .lit (.int .u8 0), .lit (.int .u8 2)], .agg [.lit (.int .u16 774), .lit (.int .u16 776), .lit (.int .u8 0), .lit (.int .u8 2)], .agg [.lit (.int .u16 778), .lit (.int .u16 780), .lit (.int .u8 0), .lit (.int .u8 2)], .agg [.lit (.int .u16 803), .lit (.int .u16 803), .lit (.int .u8 0), .lit (.int .u8 2)], .agg [.lit (.int .u16 807), .lit (.int .u16 808), .lit (.int .u8 0), .lit (.int .u8 2)], .agg [.lit (.int .u16 902), .lit (.int .u16 902), .lit (.int .u8 2), .lit (.int .u8 1)], .agg [.lit (.int .u16 904), .lit (.int .u16 906), .lit (.int .u8 2), .lit (.int .u8 1)], .agg [.lit (.int .u16 908), .lit (.int .u16 908), .lit (.int .u8 2), .lit (.int .u8 1)], .agg [.lit (.int .u16 910), .lit (.int .u16 911), .lit (.int .u8 2), .lit (.int .u8 1)], .agg [.lit (.int .u16 913), .lit (.int .u16 929), .lit (.int .u8 2), .lit (.int .u8 1)], .agg [.lit (.int .u16 931), .lit (.int .u16 943), .lit (.int .u8 2), .lit (.int .u8 1)], .agg [.lit (.int .u16 945), .lit (.int .u16 974), .lit (.int .u8 2), .lit (.int .u8 1)], .agg [.lit (.int .u16 1025), .lit (.int .u16 1025), .lit (.int .u8 3), .lit (.int .u8 1)], .agg [.lit (.int .u16 1028), .lit (.int .u16 1028), .lit (.int .u8 3), .lit (.int .u8 1)], .agg [.lit (.int .u16 1030), .lit (.int .u16 1031), .lit (.int .u8 3), .lit (.int .u8 1)], .agg [.lit (.int .u16 1038), .lit (.int .u16 1038), .lit (.int .u8 3), .lit (.int .u8 1)], .agg [.lit (.int .u16 1040), .lit (.int .u16 1103), .lit (.int .u8 3), .lit (.int .u8 1)], .agg [.lit (.int .u16 1105), .lit (.int .u16 1105), .lit (.int .u8 3), .lit (.int .u8 1)], .agg [.lit (.int .u16 1108), .lit (.int .u16 1108), .lit (.int .u8 3), .lit (.int .u8 1)], .agg [.lit (.int .u16 1110), .lit (.int .u16 1111), .lit (.int .u8 3), .lit (.int .u8 1)], .agg [.lit (.int .u16 1118), .lit (.int .u16 1118), .lit (.int .u8 3), .lit (.int .u8 1)], .agg [.lit (.int .u16 1168), .lit (.int .u16 1169), .lit (.int .u8 3), .lit (.int .u8 1)], .agg [.lit (.int .u16 64257), .lit (.int .u16 64258), .lit (.int .u8 1), .lit (.int .u8 1)]]
/-- One of Go's own tables, pinned by name: the form's constant. -/
def laid_unicode_utf8_first : DataW Unit := Go.Pinned.utf8First
/-- One of Go's own tables, pinned by name: the form's constant. -/
def laid_unicode_CaseRanges : DataW Unit := Go.Pinned.caseRanges

/-- 'bookplatelaw09.ArticleSkip': WHATEVER THE INPUT: true; the input reads as it did. -/
def articleSkipSpec : ChangeSpec := { name := "articleSkip", fn := fun _ => fun
  | [d1, d2] => { results := [.lit (.bool true)], args := [d1, d2] }
  | _ => none }
def articleSkipRow : OpenClaim := { program := "ytmgofhbdaopapaagreatdoor", sum := "4390f833c97ecc792164d67005ac96bb59cc3ee4220ee8b386b666a4ebffc4fe", func := "bookplate/bookplatelaw09.ArticleSkip", spec := "articleSkip", inPlace := ["internal/bytealg.IndexByteString", "internal/bytealg.IndexString", "internal/abi.NoEscape"], unfollowed := true, recurses := true, named := ["bookplate/repertoire.spans", "unicode/utf8.first", "unicode/utf8.acceptRanges", "internal/bytealg.MaxLen"], apart := false, laid := [("unicode/utf8.acceptRanges", laid_unicode_utf8_acceptRanges), ("bookplate/repertoire.spans", laid_bookplate_repertoire_spans), ("unicode/utf8.first", laid_unicode_utf8_first)] }
def ArticleSkipSaid : Prop := articleSkipRow.holds Tryz.pinned (OpenSpec.ofChange articleSkipSpec)

/-- ITS FALSE NEIGHBOUR: 'it returns false'. Refute it at one input. -/
def articleSkipWrong : ChangeSpec := { name := "articleSkip", fn := fun _ => fun
  | [d1, d2] => { results := [.lit (.bool false)], args := [d1, d2] }
  | _ => none }
def ArticleSkipWrongFalsely : Prop := articleSkipRow.holds Tryz.pinned (OpenSpec.ofChange articleSkipWrong)

/-- 'bookplatelaw09.ArticleSort': WHATEVER THE INPUT: true; the input reads as it did. -/
def articleSortSpec : ChangeSpec := { name := "articleSort", fn := fun _ => fun
  | [d1, d2, d3] => { results := [.lit (.bool true)], args := [d1, d2, d3] }
  | _ => none }
def articleSortRow : OpenClaim := { program := "ytmgofhbdaopapaagreatdoor", sum := "4390f833c97ecc792164d67005ac96bb59cc3ee4220ee8b386b666a4ebffc4fe", func := "bookplate/bookplatelaw09.ArticleSort", spec := "articleSort", inPlace := ["internal/bytealg.IndexByteString", "internal/bytealg.IndexString", "internal/abi.NoEscape"], unfollowed := true, recurses := true, named := ["bookplate/repertoire.spans", "unicode/utf8.first", "unicode/utf8.acceptRanges", "internal/bytealg.MaxLen"], apart := false, laid := [("unicode/utf8.acceptRanges", laid_unicode_utf8_acceptRanges), ("bookplate/repertoire.spans", laid_bookplate_repertoire_spans), ("unicode/utf8.first", laid_unicode_utf8_first)] }
def ArticleSortSaid : Prop := articleSortRow.holds Tryz.pinned (OpenSpec.ofChange articleSortSpec)

/-- ITS FALSE NEIGHBOUR: 'it returns false'. Refute it at one input. -/
def articleSortWrong : ChangeSpec := { name := "articleSort", fn := fun _ => fun
  | [d1, d2, d3] => { results := [.lit (.bool false)], args := [d1, d2, d3] }
  | _ => none }
def ArticleSortWrongFalsely : Prop := articleSortRow.holds Tryz.pinned (OpenSpec.ofChange articleSortWrong)

/-- 'bookplatelaw09.ArticleRest': WHATEVER THE INPUT: true; the input reads as it did. -/
def articleRestSpec : ChangeSpec := { name := "articleRest", fn := fun _ => fun
  | [d1, d2] => { results := [.lit (.bool true)], args := [d1, d2] }
  | _ => none }
def articleRestRow : OpenClaim := { program := "ytmgofhbdaopapaagreatdoor", sum := "4390f833c97ecc792164d67005ac96bb59cc3ee4220ee8b386b666a4ebffc4fe", func := "bookplate/bookplatelaw09.ArticleRest", spec := "articleRest", inPlace := ["internal/bytealg.IndexByteString", "internal/bytealg.IndexString", "internal/abi.NoEscape"], unfollowed := true, recurses := true, named := ["bookplate/repertoire.spans", "unicode/utf8.first", "unicode/utf8.acceptRanges", "internal/bytealg.MaxLen"], apart := false, laid := [("unicode/utf8.acceptRanges", laid_unicode_utf8_acceptRanges), ("bookplate/repertoire.spans", laid_bookplate_repertoire_spans), ("unicode/utf8.first", laid_unicode_utf8_first)] }
def ArticleRestSaid : Prop := articleRestRow.holds Tryz.pinned (OpenSpec.ofChange articleRestSpec)

/-- ITS FALSE NEIGHBOUR: 'it returns false'. Refute it at one input. -/
def articleRestWrong : ChangeSpec := { name := "articleRest", fn := fun _ => fun
  | [d1, d2] => { results := [.lit (.bool false)], args := [d1, d2] }
  | _ => none }
def ArticleRestWrongFalsely : Prop := articleRestRow.holds Tryz.pinned (OpenSpec.ofChange articleRestWrong)

/-- 'bookplatelaw09.ArticleEach': WHATEVER THE INPUT: true; the input reads as it did. -/
def articleEachSpec : ChangeSpec := { name := "articleEach", fn := fun _ => fun
  | [d1, d2] => { results := [.lit (.bool true)], args := [d1, d2] }
  | _ => none }
def articleEachRow : OpenClaim := { program := "ytmgofhbdaopapaagreatdoor", sum := "4390f833c97ecc792164d67005ac96bb59cc3ee4220ee8b386b666a4ebffc4fe", func := "bookplate/bookplatelaw09.ArticleEach", spec := "articleEach", inPlace := ["internal/bytealg.IndexByteString", "internal/bytealg.IndexString", "internal/abi.NoEscape", "internal/bytealg.MakeNoZero"], unfollowed := true, recurses := true, named := ["bookplate/repertoire.spans", "unicode/utf8.first", "unicode/utf8.acceptRanges", "unicode.CaseRanges", "internal/bytealg.MaxLen"], apart := false, laid := [("unicode/utf8.acceptRanges", laid_unicode_utf8_acceptRanges), ("bookplate/repertoire.spans", laid_bookplate_repertoire_spans), ("unicode.CaseRanges", laid_unicode_CaseRanges), ("unicode/utf8.first", laid_unicode_utf8_first)] }
def ArticleEachSaid : Prop := articleEachRow.holds Tryz.pinned (OpenSpec.ofChange articleEachSpec)

/-- ITS FALSE NEIGHBOUR: 'it returns false'. Refute it at one input. -/
def articleEachWrong : ChangeSpec := { name := "articleEach", fn := fun _ => fun
  | [d1, d2] => { results := [.lit (.bool false)], args := [d1, d2] }
  | _ => none }
def ArticleEachWrongFalsely : Prop := articleEachRow.holds Tryz.pinned (OpenSpec.ofChange articleEachWrong)

/-- 'bookplatelaw09.ArticleOthers': WHATEVER THE INPUT: true; the input reads as it did. -/
def articleOthersSpec : ChangeSpec := { name := "articleOthers", fn := fun _ => fun
  | [d1, d2] => { results := [.lit (.bool true)], args := [d1, d2] }
  | _ => none }
def articleOthersRow : OpenClaim := { program := "ytmgofhbdaopapaagreatdoor", sum := "4390f833c97ecc792164d67005ac96bb59cc3ee4220ee8b386b666a4ebffc4fe", func := "bookplate/bookplatelaw09.ArticleOthers", spec := "articleOthers", inPlace := ["internal/bytealg.IndexByteString", "internal/bytealg.IndexString", "internal/abi.NoEscape"], unfollowed := true, recurses := true, named := ["bookplate/repertoire.spans", "unicode/utf8.first", "unicode/utf8.acceptRanges", "internal/bytealg.MaxLen"], apart := false, laid := [("unicode/utf8.acceptRanges", laid_unicode_utf8_acceptRanges), ("bookplate/repertoire.spans", laid_bookplate_repertoire_spans), ("unicode/utf8.first", laid_unicode_utf8_first)] }
def ArticleOthersSaid : Prop := articleOthersRow.holds Tryz.pinned (OpenSpec.ofChange articleOthersSpec)

/-- ITS FALSE NEIGHBOUR: 'it returns false'. Refute it at one input. -/
def articleOthersWrong : ChangeSpec := { name := "articleOthers", fn := fun _ => fun
  | [d1, d2] => { results := [.lit (.bool false)], args := [d1, d2] }
  | _ => none }
def ArticleOthersWrongFalsely : Prop := articleOthersRow.holds Tryz.pinned (OpenSpec.ofChange articleOthersWrong)

/- THE SECOND FORM. 'bulk': how many values and letters a reading holds, each counted each time it is reached (what is shared counts as often as it is met; a slice's spare places count too). A statement '..UptoSaid' is the law's where the arguments, and the package variables that the reading takes, are together of bulk at most 1048576: NARROWER than '..Said'. Prove '..Said' where nothing that the law and all that it calls make is longer than what came in: it says more and counts as full. Else prove '..UptoSaid'. A law counts once. -/
mutual
def uptoBulk {H : Type} : DataW H → Nat
  | .lit (.string bytes) => bytes.length + 1
  | .lit _ => 1
  | .nil => 1
  | .ptr d => uptoBulk d + 1
  | .slice elems spare => uptoBulkAll elems + uptoBulkAll spare + 1
  | .agg parts => uptoBulkAll parts + 1
  | .iface _ d => uptoBulk d + 1
  | .map entries => uptoBulkEntries entries + 1
  | .held _ => 1
def uptoBulkAll {H : Type} : List (DataW H) → Nat
  | [] => 0
  | d :: r => uptoBulk d + uptoBulkAll r
def uptoBulkEntries {H : Type} : List (Lit × DataW H) → Nat
  | [] => 0
  | x :: r => uptoBulkEntry x + uptoBulkEntries r
def uptoBulkEntry {H : Type} : Lit × DataW H → Nat
  | (.string bytes, d) => bytes.length + uptoBulk d + 1
  | (_, d) => uptoBulk d + 1
 end
def uptoSmall : (H : Type) → List (DataW H) → Bool := fun _ ds => decide (uptoBulkAll ds ≤ 1048576)
def OpenSpec.upto (s : _root_.Go.ChangeSpec) : _root_.Go.OpenSpec := { _root_.Go.OpenSpec.ofChange s with cond := some uptoSmall }

/-- 'bookplatelaw09.ArticleSkip', WHERE WHAT IT READS IS OF BULK AT MOST 1048576: true; the input reads as it did. -/
def articleSkipUptoRow : OpenClaim := { program := "ytmgofhbdaopapaagreatdoor", sum := "4390f833c97ecc792164d67005ac96bb59cc3ee4220ee8b386b666a4ebffc4fe", func := "bookplate/bookplatelaw09.ArticleSkip", spec := "articleSkip", inPlace := ["internal/bytealg.IndexByteString", "internal/bytealg.IndexString", "internal/abi.NoEscape"], unfollowed := true, recurses := true, named := ["bookplate/repertoire.spans", "unicode/utf8.first", "unicode/utf8.acceptRanges", "internal/bytealg.MaxLen"], apart := false, laid := [("unicode/utf8.acceptRanges", laid_unicode_utf8_acceptRanges), ("bookplate/repertoire.spans", laid_bookplate_repertoire_spans), ("unicode/utf8.first", laid_unicode_utf8_first)], narrowed := true }
def ArticleSkipUptoSaid : Prop := articleSkipUptoRow.holds Tryz.pinned (OpenSpec.upto articleSkipSpec)

/-- 'bookplatelaw09.ArticleSort', WHERE WHAT IT READS IS OF BULK AT MOST 1048576: true; the input reads as it did. -/
def articleSortUptoRow : OpenClaim := { program := "ytmgofhbdaopapaagreatdoor", sum := "4390f833c97ecc792164d67005ac96bb59cc3ee4220ee8b386b666a4ebffc4fe", func := "bookplate/bookplatelaw09.ArticleSort", spec := "articleSort", inPlace := ["internal/bytealg.IndexByteString", "internal/bytealg.IndexString", "internal/abi.NoEscape"], unfollowed := true, recurses := true, named := ["bookplate/repertoire.spans", "unicode/utf8.first", "unicode/utf8.acceptRanges", "internal/bytealg.MaxLen"], apart := false, laid := [("unicode/utf8.acceptRanges", laid_unicode_utf8_acceptRanges), ("bookplate/repertoire.spans", laid_bookplate_repertoire_spans), ("unicode/utf8.first", laid_unicode_utf8_first)], narrowed := true }
def ArticleSortUptoSaid : Prop := articleSortUptoRow.holds Tryz.pinned (OpenSpec.upto articleSortSpec)

/-- 'bookplatelaw09.ArticleRest', WHERE WHAT IT READS IS OF BULK AT MOST 1048576: true; the input reads as it did. -/
def articleRestUptoRow : OpenClaim := { program := "ytmgofhbdaopapaagreatdoor", sum := "4390f833c97ecc792164d67005ac96bb59cc3ee4220ee8b386b666a4ebffc4fe", func := "bookplate/bookplatelaw09.ArticleRest", spec := "articleRest", inPlace := ["internal/bytealg.IndexByteString", "internal/bytealg.IndexString", "internal/abi.NoEscape"], unfollowed := true, recurses := true, named := ["bookplate/repertoire.spans", "unicode/utf8.first", "unicode/utf8.acceptRanges", "internal/bytealg.MaxLen"], apart := false, laid := [("unicode/utf8.acceptRanges", laid_unicode_utf8_acceptRanges), ("bookplate/repertoire.spans", laid_bookplate_repertoire_spans), ("unicode/utf8.first", laid_unicode_utf8_first)], narrowed := true }
def ArticleRestUptoSaid : Prop := articleRestUptoRow.holds Tryz.pinned (OpenSpec.upto articleRestSpec)

/-- 'bookplatelaw09.ArticleEach', WHERE WHAT IT READS IS OF BULK AT MOST 1048576: true; the input reads as it did. -/
def articleEachUptoRow : OpenClaim := { program := "ytmgofhbdaopapaagreatdoor", sum := "4390f833c97ecc792164d67005ac96bb59cc3ee4220ee8b386b666a4ebffc4fe", func := "bookplate/bookplatelaw09.ArticleEach", spec := "articleEach", inPlace := ["internal/bytealg.IndexByteString", "internal/bytealg.IndexString", "internal/abi.NoEscape", "internal/bytealg.MakeNoZero"], unfollowed := true, recurses := true, named := ["bookplate/repertoire.spans", "unicode/utf8.first", "unicode/utf8.acceptRanges", "unicode.CaseRanges", "internal/bytealg.MaxLen"], apart := false, laid := [("unicode/utf8.acceptRanges", laid_unicode_utf8_acceptRanges), ("bookplate/repertoire.spans", laid_bookplate_repertoire_spans), ("unicode.CaseRanges", laid_unicode_CaseRanges), ("unicode/utf8.first", laid_unicode_utf8_first)], narrowed := true }
def ArticleEachUptoSaid : Prop := articleEachUptoRow.holds Tryz.pinned (OpenSpec.upto articleEachSpec)

/-- 'bookplatelaw09.ArticleOthers', WHERE WHAT IT READS IS OF BULK AT MOST 1048576: true; the input reads as it did. -/
def articleOthersUptoRow : OpenClaim := { program := "ytmgofhbdaopapaagreatdoor", sum := "4390f833c97ecc792164d67005ac96bb59cc3ee4220ee8b386b666a4ebffc4fe", func := "bookplate/bookplatelaw09.ArticleOthers", spec := "articleOthers", inPlace := ["internal/bytealg.IndexByteString", "internal/bytealg.IndexString", "internal/abi.NoEscape"], unfollowed := true, recurses := true, named := ["bookplate/repertoire.spans", "unicode/utf8.first", "unicode/utf8.acceptRanges", "internal/bytealg.MaxLen"], apart := false, laid := [("unicode/utf8.acceptRanges", laid_unicode_utf8_acceptRanges), ("bookplate/repertoire.spans", laid_bookplate_repertoire_spans), ("unicode/utf8.first", laid_unicode_utf8_first)], narrowed := true }
def ArticleOthersUptoSaid : Prop := articleOthersUptoRow.holds Tryz.pinned (OpenSpec.upto articleOthersSpec)

end Rows
end Go.Proofs.YtmgofhbdaopapaaGreatDoor
