/-
  NARROWER THAN 'FOR EVERY INPUT', by the rows' own cells (each row's printed sentence says how): FoldForms: laid · FoldTwice: laid · FoldEqual: laid · FoldCharacters: laid · FoldJoins: laid · FoldLower: laid · FoldMarks: laid.
  DERIVED. THE GIVEN ROWS OF THIS SEAT. 7 by the template 'for every input the law returns true; each argument reads behind the call as it read before'; 0 by the template 'total and deterministic' (their statements: YtmoinfkjcfkokaaDoorTotals.lean).
  GIVEN WITH THE SEED: the statements are not yours to turn. If you find one false, say at which input.
  Laid BY PROGRAM, IN A SANDBOX (cutbox-rows.mjs): the forced cells as the released guide's own fill.sh prints them over the translation 92a1eecce5a412fd… (all of the seat's roots in one cut). By AI agents, Wed Nov 11 2026. No macro, syntax, notation, axiom, sorry.
-/
import Derived.Test.YtmoinfkjcfkokaaDoorChecked
import GoSem.Claim
import GoSem.ClaimJoined
import GoSem.ClaimMapViews
import Derived.JoinedTies
import Derived.KernelRfl
namespace Go.Proofs.YtmoinfkjcfkokaaDoor
/- THE CELL 'sum', in the pinned program and in every row, IS THE sha256 OF THE DUMP (.gsa) THAT YtmoinfkjcfkokaaDoorProg.lean LOADS. Nothing in Lean hashes anything: it is a label: what it is worth is what the hold of that sum in a sandbox is worth. -/
noncomputable def Tryd.pinned : Pinned := { name := "ytmoinfkjcfkokaadoor", sum := "92a1eecce5a412fdba3466d0054dfc6c58a329018fa1a5340ff1ef26e7fd7d5c", checked := Tryd.checked }
namespace Rows
def none {H : Type} : Left H := { results := [], args := [] }

/- WHAT THE LISTED PACKAGE-LEVEL VARIABLES READ AS WHEN THE CALL BEGINS. Each datum BY PROGRAM (the guide's laid-datum.mjs) off the statement by which the dump's own 'gosem.cut.vars' lays the variable. In a bare row this is a premise. The card (YtmoinfkjcfkokaaDoorCards.lean) ties it to the program's text. -/
def laid_bookplate_repertoire_spans {H : Type} : DataW H := .agg [.agg [.lit (.int .u16 32), .lit (.int .u16 32), .lit (.int .u8 0), .lit (.int .u8 4)], .agg [.lit (.int .u16 33), .lit (.int .u16 47), .lit (.int .u8 0), .lit (.int .u8 5)], .agg [.lit (.int .u16 48), .lit (.int .u16 57), .lit (.int .u8 0), .lit (.int .u8 3)], .agg [.lit (.int .u16 58), .lit (.int .u16 64), .lit (.int .u8 0), .lit (.int .u8 5)], .agg [.lit (.int .u16 65), .lit (.int .u16 90), .lit (.int .u8 1), .lit (.int .u8 1)], .agg [.lit (.int .u16 91), .lit (.int .u16 96), .lit (.int .u8 0), .lit (.int .u8 5)], .agg [.lit (.int .u16 97), .lit (.int .u16 122), .lit (.int .u8 1), .lit (.int .u8 1)], .agg [.lit (.int .u16 123), .lit (.int .u16 126), .lit (.int .u8 0), .lit (.int .u8 5)], .agg [.lit (.int .u16 160), .lit (.int .u16 160), .lit (.int .u8 0), .lit (.int .u8 4)], .agg [.lit (.int .u16 178), .lit (.int .u16 179), .lit (.int .u8 0), .lit (.int .u8 3)], .agg [.lit (.int .u16 185), .lit (.int .u16 185), .lit (.int .u8 0), .lit (.int .u8 3)], .agg [.lit (.int .u16 192), .lit (.int .u16 214), .lit (.int .u8 1), .lit (.int .u8 1)], .agg [.lit (.int .u16 216), .lit (.int .u16 246), .lit (.int .u8 1), .lit (.int .u8 1)], .agg [.lit (.int .u16 248), .lit (.int .u16 305), .lit (.int .u8 1), .lit (.int .u8 1)], .agg [.lit (.int .u16 308), .lit (.int .u16 311), .lit (.int .u8 1), .lit (.int .u8 1)], .agg [.lit (.int .u16 313), .lit (.int .u16 318), .lit (.int .u8 1), .lit (.int .u8 1)], .agg [.lit (.int .u16 321), .lit (.int .u16 328), .lit (.int .u8 1), .lit (.int .u8 1)], .agg [.lit (.int .u16 330), .lit (.int .u16 383), .lit (.int .u8 1), .lit (.int .u8 1)], .agg [.lit (.int .u16 768), .lit (.int .u16 772), .lit (.int .u8 0), .lit (.int .u8 2)], .agg [.lit (.int .u16 774), .lit (.int .u16 776), .lit (.int .u8 0), .lit (.int .u8 2)], .agg [.lit (.int .u16 778), .lit (.int .u16 780), .lit (.int .u8 0), .lit (.int .u8 2)], .agg [.lit (.int .u16 803), .lit (.int .u16 803), .lit (.int .u8 0), .lit (.int .u8 2)], .agg [.lit (.int .u16 807), .lit (.int .u16 808), .lit (.int .u8 0), .lit (.int .u8 2)], .agg [.lit (.int .u16 902), .lit (.int .u16 902), .lit (.int .u8 2), .lit (.int .u8 1)], .agg [.lit (.int .u16 904), .lit (.int .u16 906), .lit (.int .u8 2), .lit (.int .u8 1)], .agg [.lit (.int .u16 908), .lit (.int .u16 908), .lit (.int .u8 2), .lit (.int .u8 1)], .agg [.lit (.int .u16 910), .lit (.int .u16 911), .lit (.int .u8 2), .lit (.int .u8 1)], .agg [.lit (.int .u16 913), .lit (.int .u16 929), .lit (.int .u8 2), .lit (.int .u8 1)], .agg [.lit (.int .u16 931), .lit (.int .u16 943), .lit (.int .u8 2), .lit (.int .u8 1)], .agg [.lit (.int .u16 945), .lit (.int .u16 974), .lit (.int .u8 2), .lit (.int .u8 1)], .agg [.lit (.int .u16 1025), .lit (.int .u16 1025), .lit (.int .u8 3), .lit (.int .u8 1)], .agg [.lit (.int .u16 1028), .lit (.int .u16 1028), .lit (.int .u8 3), .lit (.int .u8 1)], .agg [.lit (.int .u16 1030), .lit (.int .u16 1031), .lit (.int .u8 3), .lit (.int .u8 1)], .agg [.lit (.int .u16 1038), .lit (.int .u16 1038), .lit (.int .u8 3), .lit (.int .u8 1)], .agg [.lit (.int .u16 1040), .lit (.int .u16 1103), .lit (.int .u8 3), .lit (.int .u8 1)], .agg [.lit (.int .u16 1105), .lit (.int .u16 1105), .lit (.int .u8 3), .lit (.int .u8 1)], .agg [.lit (.int .u16 1108), .lit (.int .u16 1108), .lit (.int .u8 3), .lit (.int .u8 1)], .agg [.lit (.int .u16 1110), .lit (.int .u16 1111), .lit (.int .u8 3), .lit (.int .u8 1)], .agg [.lit (.int .u16 1118), .lit (.int .u16 1118), .lit (.int .u8 3), .lit (.int .u8 1)], .agg [.lit (.int .u16 1168), .lit (.int .u16 1169), .lit (.int .u8 3), .lit (.int .u8 1)], .agg [.lit (.int .u16 64257), .lit (.int .u16 64258), .lit (.int .u8 1), .lit (.int .u8 1)]]

/-- 'bookplatelaw06.FoldForms': WHATEVER THE INPUT: true; the input reads as it did. -/
def foldFormsSpec : ChangeSpec := { name := "foldForms", fn := fun _ => fun
  | [d1, d2] => { results := [.lit (.bool true)], args := [d1, d2] }
  | _ => none }
def foldFormsRow : OpenClaim := { program := "ytmoinfkjcfkokaadoor", sum := "92a1eecce5a412fdba3466d0054dfc6c58a329018fa1a5340ff1ef26e7fd7d5c", func := "bookplate/bookplatelaw06.FoldForms", spec := "foldForms", inPlace := ["internal/abi.NoEscape", "internal/bytealg.IndexByteString", "internal/bytealg.IndexString"], unfollowed := true, recurses := true, named := ["bookplate/repertoire.spans", "internal/bytealg.MaxLen"], apart := false, laid := [("bookplate/repertoire.spans", laid_bookplate_repertoire_spans)] }
def FoldFormsSaid : Prop := foldFormsRow.holds Tryd.pinned (OpenSpec.ofChange foldFormsSpec)

/-- ITS FALSE NEIGHBOUR: 'it returns false'. Refute it at one input. -/
def foldFormsWrong : ChangeSpec := { name := "foldForms", fn := fun _ => fun
  | [d1, d2] => { results := [.lit (.bool false)], args := [d1, d2] }
  | _ => none }
def FoldFormsWrongFalsely : Prop := foldFormsRow.holds Tryd.pinned (OpenSpec.ofChange foldFormsWrong)

/-- 'bookplatelaw06.FoldTwice': WHATEVER THE INPUT: true; the input reads as it did. -/
def foldTwiceSpec : ChangeSpec := { name := "foldTwice", fn := fun _ => fun
  | [d] => { results := [.lit (.bool true)], args := [d] }
  | _ => none }
def foldTwiceRow : OpenClaim := { program := "ytmoinfkjcfkokaadoor", sum := "92a1eecce5a412fdba3466d0054dfc6c58a329018fa1a5340ff1ef26e7fd7d5c", func := "bookplate/bookplatelaw06.FoldTwice", spec := "foldTwice", inPlace := ["internal/abi.NoEscape", "internal/bytealg.IndexByteString", "internal/bytealg.IndexString"], unfollowed := true, recurses := true, named := ["bookplate/repertoire.spans", "internal/bytealg.MaxLen"], apart := false, laid := [("bookplate/repertoire.spans", laid_bookplate_repertoire_spans)] }
def FoldTwiceSaid : Prop := foldTwiceRow.holds Tryd.pinned (OpenSpec.ofChange foldTwiceSpec)

/-- ITS FALSE NEIGHBOUR: 'it returns false'. Refute it at one input. -/
def foldTwiceWrong : ChangeSpec := { name := "foldTwice", fn := fun _ => fun
  | [d] => { results := [.lit (.bool false)], args := [d] }
  | _ => none }
def FoldTwiceWrongFalsely : Prop := foldTwiceRow.holds Tryd.pinned (OpenSpec.ofChange foldTwiceWrong)

/-- 'bookplatelaw06.FoldEqual': WHATEVER THE INPUT: true; the input reads as it did. -/
def foldEqualSpec : ChangeSpec := { name := "foldEqual", fn := fun _ => fun
  | [d1, d2] => { results := [.lit (.bool true)], args := [d1, d2] }
  | _ => none }
def foldEqualRow : OpenClaim := { program := "ytmoinfkjcfkokaadoor", sum := "92a1eecce5a412fdba3466d0054dfc6c58a329018fa1a5340ff1ef26e7fd7d5c", func := "bookplate/bookplatelaw06.FoldEqual", spec := "foldEqual", inPlace := ["internal/abi.NoEscape", "internal/bytealg.IndexByteString", "internal/bytealg.IndexString"], unfollowed := true, recurses := true, named := ["bookplate/repertoire.spans", "internal/bytealg.MaxLen"], apart := false, laid := [("bookplate/repertoire.spans", laid_bookplate_repertoire_spans)] }
def FoldEqualSaid : Prop := foldEqualRow.holds Tryd.pinned (OpenSpec.ofChange foldEqualSpec)

/-- ITS FALSE NEIGHBOUR: 'it returns false'. Refute it at one input. -/
def foldEqualWrong : ChangeSpec := { name := "foldEqual", fn := fun _ => fun
  | [d1, d2] => { results := [.lit (.bool false)], args := [d1, d2] }
  | _ => none }
def FoldEqualWrongFalsely : Prop := foldEqualRow.holds Tryd.pinned (OpenSpec.ofChange foldEqualWrong)

/-- 'bookplatelaw06.FoldCharacters': WHATEVER THE INPUT: true; the input reads as it did. -/
def foldCharactersSpec : ChangeSpec := { name := "foldCharacters", fn := fun _ => fun
  | [d] => { results := [.lit (.bool true)], args := [d] }
  | _ => none }
def foldCharactersRow : OpenClaim := { program := "ytmoinfkjcfkokaadoor", sum := "92a1eecce5a412fdba3466d0054dfc6c58a329018fa1a5340ff1ef26e7fd7d5c", func := "bookplate/bookplatelaw06.FoldCharacters", spec := "foldCharacters", inPlace := ["internal/abi.NoEscape", "internal/bytealg.IndexByteString", "internal/bytealg.IndexString"], unfollowed := true, recurses := true, named := ["bookplate/repertoire.spans", "internal/bytealg.MaxLen"], apart := false, laid := [("bookplate/repertoire.spans", laid_bookplate_repertoire_spans)] }
def FoldCharactersSaid : Prop := foldCharactersRow.holds Tryd.pinned (OpenSpec.ofChange foldCharactersSpec)

/-- ITS FALSE NEIGHBOUR: 'it returns false'. Refute it at one input. -/
def foldCharactersWrong : ChangeSpec := { name := "foldCharacters", fn := fun _ => fun
  | [d] => { results := [.lit (.bool false)], args := [d] }
  | _ => none }
def FoldCharactersWrongFalsely : Prop := foldCharactersRow.holds Tryd.pinned (OpenSpec.ofChange foldCharactersWrong)

/-- 'bookplatelaw06.FoldJoins': WHATEVER THE INPUT: true; the input reads as it did. -/
def foldJoinsSpec : ChangeSpec := { name := "foldJoins", fn := fun _ => fun
  | [d] => { results := [.lit (.bool true)], args := [d] }
  | _ => none }
def foldJoinsRow : OpenClaim := { program := "ytmoinfkjcfkokaadoor", sum := "92a1eecce5a412fdba3466d0054dfc6c58a329018fa1a5340ff1ef26e7fd7d5c", func := "bookplate/bookplatelaw06.FoldJoins", spec := "foldJoins", inPlace := ["internal/abi.NoEscape", "internal/bytealg.IndexByteString", "internal/bytealg.IndexString", "internal/bytealg.MakeNoZero"], unfollowed := true, recurses := true, named := ["bookplate/repertoire.spans", "internal/bytealg.MaxLen"], apart := false, laid := [("bookplate/repertoire.spans", laid_bookplate_repertoire_spans)] }
def FoldJoinsSaid : Prop := foldJoinsRow.holds Tryd.pinned (OpenSpec.ofChange foldJoinsSpec)

/-- ITS FALSE NEIGHBOUR: 'it returns false'. Refute it at one input. -/
def foldJoinsWrong : ChangeSpec := { name := "foldJoins", fn := fun _ => fun
  | [d] => { results := [.lit (.bool false)], args := [d] }
  | _ => none }
def FoldJoinsWrongFalsely : Prop := foldJoinsRow.holds Tryd.pinned (OpenSpec.ofChange foldJoinsWrong)

/-- 'bookplatelaw06.FoldLower': WHATEVER THE INPUT: true; the input reads as it did. -/
def foldLowerSpec : ChangeSpec := { name := "foldLower", fn := fun _ => fun
  | [d1, d2] => { results := [.lit (.bool true)], args := [d1, d2] }
  | _ => none }
def foldLowerRow : OpenClaim := { program := "ytmoinfkjcfkokaadoor", sum := "92a1eecce5a412fdba3466d0054dfc6c58a329018fa1a5340ff1ef26e7fd7d5c", func := "bookplate/bookplatelaw06.FoldLower", spec := "foldLower", inPlace := ["internal/abi.NoEscape", "internal/bytealg.IndexByteString", "internal/bytealg.IndexString"], unfollowed := true, recurses := true, named := ["bookplate/repertoire.spans", "internal/bytealg.MaxLen"], apart := false, laid := [("bookplate/repertoire.spans", laid_bookplate_repertoire_spans)] }
def FoldLowerSaid : Prop := foldLowerRow.holds Tryd.pinned (OpenSpec.ofChange foldLowerSpec)

/-- ITS FALSE NEIGHBOUR: 'it returns false'. Refute it at one input. -/
def foldLowerWrong : ChangeSpec := { name := "foldLower", fn := fun _ => fun
  | [d1, d2] => { results := [.lit (.bool false)], args := [d1, d2] }
  | _ => none }
def FoldLowerWrongFalsely : Prop := foldLowerRow.holds Tryd.pinned (OpenSpec.ofChange foldLowerWrong)

/-- 'bookplatelaw06.FoldMarks': WHATEVER THE INPUT: true; the input reads as it did. -/
def foldMarksSpec : ChangeSpec := { name := "foldMarks", fn := fun _ => fun
  | [d1, d2, d3] => { results := [.lit (.bool true)], args := [d1, d2, d3] }
  | _ => none }
def foldMarksRow : OpenClaim := { program := "ytmoinfkjcfkokaadoor", sum := "92a1eecce5a412fdba3466d0054dfc6c58a329018fa1a5340ff1ef26e7fd7d5c", func := "bookplate/bookplatelaw06.FoldMarks", spec := "foldMarks", inPlace := ["internal/abi.NoEscape", "internal/bytealg.IndexByteString", "internal/bytealg.IndexString"], unfollowed := true, recurses := true, named := ["bookplate/repertoire.spans", "internal/bytealg.MaxLen"], apart := false, laid := [("bookplate/repertoire.spans", laid_bookplate_repertoire_spans)] }
def FoldMarksSaid : Prop := foldMarksRow.holds Tryd.pinned (OpenSpec.ofChange foldMarksSpec)

/-- ITS FALSE NEIGHBOUR: 'it returns false'. Refute it at one input. -/
def foldMarksWrong : ChangeSpec := { name := "foldMarks", fn := fun _ => fun
  | [d1, d2, d3] => { results := [.lit (.bool false)], args := [d1, d2, d3] }
  | _ => none }
def FoldMarksWrongFalsely : Prop := foldMarksRow.holds Tryd.pinned (OpenSpec.ofChange foldMarksWrong)

/- THE SECOND FORM. 'bulk': how many values and letters a reading holds, each counted each time it is reached (what is shared counts as often as it is met; a slice's spare places count too). A statement '..UptoSaid' is the law's where the arguments, and the package variables that the reading takes, are together of bulk at most 1048576: NARROWER than '..Said'. Prove '..Said' where nothing that the law and all that it calls make is longer than what came in: it says more and counts as full. Else prove '..UptoSaid'. A law counts once. -/
mutual
def uptoBulk {H : Type} : DataW H → Nat
  | .lit (.string bytes) => bytes.length + 1
  | .lit _ => 1
  | .nil => 1
  | .ptr d => uptoBulk d + 1
  | .slice elems spare => uptoBulkAll elems + uptoBulkAll spare + 1
  | .agg parts => uptoBulkAll parts + 1
  | .iface _ d => uptoBulk d + 1
  | .map entries => uptoBulkEntries entries + 1
  | .held _ => 1
def uptoBulkAll {H : Type} : List (DataW H) → Nat
  | [] => 0
  | d :: r => uptoBulk d + uptoBulkAll r
def uptoBulkEntries {H : Type} : List (Lit × DataW H) → Nat
  | [] => 0
  | x :: r => uptoBulkEntry x + uptoBulkEntries r
def uptoBulkEntry {H : Type} : Lit × DataW H → Nat
  | (.string bytes, d) => bytes.length + uptoBulk d + 1
  | (_, d) => uptoBulk d + 1
 end
def uptoSmall : (H : Type) → List (DataW H) → Bool := fun _ ds => decide (uptoBulkAll ds ≤ 1048576)
def OpenSpec.upto (s : _root_.Go.ChangeSpec) : _root_.Go.OpenSpec := { _root_.Go.OpenSpec.ofChange s with cond := some uptoSmall }

/-- 'bookplatelaw06.FoldForms', WHERE WHAT IT READS IS OF BULK AT MOST 1048576: true; the input reads as it did. -/
def foldFormsUptoRow : OpenClaim := { program := "ytmoinfkjcfkokaadoor", sum := "92a1eecce5a412fdba3466d0054dfc6c58a329018fa1a5340ff1ef26e7fd7d5c", func := "bookplate/bookplatelaw06.FoldForms", spec := "foldForms", inPlace := ["internal/abi.NoEscape", "internal/bytealg.IndexByteString", "internal/bytealg.IndexString"], unfollowed := true, recurses := true, named := ["bookplate/repertoire.spans", "internal/bytealg.MaxLen"], apart := false, laid := [("bookplate/repertoire.spans", laid_bookplate_repertoire_spans)], narrowed := true }
def FoldFormsUptoSaid : Prop := foldFormsUptoRow.holds Tryd.pinned (OpenSpec.upto foldFormsSpec)

/-- 'bookplatelaw06.FoldTwice', WHERE WHAT IT READS IS OF BULK AT MOST 1048576: true; the input reads as it did. -/
def foldTwiceUptoRow : OpenClaim := { program := "ytmoinfkjcfkokaadoor", sum := "92a1eecce5a412fdba3466d0054dfc6c58a329018fa1a5340ff1ef26e7fd7d5c", func := "bookplate/bookplatelaw06.FoldTwice", spec := "foldTwice", inPlace := ["internal/abi.NoEscape", "internal/bytealg.IndexByteString", "internal/bytealg.IndexString"], unfollowed := true, recurses := true, named := ["bookplate/repertoire.spans", "internal/bytealg.MaxLen"], apart := false, laid := [("bookplate/repertoire.spans", laid_bookplate_repertoire_spans)], narrowed := true }
def FoldTwiceUptoSaid : Prop := foldTwiceUptoRow.holds Tryd.pinned (OpenSpec.upto foldTwiceSpec)

/-- 'bookplatelaw06.FoldEqual', WHERE WHAT IT READS IS OF BULK AT MOST 1048576: true; the input reads as it did. -/
def foldEqualUptoRow : OpenClaim := { program := "ytmoinfkjcfkokaadoor", sum := "92a1eecce5a412fdba3466d0054dfc6c58a329018fa1a5340ff1ef26e7fd7d5c", func := "bookplate/bookplatelaw06.FoldEqual", spec := "foldEqual", inPlace := ["internal/abi.NoEscape", "internal/bytealg.IndexByteString", "internal/bytealg.IndexString"], unfollowed := true, recurses := true, named := ["bookplate/repertoire.spans", "internal/bytealg.MaxLen"], apart := false, laid := [("bookplate/repertoire.spans", laid_bookplate_repertoire_spans)], narrowed := true }
def FoldEqualUptoSaid : Prop := foldEqualUptoRow.holds Tryd.pinned (OpenSpec.upto foldEqualSpec)

/-- 'bookplatelaw06.FoldCharacters', WHERE WHAT IT READS IS OF BULK AT MOST 1048576: true; the input reads as it did. -/
def foldCharactersUptoRow : OpenClaim := { program := "ytmoinfkjcfkokaadoor", sum := "92a1eecce5a412fdba3466d0054dfc6c58a329018fa1a5340ff1ef26e7fd7d5c", func := "bookplate/bookplatelaw06.FoldCharacters", spec := "foldCharacters", inPlace := ["internal/abi.NoEscape", "internal/bytealg.IndexByteString", "internal/bytealg.IndexString"], unfollowed := true, recurses := true, named := ["bookplate/repertoire.spans", "internal/bytealg.MaxLen"], apart := false, laid := [("bookplate/repertoire.spans", laid_bookplate_repertoire_spans)], narrowed := true }
def FoldCharactersUptoSaid : Prop := foldCharactersUptoRow.holds Tryd.pinned (OpenSpec.upto foldCharactersSpec)

/-- 'bookplatelaw06.FoldJoins', WHERE WHAT IT READS IS OF BULK AT MOST 1048576: true; the input reads as it did. -/
def foldJoinsUptoRow : OpenClaim := { program := "ytmoinfkjcfkokaadoor", sum := "92a1eecce5a412fdba3466d0054dfc6c58a329018fa1a5340ff1ef26e7fd7d5c", func := "bookplate/bookplatelaw06.FoldJoins", spec := "foldJoins", inPlace := ["internal/abi.NoEscape", "internal/bytealg.IndexByteString", "internal/bytealg.IndexString", "internal/bytealg.MakeNoZero"], unfollowed := true, recurses := true, named := ["bookplate/repertoire.spans", "internal/bytealg.MaxLen"], apart := false, laid := [("bookplate/repertoire.spans", laid_bookplate_repertoire_spans)], narrowed := true }
def FoldJoinsUptoSaid : Prop := foldJoinsUptoRow.holds Tryd.pinned (OpenSpec.upto foldJoinsSpec)

/-- 'bookplatelaw06.FoldLower', WHERE WHAT IT READS IS OF BULK AT MOST 1048576: true; the input reads as it did. -/
def foldLowerUptoRow : OpenClaim := { program := "ytmoinfkjcfkokaadoor", sum := "92a1eecce5a412fdba3466d0054dfc6c58a329018fa1a5340ff1ef26e7fd7d5c", func := "bookplate/bookplatelaw06.FoldLower", spec := "foldLower", inPlace := ["internal/abi.NoEscape", "internal/bytealg.IndexByteString", "internal/bytealg.IndexString"], unfollowed := true, recurses := true, named := ["bookplate/repertoire.spans", "internal/bytealg.MaxLen"], apart := false, laid := [("bookplate/repertoire.spans", laid_bookplate_repertoire_spans)], narrowed := true }
def FoldLowerUptoSaid : Prop := foldLowerUptoRow.holds Tryd.pinned (OpenSpec.upto foldLowerSpec)

/-- 'bookplatelaw06.FoldMarks', WHERE WHAT IT READS IS OF BULK AT MOST 1048576: true; the input reads as it did. -/
def foldMarksUptoRow : OpenClaim := { program := "ytmoinfkjcfkokaadoor", sum := "92a1eecce5a412fdba3466d0054dfc6c58a329018fa1a5340ff1ef26e7fd7d5c", func := "bookplate/bookplatelaw06.FoldMarks", spec := "foldMarks", inPlace := ["internal/abi.NoEscape", "internal/bytealg.IndexByteString", "internal/bytealg.IndexString"], unfollowed := true, recurses := true, named := ["bookplate/repertoire.spans", "internal/bytealg.MaxLen"], apart := false, laid := [("bookplate/repertoire.spans", laid_bookplate_repertoire_spans)], narrowed := true }
def FoldMarksUptoSaid : Prop := foldMarksUptoRow.holds Tryd.pinned (OpenSpec.upto foldMarksSpec)

end Rows
end Go.Proofs.YtmoinfkjcfkokaaDoor
