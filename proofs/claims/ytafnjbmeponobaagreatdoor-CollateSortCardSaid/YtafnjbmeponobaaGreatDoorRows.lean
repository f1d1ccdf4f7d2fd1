/-
  NARROWER THAN 'FOR EVERY INPUT', by the rows' own cells (each row's printed sentence says how): CollateKeys: laid · CollateCompare: laid · CollateOrder: laid · CollateEqual: laid · CollateLevels: laid · CollateLetters: laid · CollateSort: laid.
  DERIVED. THE GIVEN ROWS OF THIS SEAT. 7 by the template 'for every input the law returns true; each argument reads behind the call as it read before'; 0 by the template 'total and deterministic' (their statements: YtafnjbmeponobaaGreatDoorTotals.lean).
  GIVEN WITH THE SEED: the statements are not yours to turn. If you find one false, say at which input.
  Laid BY PROGRAM, IN A SANDBOX (cutbox-rows.mjs): the forced cells as the released guide's own fill.sh prints them over the translation f55326973b05f38e… (all of the seat's roots in one cut). By AI agents, Wed Nov 11 2026. No macro, syntax, notation, axiom, sorry.
-/
import Derived.Test.YtafnjbmeponobaaGreatDoorChecked
import GoSem.Claim
import GoSem.ClaimJoined
import GoSem.ClaimMapViews
import Derived.JoinedTies
import Derived.KernelRfl
namespace Go.Proofs.YtafnjbmeponobaaGreatDoor
/- THE CELL 'sum', in the pinned program and in every row, IS THE sha256 OF THE DUMP (.gsa) THAT YtafnjbmeponobaaGreatDoorProg.lean LOADS. Nothing in Lean hashes anything: it is a label: what it is worth is what the hold of that sum in a sandbox is worth. -/
noncomputable def Tryz.pinned : Pinned := { name := "ytafnjbmeponobaagreatdoor", sum := "f55326973b05f38e148875b315949d303de9bc4fab1325fdcd5e0a4e591a3fe8", checked := Tryz.checked }
namespace Rows
def none {H : Type} : Left H := { results := [], args := [] }

/- WHAT THE LISTED PACKAGE-LEVEL VARIABLES READ AS WHEN THE CALL BEGINS. Each datum BY PROGRAM (the guide's laid-datum.mjs) off the statement by which the dump's own 'gosem.cut.vars' lays the variable. In a bare row this is a premise. The card (YtafnjbmeponobaaGreatDoorCards.lean) ties it to the program's text. -/
def laid_bookplate_repertoire_spans {H : Type} : DataW H := .agg [.agg [.lit (.int .u16 32), .lit (.int .u16 32), .lit (.int .u8 0), .lit (.int .u8 4)], .agg [.lit (.int .u16 33), .lit (.int .u16 47), .lit (.int .u8 0), .lit (.int .u8 5)], .agg [.lit (.int .u16 48), .lit (.int .u16 57), .lit (.int .u8 0), .lit (.int .u8 3)], .agg [.lit (.int .u16 58), .lit (.int .u16 64), .lit (.int .u8 0), .lit (.int .u8 5)], .agg [.lit (.int .u16 65), .lit (.int .u16 90), .lit (.int .u8 1), .lit (.int .u8 1)], .agg [.lit (.int .u16 91), .lit (.int .u16 96), .lit (.int .u8 0), .lit (.int .u8 5)], .agg [.lit (.int .u16 97), .lit (.int .u16 122), .lit (.int .u8 1), .lit (.int .u8 1)], .agg [.lit (.int .u16 123), .lit (.int .u16 126), .lit (.int .u8 0), .lit (.int .u8 5)], .agg [.lit (.int .u16 160), .lit (.int .u16 160), .lit (.int .u8 0), .lit (.int .u8 4)], .agg [.lit (.int .u16 178), .lit (.int .u16 179), .lit (.int .u8 0), .lit (.int .u8 3)], .agg [.lit (.int .u16 185), .lit (.int .u16 185), .lit (.int .u8 0), .lit (.int .u8 3)], .agg [.lit (.int .u16 192), .lit (.int .u16 214), .lit (.int .u8 1), .lit (.int .u8 1)], .agg [.lit (.int .u16 216), .lit (.int .u16 246), .lit (.int .u8 1), .lit (.int .u8 1)], .agg [.lit (.int .u16 248), .lit (.int .u16 305), .lit (.int .u8 1), .lit (.int .u8 1)], .agg [.lit (.int .u16 308), .lit (.int .u16 311), .lit (.int .u8 1), .lit (.int .u8 1)], .agg [.lit (.int .u16 313), .lit (.int .u16 318), .lit (.int .u8 1), .lit (.int .u8 1)], .agg [.lit (.int .u16 321), .lit (.int .u16 328), .lit (.int .u8 1), .lit (.int .u8 1)], .agg [.lit (.int .u16 330), .lit (.int .u16 383), .lit (.int .u8 1), .lit (.int .u8 1)], .agg [.lit (.int .u16 768), .lit (.int .u16 772), .lit (.int .u8 0), .lit (.int .u8 2)], .agg [.lit (.int .u16 774), .lit (.int .u16 776), .lit (.int .u8 0), .lit (.int .u8 2)], .agg [.lit (.int .u16 778), .lit (.int .u16 780), .lit (.int .u8 0), .lit (.int .u8 2)], .agg [.lit (.int .u16 803), .lit (.int .u16 803), .lit (.int .u8 0), .lit (.int .u8 2)], .agg [.lit (.int .u16 807), .lit (.int .u16 808), .lit (.int .u8 0), .lit (.int .u8 2)], .agg [.lit (.int .u16 902), .lit (.int .u16 902), .lit (.int .u8 2), .lit (.int .u8 1)], .agg [.lit (.int .u16 904), .lit (.int .u16 906), .lit (.int .u8 2), .lit (.int .u8 1)], .agg [.lit (.int .u16 908), .lit (.int .u16 908), .lit (.int .u8 2), .lit (.int .u8 1)], .agg [.lit (.int .u16 910), .lit (.int .u16 911), .lit (.int .u8 2), .lit (.int .u8 1)], .agg [.lit (.int .u16 913), .lit (.int .u16 929), .lit (.int .u8 2), .lit (.int .u8 1)], .agg [.lit (.int .u16 931), .lit (.int .u16 943), .lit (.int .u8 2), .lit (.int .u8 1)], .agg [.lit (.int .u16 945), .lit (.int .u16 974), .lit (.int .u8 2), .lit (.int .u8 1)], .agg [.lit (.int .u16 1025), .lit (.int .u16 1025), .lit (.int .u8 3), .lit (.int .u8 1)], .agg [.lit (.int .u16 1028), .lit (.int .u16 1028), .lit (.int .u8 3), .lit (.int .u8 1)], .agg [.lit (.int .u16 1030), .lit (.int .u16 1031), .lit (.int .u8 3), .lit (.int .u8 1)], .agg [.lit (.int .u16 1038), .lit (.int .u16 1038), .lit (.int .u8 3), .lit (.int .u8 1)], .agg [.lit (.int .u16 1040), .lit (.int .u16 1103), .lit (.int .u8 3), .lit (.int .u8 1)], .agg [.lit (.int .u16 1105), .lit (.int .u16 1105), .lit (.int .u8 3), .lit (.int .u8 1)], .agg [.lit (.int .u16 1108), .lit (.int .u16 1108), .lit (.int .u8 3), .lit (.int .u8 1)], .agg [.lit (.int .u16 1110), .lit (.int .u16 1111), .lit (.int .u8 3), .lit (.int .u8 1)], .agg [.lit (.int .u16 1118), .lit (.int .u16 1118), .lit (.int .u8 3), .lit (.int .u8 1)], .agg [.lit (.int .u16 1168), .lit (.int .u16 1169), .lit (.int .u8 3), .lit (.int .u8 1)], .agg [.lit (.int .u16 64257), .lit (.int .u16 64258), .lit (.int .u8 1), .lit (.int .u8 1)]]

/-- 'bookplatelaw08.CollateKeys': WHATEVER THE INPUT: true; the input reads as it did. -/
def collateKeysSpec : ChangeSpec := { name := "collateKeys", fn := fun _ => fun
  | [d1, d2] => { results := [.lit (.bool true)], args := [d1, d2] }
  | _ => none }
def collateKeysRow : OpenClaim := { program := "ytafnjbmeponobaagreatdoor", sum := "f55326973b05f38e148875b315949d303de9bc4fab1325fdcd5e0a4e591a3fe8", func := "bookplate/bookplatelaw08.CollateKeys", spec := "collateKeys", inPlace := ["internal/bytealg.IndexByteString", "internal/bytealg.IndexString", "internal/abi.NoEscape", "internal/bytealg.Compare"], unfollowed := true, recurses := true, named := ["bookplate/repertoire.spans", "internal/bytealg.MaxLen"], apart := false, laid := [("bookplate/repertoire.spans", laid_bookplate_repertoire_spans)] }
def CollateKeysSaid : Prop := collateKeysRow.holds Tryz.pinned (OpenSpec.ofChange collateKeysSpec)

/-- ITS FALSE NEIGHBOUR: 'it returns false'. Refute it at one input. -/
def collateKeysWrong : ChangeSpec := { name := "collateKeys", fn := fun _ => fun
  | [d1, d2] => { results := [.lit (.bool false)], args := [d1, d2] }
  | _ => none }
def CollateKeysWrongFalsely : Prop := collateKeysRow.holds Tryz.pinned (OpenSpec.ofChange collateKeysWrong)

/-- 'bookplatelaw08.CollateCompare': WHATEVER THE INPUT: true; the input reads as it did. -/
def collateCompareSpec : ChangeSpec := { name := "collateCompare", fn := fun _ => fun
  | [d1, d2, d3] => { results := [.lit (.bool true)], args := [d1, d2, d3] }
  | _ => none }
def collateCompareRow : OpenClaim := { program := "ytafnjbmeponobaagreatdoor", sum := "f55326973b05f38e148875b315949d303de9bc4fab1325fdcd5e0a4e591a3fe8", func := "bookplate/bookplatelaw08.CollateCompare", spec := "collateCompare", inPlace := ["internal/bytealg.IndexByteString", "internal/bytealg.IndexString", "internal/abi.NoEscape", "internal/bytealg.Compare"], unfollowed := true, recurses := true, named := ["bookplate/repertoire.spans", "internal/bytealg.MaxLen"], apart := false, laid := [("bookplate/repertoire.spans", laid_bookplate_repertoire_spans)] }
def CollateCompareSaid : Prop := collateCompareRow.holds Tryz.pinned (OpenSpec.ofChange collateCompareSpec)

/-- ITS FALSE NEIGHBOUR: 'it returns false'. Refute it at one input. -/
def collateCompareWrong : ChangeSpec := { name := "collateCompare", fn := fun _ => fun
  | [d1, d2, d3] => { results := [.lit (.bool false)], args := [d1, d2, d3] }
  | _ => none }
def CollateCompareWrongFalsely : Prop := collateCompareRow.holds Tryz.pinned (OpenSpec.ofChange collateCompareWrong)

/-- 'bookplatelaw08.CollateOrder': WHATEVER THE INPUT: true; the input reads as it did. -/
def collateOrderSpec : ChangeSpec := { name := "collateOrder", fn := fun _ => fun
  | [d1, d2] => { results := [.lit (.bool true)], args := [d1, d2] }
  | _ => none }
def collateOrderRow : OpenClaim := { program := "ytafnjbmeponobaagreatdoor", sum := "f55326973b05f38e148875b315949d303de9bc4fab1325fdcd5e0a4e591a3fe8", func := "bookplate/bookplatelaw08.CollateOrder", spec := "collateOrder", inPlace := ["internal/bytealg.IndexByteString", "internal/bytealg.IndexString", "internal/abi.NoEscape", "internal/bytealg.Compare"], unfollowed := true, recurses := true, named := ["bookplate/repertoire.spans", "internal/bytealg.MaxLen"], apart := false, laid := [("bookplate/repertoire.spans", laid_bookplate_repertoire_spans)] }
def CollateOrderSaid : Prop := collateOrderRow.holds Tryz.pinned (OpenSpec.ofChange collateOrderSpec)

/-- ITS FALSE NEIGHBOUR: 'it returns false'. Refute it at one input. -/
def collateOrderWrong : ChangeSpec := { name := "collateOrder", fn := fun _ => fun
  | [d1, d2] => { results := [.lit (.bool false)], args := [d1, d2] }
  | _ => none }
def CollateOrderWrongFalsely : Prop := collateOrderRow.holds Tryz.pinned (OpenSpec.ofChange collateOrderWrong)

/-- 'bookplatelaw08.CollateEqual': WHATEVER THE INPUT: true; the input reads as it did. -/
def collateEqualSpec : ChangeSpec := { name := "collateEqual", fn := fun _ => fun
  | [d1, d2, d3] => { results := [.lit (.bool true)], args := [d1, d2, d3] }
  | _ => none }
def collateEqualRow : OpenClaim := { program := "ytafnjbmeponobaagreatdoor", sum := "f55326973b05f38e148875b315949d303de9bc4fab1325fdcd5e0a4e591a3fe8", func := "bookplate/bookplatelaw08.CollateEqual", spec := "collateEqual", inPlace := ["internal/bytealg.IndexByteString", "internal/bytealg.IndexString", "internal/abi.NoEscape", "internal/bytealg.Compare"], unfollowed := true, recurses := true, named := ["bookplate/repertoire.spans", "internal/bytealg.MaxLen"], apart := false, laid := [("bookplate/repertoire.spans", laid_bookplate_repertoire_spans)] }
def CollateEqualSaid : Prop := collateEqualRow.holds Tryz.pinned (OpenSpec.ofChange collateEqualSpec)

/-- ITS FALSE NEIGHBOUR: 'it returns false'. Refute it at one input. -/
def collateEqualWrong : ChangeSpec := { name := "collateEqual", fn := fun _ => fun
  | [d1, d2, d3] => { results := [.lit (.bool false)], args := [d1, d2, d3] }
  | _ => none }
def CollateEqualWrongFalsely : Prop := collateEqualRow.holds Tryz.pinned (OpenSpec.ofChange collateEqualWrong)

/-- 'bookplatelaw08.CollateLevels': WHATEVER THE INPUT: true; the input reads as it did. -/
def collateLevelsSpec : ChangeSpec := { name := "collateLevels", fn := fun _ => fun
  | [d] => { results := [.lit (.bool true)], args := [d] }
  | _ => none }
def collateLevelsRow : OpenClaim := { program := "ytafnjbmeponobaagreatdoor", sum := "f55326973b05f38e148875b315949d303de9bc4fab1325fdcd5e0a4e591a3fe8", func := "bookplate/bookplatelaw08.CollateLevels", spec := "collateLevels", inPlace := ["internal/bytealg.IndexByteString", "internal/bytealg.IndexString", "internal/abi.NoEscape", "internal/bytealg.Compare"], unfollowed := true, recurses := true, named := ["bookplate/repertoire.spans", "internal/bytealg.MaxLen"], apart := false, laid := [("bookplate/repertoire.spans", laid_bookplate_repertoire_spans)] }
def CollateLevelsSaid : Prop := collateLevelsRow.holds Tryz.pinned (OpenSpec.ofChange collateLevelsSpec)

/-- ITS FALSE NEIGHBOUR: 'it returns false'. Refute it at one input. -/
def collateLevelsWrong : ChangeSpec := { name := "collateLevels", fn := fun _ => fun
  | [d] => { results := [.lit (.bool false)], args := [d] }
  | _ => none }
def CollateLevelsWrongFalsely : Prop := collateLevelsRow.holds Tryz.pinned (OpenSpec.ofChange collateLevelsWrong)

/-- 'bookplatelaw08.CollateLetters': WHATEVER THE INPUT: true; the input reads as it did. -/
def collateLettersSpec : ChangeSpec := { name := "collateLetters", fn := fun _ => fun
  | [d1, d2, d3] => { results := [.lit (.bool true)], args := [d1, d2, d3] }
  | _ => none }
def collateLettersRow : OpenClaim := { program := "ytafnjbmeponobaagreatdoor", sum := "f55326973b05f38e148875b315949d303de9bc4fab1325fdcd5e0a4e591a3fe8", func := "bookplate/bookplatelaw08.CollateLetters", spec := "collateLetters", inPlace := ["internal/bytealg.IndexByteString", "internal/bytealg.IndexString", "internal/abi.NoEscape", "internal/bytealg.Compare"], unfollowed := true, recurses := true, named := ["bookplate/repertoire.spans", "internal/bytealg.MaxLen"], apart := false, laid := [("bookplate/repertoire.spans", laid_bookplate_repertoire_spans)] }
def CollateLettersSaid : Prop := collateLettersRow.holds Tryz.pinned (OpenSpec.ofChange collateLettersSpec)

/-- ITS FALSE NEIGHBOUR: 'it returns false'. Refute it at one input. -/
def collateLettersWrong : ChangeSpec := { name := "collateLetters", fn := fun _ => fun
  | [d1, d2, d3] => { results := [.lit (.bool false)], args := [d1, d2, d3] }
  | _ => none }
def CollateLettersWrongFalsely : Prop := collateLettersRow.holds Tryz.pinned (OpenSpec.ofChange collateLettersWrong)

/-- 'bookplatelaw08.CollateSort': WHATEVER THE INPUT: true; the input reads as it did. -/
def collateSortSpec : ChangeSpec := { name := "collateSort", fn := fun _ => fun
  | [d1, d2] => { results := [.lit (.bool true)], args := [d1, d2] }
  | _ => none }
def collateSortRow : OpenClaim := { program := "ytafnjbmeponobaagreatdoor", sum := "f55326973b05f38e148875b315949d303de9bc4fab1325fdcd5e0a4e591a3fe8", func := "bookplate/bookplatelaw08.CollateSort", spec := "collateSort", inPlace := ["internal/bytealg.IndexByteString", "internal/bytealg.IndexString", "internal/abi.NoEscape", "internal/bytealg.Compare"], unfollowed := true, recurses := true, named := ["bookplate/repertoire.spans", "internal/bytealg.MaxLen"], apart := false, laid := [("bookplate/repertoire.spans", laid_bookplate_repertoire_spans)] }
def CollateSortSaid : Prop := collateSortRow.holds Tryz.pinned (OpenSpec.ofChange collateSortSpec)

/-- ITS FALSE NEIGHBOUR: 'it returns false'. Refute it at one input. -/
def collateSortWrong : ChangeSpec := { name := "collateSort", fn := fun _ => fun
  | [d1, d2] => { results := [.lit (.bool false)], args := [d1, d2] }
  | _ => none }
def CollateSortWrongFalsely : Prop := collateSortRow.holds Tryz.pinned (OpenSpec.ofChange collateSortWrong)

/- THE SECOND FORM. 'bulk': how many values and letters a reading holds, each counted each time it is reached (what is shared counts as often as it is met; a slice's spare places count too). A statement '..UptoSaid' is the law's where the arguments, and the package variables that the reading takes, are together of bulk at most 1048576: NARROWER than '..Said'. Prove '..Said' where nothing that the law and all that it calls make is longer than what came in: it says more and counts as full. Else prove '..UptoSaid'. A law counts once. -/
mutual
def uptoBulk {H : Type} : DataW H → Nat
  | .lit (.string bytes) => bytes.length + 1
  | .lit _ => 1
  | .nil => 1
  | .ptr d => uptoBulk d + 1
  | .slice elems spare => uptoBulkAll elems + uptoBulkAll spare + 1
  | .agg parts => uptoBulkAll parts + 1
  | .iface _ d => uptoBulk d + 1
  | .map entries => uptoBulkEntries entries + 1
  | .held _ => 1
def uptoBulkAll {H : Type} : List (DataW H) → Nat
  | [] => 0
  | d :: r => uptoBulk d + uptoBulkAll r
def uptoBulkEntries {H : Type} : List (Lit × DataW H) → Nat
  | [] => 0
  | x :: r => uptoBulkEntry x + uptoBulkEntries r
def uptoBulkEntry {H : Type} : Lit × DataW H → Nat
  | (.string bytes, d) => bytes.length + uptoBulk d + 1
  | (_, d) => uptoBulk d + 1
 end
def uptoSmall : (H : Type) → List (DataW H) → Bool := fun _ ds => decide (uptoBulkAll ds ≤ 1048576)
def OpenSpec.upto (s : _root_.Go.ChangeSpec) : _root_.Go.OpenSpec := { _root_.Go.OpenSpec.ofChange s with cond := some uptoSmall }

/-- 'bookplatelaw08.CollateKeys', WHERE WHAT IT READS IS OF BULK AT MOST 1048576: true; the input reads as it did. -/
def collateKeysUptoRow : OpenClaim := { program := "ytafnjbmeponobaagreatdoor", sum := "f55326973b05f38e148875b315949d303de9bc4fab1325fdcd5e0a4e591a3fe8", func := "bookplate/bookplatelaw08.CollateKeys", spec := "collateKeys", inPlace := ["internal/bytealg.IndexByteString", "internal/bytealg.IndexString", "internal/abi.NoEscape", "internal/bytealg.Compare"], unfollowed := true, recurses := true, named := ["bookplate/repertoire.spans", "internal/bytealg.MaxLen"], apart := false, laid := [("bookplate/repertoire.spans", laid_bookplate_repertoire_spans)], narrowed := true }
def CollateKeysUptoSaid : Prop := collateKeysUptoRow.holds Tryz.pinned (OpenSpec.upto collateKeysSpec)

/-- 'bookplatelaw08.CollateCompare', WHERE WHAT IT READS IS OF BULK AT MOST 1048576: true; the input reads as it did. -/
def collateCompareUptoRow : OpenClaim := { program := "ytafnjbmeponobaagreatdoor", sum := "f55326973b05f38e148875b315949d303de9bc4fab1325fdcd5e0a4e591a3fe8", func := "bookplate/bookplatelaw08.CollateCompare", spec := "collateCompare", inPlace := ["internal/bytealg.IndexByteString", "internal/bytealg.IndexString", "internal/abi.NoEscape", "internal/bytealg.Compare"], unfollowed := true, recurses := true, named := ["bookplate/repertoire.spans", "internal/bytealg.MaxLen"], apart := false, laid := [("bookplate/repertoire.spans", laid_bookplate_repertoire_spans)], narrowed := true }
def CollateCompareUptoSaid : Prop := collateCompareUptoRow.holds Tryz.pinned (OpenSpec.upto collateCompareSpec)

/-- 'bookplatelaw08.CollateOrder', WHERE WHAT IT READS IS OF BULK AT MOST 1048576: true; the input reads as it did. -/
def collateOrderUptoRow : OpenClaim := { program := "ytafnjbmeponobaagreatdoor", sum := "f55326973b05f38e148875b315949d303de9bc4fab1325fdcd5e0a4e591a3fe8", func := "bookplate/bookplatelaw08.CollateOrder", spec := "collateOrder", inPlace := ["internal/bytealg.IndexByteString", "internal/bytealg.IndexString", "internal/abi.NoEscape", "internal/bytealg.Compare"], unfollowed := true, recurses := true, named := ["bookplate/repertoire.spans", "internal/bytealg.MaxLen"], apart := false, laid := [("bookplate/repertoire.spans", laid_bookplate_repertoire_spans)], narrowed := true }
def CollateOrderUptoSaid : Prop := collateOrderUptoRow.holds Tryz.pinned (OpenSpec.upto collateOrderSpec)

/-- 'bookplatelaw08.CollateEqual', WHERE WHAT IT READS IS OF BULK AT MOST 1048576: true; the input reads as it did. -/
def collateEqualUptoRow : OpenClaim := { program := "ytafnjbmeponobaagreatdoor", sum := "f55326973b05f38e148875b315949d303de9bc4fab1325fdcd5e0a4e591a3fe8", func := "bookplate/bookplatelaw08.CollateEqual", spec := "collateEqual", inPlace := ["internal/bytealg.IndexByteString", "internal/bytealg.IndexString", "internal/abi.NoEscape", "internal/bytealg.Compare"], unfollowed := true, recurses := true, named := ["bookplate/repertoire.spans", "internal/bytealg.MaxLen"], apart := false, laid := [("bookplate/repertoire.spans", laid_bookplate_repertoire_spans)], narrowed := true }
def CollateEqualUptoSaid : Prop := collateEqualUptoRow.holds Tryz.pinned (OpenSpec.upto collateEqualSpec)

/-- 'bookplatelaw08.CollateLevels', WHERE WHAT IT READS IS OF BULK AT MOST 1048576: true; the input reads as it did. -/
def collateLevelsUptoRow : OpenClaim := { program := "ytafnjbmeponobaagreatdoor", sum := "f55326973b05f38e148875b315949d303de9bc4fab1325fdcd5e0a4e591a3fe8", func := "bookplate/bookplatelaw08.CollateLevels", spec := "collateLevels", inPlace := ["internal/bytealg.IndexByteString", "internal/bytealg.IndexString", "internal/abi.NoEscape", "internal/bytealg.Compare"], unfollowed := true, recurses := true, named := ["bookplate/repertoire.spans", "internal/bytealg.MaxLen"], apart := false, laid := [("bookplate/repertoire.spans", laid_bookplate_repertoire_spans)], narrowed := true }
def CollateLevelsUptoSaid : Prop := collateLevelsUptoRow.holds Tryz.pinned (OpenSpec.upto collateLevelsSpec)

/-- 'bookplatelaw08.CollateLetters', WHERE WHAT IT READS IS OF BULK AT MOST 1048576: true; the input reads as it did. -/
def collateLettersUptoRow : OpenClaim := { program := "ytafnjbmeponobaagreatdoor", sum := "f55326973b05f38e148875b315949d303de9bc4fab1325fdcd5e0a4e591a3fe8", func := "bookplate/bookplatelaw08.CollateLetters", spec := "collateLetters", inPlace := ["internal/bytealg.IndexByteString", "internal/bytealg.IndexString", "internal/abi.NoEscape", "internal/bytealg.Compare"], unfollowed := true, recurses := true, named := ["bookplate/repertoire.spans", "internal/bytealg.MaxLen"], apart := false, laid := [("bookplate/repertoire.spans", laid_bookplate_repertoire_spans)], narrowed := true }
def CollateLettersUptoSaid : Prop := collateLettersUptoRow.holds Tryz.pinned (OpenSpec.upto collateLettersSpec)

/-- 'bookplatelaw08.CollateSort', WHERE WHAT IT READS IS OF BULK AT MOST 1048576: true; the input reads as it did. -/
def collateSortUptoRow : OpenClaim := { program := "ytafnjbmeponobaagreatdoor", sum := "f55326973b05f38e148875b315949d303de9bc4fab1325fdcd5e0a4e591a3fe8", func := "bookplate/bookplatelaw08.CollateSort", spec := "collateSort", inPlace := ["internal/bytealg.IndexByteString", "internal/bytealg.IndexString", "internal/abi.NoEscape", "internal/bytealg.Compare"], unfollowed := true, recurses := true, named := ["bookplate/repertoire.spans", "internal/bytealg.MaxLen"], apart := false, laid := [("bookplate/repertoire.spans", laid_bookplate_repertoire_spans)], narrowed := true }
def CollateSortUptoSaid : Prop := collateSortUptoRow.holds Tryz.pinned (OpenSpec.upto collateSortSpec)

end Rows
end Go.Proofs.YtafnjbmeponobaaGreatDoor
