/-
  NARROWER THAN 'FOR EVERY INPUT', by the rows' own cells (each row's printed sentence says how): NormalForms: laid · NormalTwice: laid · NormalEqual: laid · NormalOrder: laid · NormalJoins: laid · NormalStrips: laid · NormalLetters: laid.
  DERIVED. THE GIVEN ROWS OF THIS SEAT. 7 by the template 'for every input the law returns true; each argument reads behind the call as it read before'; 0 by the template 'total and deterministic' (their statements: YtpgaebdaakllaaaDoorTotals.lean).
  GIVEN WITH THE SEED: the statements are not yours to turn. If you find one false, say at which input.
  Laid BY PROGRAM, IN A SANDBOX (cutbox-rows.mjs): the forced cells as the released guide's own fill.sh prints them over the translation da3853966da3946f… (all of the seat's roots in one cut). By AI agents, Wed Nov 11 2026. No macro, syntax, notation, axiom, sorry.
-/
import Derived.Test.YtpgaebdaakllaaaDoorChecked
import GoSem.Claim
import GoSem.ClaimJoined
import GoSem.ClaimMapViews
import Derived.JoinedTies
import Derived.KernelRfl
namespace Go.Proofs.YtpgaebdaakllaaaDoor
/- THE CELL 'sum', in the pinned program and in every row, IS THE sha256 OF THE DUMP (.gsa) THAT YtpgaebdaakllaaaDoorProg.lean LOADS. Nothing in Lean hashes anything: it is a label: what it is worth is what the hold of that sum in a sandbox is worth. -/
noncomputable def Tryd.pinned : Pinned := { name := "ytpgaebdaakllaaadoor", sum := "da3853966da3946f771d2069d2a7b5521fc0d705f6571709f97e91b1d501c3ec", checked := Tryd.checked }
namespace Rows
def none {H : Type} : Left H := { results := [], args := [] }

/- WHAT THE LISTED PACKAGE-LEVEL VARIABLES READ AS WHEN THE CALL BEGINS. Each datum BY PROGRAM (the guide's laid-datum.mjs) off the statement by which the dump's own 'gosem.cut.vars' lays the variable. In a bare row this is a premise. The card (YtpgaebdaakllaaaDoorCards.lean) ties it to the program's text. -/
def laid_bookplate_repertoire_spans {H : Type} : DataW H := .agg [.agg [.lit (.int .u16 32), .lit (.int .u16 32), .lit (.int .u8 0), .lit (.int .u8 4)], .agg [.lit (.int .u16 33), .lit (.int .u16 47), .lit (.int .u8 0), .lit (.int .u8 5)], .agg [.lit (.int .u16 48), .lit (.int .u16 57), .lit (.int .u8 0), .lit (.int .u8 3)], .agg [.lit (.int .u16 58), .lit (.int .u16 64), .lit (.int .u8 0), .lit (.int .u8 5)], .agg [.lit (.int .u16 65), .lit (.int .u16 90), .lit (.int .u8 1), .lit (.int .u8 1)], .agg [.lit (.int .u16 91), .lit (.int .u16 96), .lit (.int .u8 0), .lit (.int .u8 5)], .agg [.lit (.int .u16 97), .lit (.int .u16 122), .lit (.int .u8 1), .lit (.int .u8 1)], .agg [.lit (.int .u16 123), .lit (.int .u16 126), .lit (.int .u8 0), .lit (.int .u8 5)], .agg [.lit (.int .u16 160), .lit (.int .u16 160), .lit (.int .u8 0), .lit (.int .u8 4)], .agg [.lit (.int .u16 178), .lit (.int .u16 179), .lit (.int .u8 0), .lit (.int .u8 3)], .agg [.lit (.int .u16 185), .lit (.int .u16 185), .lit (.int .u8 0), .lit (.int .u8 3)], .agg [.lit (.int .u16 192), .lit (.int .u16 214), .lit (.int .u8 1), .lit (.int .u8 1)], .agg [.lit (.int .u16 216), .lit (.int .u16 246), .lit (.int .u8 1), .lit (.int .u8 1)], .agg [.lit (.int .u16 248), .lit (.int .u16 305), .lit (.int .u8 1), .lit (.int .u8 1)], .agg [.lit (.int .u16 308), .lit (.int .u16 311), .lit (.int .u8 1), .lit (.int .u8 1)], .agg [.lit (.int .u16 313), .lit (.int .u16 318), .lit (.int .u8 1), .lit (.int .u8 1)], .agg [.lit (.int .u16 321), .lit (.int .u16 328), .lit (.int .u8 1), .lit (.int .u8 1)], .agg [.lit (.int .u16 330), .lit (.int .u16 383), .lit (.int .u8 1), .lit (.int .u8 1)], .agg [.lit (.int .u16 768), .lit (.int .u16 772), .lit (.int .u8 0), .lit (.int .u8 2)], .agg [.lit (.int .u16 774), .lit (.int .u16 776), .lit (.int .u8 0), .lit (.int .u8 2)], .agg [.lit (.int .u16 778), .lit (.int .u16 780), .lit (.int .u8 0), .lit (.int .u8 2)], .agg [.lit (.int .u16 803), .lit (.int .u16 803), .lit (.int .u8 0), .lit (.int .u8 2)], .agg [.lit (.int .u16 807), .lit (.int .u16 808), .lit (.int .u8 0), .lit (.int .u8 2)], .agg [.lit (.int .u16 902), .lit (.int .u16 902), .lit (.int .u8 2), .lit (.int .u8 1)], .agg [.lit (.int .u16 904), .lit (.int .u16 906), .lit (.int .u8 2), .lit (.int .u8 1)], .agg [.lit (.int .u16 908), .lit (.int .u16 908), .lit (.int .u8 2), .lit (.int .u8 1)], .agg [.lit (.int .u16 910), .lit (.int .u16 911), .lit (.int .u8 2), .lit (.int .u8 1)], .agg [.lit (.int .u16 913), .lit (.int .u16 929), .lit (.int .u8 2), .lit (.int .u8 1)], .agg [.lit (.int .u16 931), .lit (.int .u16 943), .lit (.int .u8 2), .lit (.int .u8 1)], .agg [.lit (.int .u16 945), .lit (.int .u16 974), .lit (.int .u8 2), .lit (.int .u8 1)], .agg [.lit (.int .u16 1025), .lit (.int .u16 1025), .lit (.int .u8 3), .lit (.int .u8 1)], .agg [.lit (.int .u16 1028), .lit (.int .u16 1028), .lit (.int .u8 3), .lit (.int .u8 1)], .agg [.lit (.int .u16 1030), .lit (.int .u16 1031), .lit (.int .u8 3), .lit (.int .u8 1)], .agg [.lit (.int .u16 1038), .lit (.int .u16 1038), .lit (.int .u8 3), .lit (.int .u8 1)], .agg [.lit (.int .u16 1040), .lit (.int .u16 1103), .lit (.int .u8 3), .lit (.int .u8 1)], .agg [.lit (.int .u16 1105), .lit (.int .u16 1105), .lit (.int .u8 3), .lit (.int .u8 1)], .agg [.lit (.int .u16 1108), .lit (.int .u16 1108), .lit (.int .u8 3), .lit (.int .u8 1)], .agg [.lit (.int .u16 1110), .lit (.int .u16 1111), .lit (.int .u8 3), .lit (.int .u8 1)], .agg [.lit (.int .u16 1118), .lit (.int .u16 1118), .lit (.int .u8 3), .lit (.int .u8 1)], .agg [.lit (.int .u16 1168), .lit (.int .u16 1169), .lit (.int .u8 3), .lit (.int .u8 1)], .agg [.lit (.int .u16 64257), .lit (.int .u16 64258), .lit (.int .u8 1), .lit (.int .u8 1)]]

/-- 'bookplatelaw05.NormalForms': WHATEVER THE INPUT: true; the input reads as it did. -/
def normalFormsSpec : ChangeSpec := { name := "normalForms", fn := fun _ => fun
  | [d] => { results := [.lit (.bool true)], args := [d] }
  | _ => none }
def normalFormsRow : OpenClaim := { program := "ytpgaebdaakllaaadoor", sum := "da3853966da3946f771d2069d2a7b5521fc0d705f6571709f97e91b1d501c3ec", func := "bookplate/bookplatelaw05.NormalForms", spec := "normalForms", inPlace := ["internal/bytealg.IndexByteString", "internal/bytealg.IndexString", "internal/abi.NoEscape"], unfollowed := true, recurses := true, named := ["bookplate/repertoire.spans", "internal/bytealg.MaxLen"], apart := false, laid := [("bookplate/repertoire.spans", laid_bookplate_repertoire_spans)] }
def NormalFormsSaid : Prop := normalFormsRow.holds Tryd.pinned (OpenSpec.ofChange normalFormsSpec)

/-- ITS FALSE NEIGHBOUR: 'it returns false'. Refute it at one input. -/
def normalFormsWrong : ChangeSpec := { name := "normalForms", fn := fun _ => fun
  | [d] => { results := [.lit (.bool false)], args := [d] }
  | _ => none }
def NormalFormsWrongFalsely : Prop := normalFormsRow.holds Tryd.pinned (OpenSpec.ofChange normalFormsWrong)

/-- 'bookplatelaw05.NormalTwice': WHATEVER THE INPUT: true; the input reads as it did. -/
def normalTwiceSpec : ChangeSpec := { name := "normalTwice", fn := fun _ => fun
  | [d] => { results := [.lit (.bool true)], args := [d] }
  | _ => none }
def normalTwiceRow : OpenClaim := { program := "ytpgaebdaakllaaadoor", sum := "da3853966da3946f771d2069d2a7b5521fc0d705f6571709f97e91b1d501c3ec", func := "bookplate/bookplatelaw05.NormalTwice", spec := "normalTwice", inPlace := ["internal/bytealg.IndexByteString", "internal/bytealg.IndexString", "internal/abi.NoEscape"], unfollowed := true, recurses := true, named := ["bookplate/repertoire.spans", "internal/bytealg.MaxLen"], apart := false, laid := [("bookplate/repertoire.spans", laid_bookplate_repertoire_spans)] }
def NormalTwiceSaid : Prop := normalTwiceRow.holds Tryd.pinned (OpenSpec.ofChange normalTwiceSpec)

/-- ITS FALSE NEIGHBOUR: 'it returns false'. Refute it at one input. -/
def normalTwiceWrong : ChangeSpec := { name := "normalTwice", fn := fun _ => fun
  | [d] => { results := [.lit (.bool false)], args := [d] }
  | _ => none }
def NormalTwiceWrongFalsely : Prop := normalTwiceRow.holds Tryd.pinned (OpenSpec.ofChange normalTwiceWrong)

/-- 'bookplatelaw05.NormalEqual': WHATEVER THE INPUT: true; the input reads as it did. -/
def normalEqualSpec : ChangeSpec := { name := "normalEqual", fn := fun _ => fun
  | [d1, d2] => { results := [.lit (.bool true)], args := [d1, d2] }
  | _ => none }
def normalEqualRow : OpenClaim := { program := "ytpgaebdaakllaaadoor", sum := "da3853966da3946f771d2069d2a7b5521fc0d705f6571709f97e91b1d501c3ec", func := "bookplate/bookplatelaw05.NormalEqual", spec := "normalEqual", inPlace := ["internal/bytealg.IndexByteString", "internal/bytealg.IndexString", "internal/abi.NoEscape"], unfollowed := true, recurses := true, named := ["bookplate/repertoire.spans", "internal/bytealg.MaxLen"], apart := false, laid := [("bookplate/repertoire.spans", laid_bookplate_repertoire_spans)] }
def NormalEqualSaid : Prop := normalEqualRow.holds Tryd.pinned (OpenSpec.ofChange normalEqualSpec)

/-- ITS FALSE NEIGHBOUR: 'it returns false'. Refute it at one input. -/
def normalEqualWrong : ChangeSpec := { name := "normalEqual", fn := fun _ => fun
  | [d1, d2] => { results := [.lit (.bool false)], args := [d1, d2] }
  | _ => none }
def NormalEqualWrongFalsely : Prop := normalEqualRow.holds Tryd.pinned (OpenSpec.ofChange normalEqualWrong)

/-- 'bookplatelaw05.NormalOrder': WHATEVER THE INPUT: true; the input reads as it did. -/
def normalOrderSpec : ChangeSpec := { name := "normalOrder", fn := fun _ => fun
  | [d1, d2] => { results := [.lit (.bool true)], args := [d1, d2] }
  | _ => none }
def normalOrderRow : OpenClaim := { program := "ytpgaebdaakllaaadoor", sum := "da3853966da3946f771d2069d2a7b5521fc0d705f6571709f97e91b1d501c3ec", func := "bookplate/bookplatelaw05.NormalOrder", spec := "normalOrder", inPlace := ["internal/bytealg.IndexByteString", "internal/bytealg.IndexString", "internal/abi.NoEscape"], unfollowed := true, recurses := true, named := ["bookplate/repertoire.spans", "internal/bytealg.MaxLen"], apart := false, laid := [("bookplate/repertoire.spans", laid_bookplate_repertoire_spans)] }
def NormalOrderSaid : Prop := normalOrderRow.holds Tryd.pinned (OpenSpec.ofChange normalOrderSpec)

/-- ITS FALSE NEIGHBOUR: 'it returns false'. Refute it at one input. -/
def normalOrderWrong : ChangeSpec := { name := "normalOrder", fn := fun _ => fun
  | [d1, d2] => { results := [.lit (.bool false)], args := [d1, d2] }
  | _ => none }
def NormalOrderWrongFalsely : Prop := normalOrderRow.holds Tryd.pinned (OpenSpec.ofChange normalOrderWrong)

/-- 'bookplatelaw05.NormalJoins': WHATEVER THE INPUT: true; the input reads as it did. -/
def normalJoinsSpec : ChangeSpec := { name := "normalJoins", fn := fun _ => fun
  | [d1, d2] => { results := [.lit (.bool true)], args := [d1, d2] }
  | _ => none }
def normalJoinsRow : OpenClaim := { program := "ytpgaebdaakllaaadoor", sum := "da3853966da3946f771d2069d2a7b5521fc0d705f6571709f97e91b1d501c3ec", func := "bookplate/bookplatelaw05.NormalJoins", spec := "normalJoins", inPlace := ["internal/bytealg.IndexByteString", "internal/bytealg.IndexString", "internal/abi.NoEscape"], unfollowed := true, recurses := true, named := ["bookplate/repertoire.spans", "internal/bytealg.MaxLen"], apart := false, laid := [("bookplate/repertoire.spans", laid_bookplate_repertoire_spans)] }
def NormalJoinsSaid : Prop := normalJoinsRow.holds Tryd.pinned (OpenSpec.ofChange normalJoinsSpec)

/-- ITS FALSE NEIGHBOUR: 'it returns false'. Refute it at one input. -/
def normalJoinsWrong : ChangeSpec := { name := "normalJoins", fn := fun _ => fun
  | [d1, d2] => { results := [.lit (.bool false)], args := [d1, d2] }
  | _ => none }
def NormalJoinsWrongFalsely : Prop := normalJoinsRow.holds Tryd.pinned (OpenSpec.ofChange normalJoinsWrong)

/-- 'bookplatelaw05.NormalStrips': WHATEVER THE INPUT: true; the input reads as it did. -/
def normalStripsSpec : ChangeSpec := { name := "normalStrips", fn := fun _ => fun
  | [d1, d2] => { results := [.lit (.bool true)], args := [d1, d2] }
  | _ => none }
def normalStripsRow : OpenClaim := { program := "ytpgaebdaakllaaadoor", sum := "da3853966da3946f771d2069d2a7b5521fc0d705f6571709f97e91b1d501c3ec", func := "bookplate/bookplatelaw05.NormalStrips", spec := "normalStrips", inPlace := ["internal/bytealg.IndexByteString", "internal/bytealg.IndexString", "internal/abi.NoEscape"], unfollowed := true, recurses := true, named := ["bookplate/repertoire.spans", "internal/bytealg.MaxLen"], apart := false, laid := [("bookplate/repertoire.spans", laid_bookplate_repertoire_spans)] }
def NormalStripsSaid : Prop := normalStripsRow.holds Tryd.pinned (OpenSpec.ofChange normalStripsSpec)

/-- ITS FALSE NEIGHBOUR: 'it returns false'. Refute it at one input. -/
def normalStripsWrong : ChangeSpec := { name := "normalStrips", fn := fun _ => fun
  | [d1, d2] => { results := [.lit (.bool false)], args := [d1, d2] }
  | _ => none }
def NormalStripsWrongFalsely : Prop := normalStripsRow.holds Tryd.pinned (OpenSpec.ofChange normalStripsWrong)

/-- 'bookplatelaw05.NormalLetters': WHATEVER THE INPUT: true; the input reads as it did. -/
def normalLettersSpec : ChangeSpec := { name := "normalLetters", fn := fun _ => fun
  | [d] => { results := [.lit (.bool true)], args := [d] }
  | _ => none }
def normalLettersRow : OpenClaim := { program := "ytpgaebdaakllaaadoor", sum := "da3853966da3946f771d2069d2a7b5521fc0d705f6571709f97e91b1d501c3ec", func := "bookplate/bookplatelaw05.NormalLetters", spec := "normalLetters", inPlace := ["internal/bytealg.IndexByteString", "internal/bytealg.IndexString", "internal/abi.NoEscape"], unfollowed := true, recurses := true, named := ["bookplate/repertoire.spans", "internal/bytealg.MaxLen"], apart := false, laid := [("bookplate/repertoire.spans", laid_bookplate_repertoire_spans)] }
def NormalLettersSaid : Prop := normalLettersRow.holds Tryd.pinned (OpenSpec.ofChange normalLettersSpec)

/-- ITS FALSE NEIGHBOUR: 'it returns false'. Refute it at one input. -/
def normalLettersWrong : ChangeSpec := { name := "normalLetters", fn := fun _ => fun
  | [d] => { results := [.lit (.bool false)], args := [d] }
  | _ => none }
def NormalLettersWrongFalsely : Prop := normalLettersRow.holds Tryd.pinned (OpenSpec.ofChange normalLettersWrong)

/- THE SECOND FORM. 'bulk': how many values and letters a reading holds, each counted each time it is reached (what is shared counts as often as it is met; a slice's spare places count too). A statement '..UptoSaid' is the law's where the arguments, and the package variables that the reading takes, are together of bulk at most 1048576: NARROWER than '..Said'. Prove '..Said' where nothing that the law and all that it calls make is longer than what came in: it says more and counts as full. Else prove '..UptoSaid'. A law counts once. -/
mutual
def uptoBulk {H : Type} : DataW H → Nat
  | .lit (.string bytes) => bytes.length + 1
  | .lit _ => 1
  | .nil => 1
  | .ptr d => uptoBulk d + 1
  | .slice elems spare => uptoBulkAll elems + uptoBulkAll spare + 1
  | .agg parts => uptoBulkAll parts + 1
  | .iface _ d => uptoBulk d + 1
  | .map entries => uptoBulkEntries entries + 1
  | .held _ => 1
def uptoBulkAll {H : Type} : List (DataW H) → Nat
  | [] => 0
  | d :: r => uptoBulk d + uptoBulkAll r
def uptoBulkEntries {H : Type} : List (Lit × DataW H) → Nat
  | [] => 0
  | x :: r => uptoBulkEntry x + uptoBulkEntries r
def uptoBulkEntry {H : Type} : Lit × DataW H → Nat
  | (.string bytes, d) => bytes.length + uptoBulk d + 1
  | (_, d) => uptoBulk d + 1
 end
def uptoSmall : (H : Type) → List (DataW H) → Bool := fun _ ds => decide (uptoBulkAll ds ≤ 1048576)
def OpenSpec.upto (s : _root_.Go.ChangeSpec) : _root_.Go.OpenSpec := { _root_.Go.OpenSpec.ofChange s with cond := some uptoSmall }

/-- 'bookplatelaw05.NormalForms', WHERE WHAT IT READS IS OF BULK AT MOST 1048576: true; the input reads as it did. -/
def normalFormsUptoRow : OpenClaim := { program := "ytpgaebdaakllaaadoor", sum := "da3853966da3946f771d2069d2a7b5521fc0d705f6571709f97e91b1d501c3ec", func := "bookplate/bookplatelaw05.NormalForms", spec := "normalForms", inPlace := ["internal/bytealg.IndexByteString", "internal/bytealg.IndexString", "internal/abi.NoEscape"], unfollowed := true, recurses := true, named := ["bookplate/repertoire.spans", "internal/bytealg.MaxLen"], apart := false, laid := [("bookplate/repertoire.spans", laid_bookplate_repertoire_spans)], narrowed := true }
def NormalFormsUptoSaid : Prop := normalFormsUptoRow.holds Tryd.pinned (OpenSpec.upto normalFormsSpec)

/-- 'bookplatelaw05.NormalTwice', WHERE WHAT IT READS IS OF BULK AT MOST 1048576: true; the input reads as it did. -/
def normalTwiceUptoRow : OpenClaim := { program := "ytpgaebdaakllaaadoor", sum := "da3853966da3946f771d2069d2a7b5521fc0d705f6571709f97e91b1d501c3ec", func := "bookplate/bookplatelaw05.NormalTwice", spec := "normalTwice", inPlace := ["internal/bytealg.IndexByteString", "internal/bytealg.IndexString", "internal/abi.NoEscape"], unfollowed := true, recurses := true, named := ["bookplate/repertoire.spans", "internal/bytealg.MaxLen"], apart := false, laid := [("bookplate/repertoire.spans", laid_bookplate_repertoire_spans)], narrowed := true }
def NormalTwiceUptoSaid : Prop := normalTwiceUptoRow.holds Tryd.pinned (OpenSpec.upto normalTwiceSpec)

/-- 'bookplatelaw05.NormalEqual', WHERE WHAT IT READS IS OF BULK AT MOST 1048576: true; the input reads as it did. -/
def normalEqualUptoRow : OpenClaim := { program := "ytpgaebdaakllaaadoor", sum := "da3853966da3946f771d2069d2a7b5521fc0d705f6571709f97e91b1d501c3ec", func := "bookplate/bookplatelaw05.NormalEqual", spec := "normalEqual", inPlace := ["internal/bytealg.IndexByteString", "internal/bytealg.IndexString", "internal/abi.NoEscape"], unfollowed := true, recurses := true, named := ["bookplate/repertoire.spans", "internal/bytealg.MaxLen"], apart := false, laid := [("bookplate/repertoire.spans", laid_bookplate_repertoire_spans)], narrowed := true }
def NormalEqualUptoSaid : Prop := normalEqualUptoRow.holds Tryd.pinned (OpenSpec.upto normalEqualSpec)

/-- 'bookplatelaw05.NormalOrder', WHERE WHAT IT READS IS OF BULK AT MOST 1048576: true; the input reads as it did. -/
def normalOrderUptoRow : OpenClaim := { program := "ytpgaebdaakllaaadoor", sum := "da3853966da3946f771d2069d2a7b5521fc0d705f6571709f97e91b1d501c3ec", func := "bookplate/bookplatelaw05.NormalOrder", spec := "normalOrder", inPlace := ["internal/bytealg.IndexByteString", "internal/bytealg.IndexString", "internal/abi.NoEscape"], unfollowed := true, recurses := true, named := ["bookplate/repertoire.spans", "internal/bytealg.MaxLen"], apart := false, laid := [("bookplate/repertoire.spans", laid_bookplate_repertoire_spans)], narrowed := true }
def NormalOrderUptoSaid : Prop := normalOrderUptoRow.holds Tryd.pinned (OpenSpec.upto normalOrderSpec)

/-- 'bookplatelaw05.NormalJoins', WHERE WHAT IT READS IS OF BULK AT MOST 1048576: true; the input reads as it did. -/
def normalJoinsUptoRow : OpenClaim := { program := "ytpgaebdaakllaaadoor", sum := "da3853966da3946f771d2069d2a7b5521fc0d705f6571709f97e91b1d501c3ec", func := "bookplate/bookplatelaw05.NormalJoins", spec := "normalJoins", inPlace := ["internal/bytealg.IndexByteString", "internal/bytealg.IndexString", "internal/abi.NoEscape"], unfollowed := true, recurses := true, named := ["bookplate/repertoire.spans", "internal/bytealg.MaxLen"], apart := false, laid := [("bookplate/repertoire.spans", laid_bookplate_repertoire_spans)], narrowed := true }
def NormalJoinsUptoSaid : Prop := normalJoinsUptoRow.holds Tryd.pinned (OpenSpec.upto normalJoinsSpec)

/-- 'bookplatelaw05.NormalStrips', WHERE WHAT IT READS IS OF BULK AT MOST 1048576: true; the input reads as it did. -/
def normalStripsUptoRow : OpenClaim := { program := "ytpgaebdaakllaaadoor", sum := "da3853966da3946f771d2069d2a7b5521fc0d705f6571709f97e91b1d501c3ec", func := "bookplate/bookplatelaw05.NormalStrips", spec := "normalStrips", inPlace := ["internal/bytealg.IndexByteString", "internal/bytealg.IndexString", "internal/abi.NoEscape"], unfollowed := true, recurses := true, named := ["bookplate/repertoire.spans", "internal/bytealg.MaxLen"], apart := false, laid := [("bookplate/repertoire.spans", laid_bookplate_repertoire_spans)], narrowed := true }
def NormalStripsUptoSaid : Prop := normalStripsUptoRow.holds Tryd.pinned (OpenSpec.upto normalStripsSpec)

/-- 'bookplatelaw05.NormalLetters', WHERE WHAT IT READS IS OF BULK AT MOST 1048576: true; the input reads as it did. -/
def normalLettersUptoRow : OpenClaim := { program := "ytpgaebdaakllaaadoor", sum := "da3853966da3946f771d2069d2a7b5521fc0d705f6571709f97e91b1d501c3ec", func := "bookplate/bookplatelaw05.NormalLetters", spec := "normalLetters", inPlace := ["internal/bytealg.IndexByteString", "internal/bytealg.IndexString", "internal/abi.NoEscape"], unfollowed := true, recurses := true, named := ["bookplate/repertoire.spans", "internal/bytealg.MaxLen"], apart := false, laid := [("bookplate/repertoire.spans", laid_bookplate_repertoire_spans)], narrowed := true }
def NormalLettersUptoSaid : Prop := normalLettersUptoRow.holds Tryd.pinned (OpenSpec.upto normalLettersSpec)

end Rows
end Go.Proofs.YtpgaebdaakllaaaDoor
