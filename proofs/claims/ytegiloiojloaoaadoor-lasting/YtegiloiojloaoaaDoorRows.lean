/-
  NARROWER THAN 'FOR EVERY INPUT', by the rows' own cells (each row's printed sentence says how): Dressed: laid · Least: laid · Lasting: laid.
  DERIVED. THE GIVEN ROWS OF THIS SEAT. 3 by the template 'for every input the law returns true; each argument reads behind the call as it read before'; 0 by the template 'total and deterministic' (their statements: YtegiloiojloaoaaDoorTotals.lean).
  GIVEN WITH THE SEED: the statements are not yours to turn. If you find one false, say at which input.
  Laid BY PROGRAM, IN A SANDBOX (cutbox-rows.mjs): the forced cells as the released guide's own fill.sh prints them over the translation 1782cf6da5b73563… (all of the seat's roots in one cut). By AI agents, Wed Nov 11 2026. No macro, syntax, notation, axiom, sorry.
-/
import Derived.Test.YtegiloiojloaoaaDoorChecked
import GoSem.PinnedTables
import GoSem.Claim
import GoSem.ClaimJoined
import GoSem.ClaimMapViews
import Derived.JoinedTies
import Derived.KernelRfl
namespace Go.Proofs.YtegiloiojloaoaaDoor
/- THE CELL 'sum', in the pinned program and in every row, IS THE sha256 OF THE DUMP (.gsa) THAT YtegiloiojloaoaaDoorProg.lean LOADS. Nothing in Lean hashes anything: it is a label: what it is worth is what the hold of that sum in a sandbox is worth. -/
noncomputable def Tryd.pinned : Pinned := { name := "ytegiloiojloaoaadoor", sum := "1782cf6da5b7356358816b01d632321bc0ed388fd3caf845458e4884e9ad5b3b", checked := Tryd.checked }
namespace Rows
def none {H : Type} : Left H := { results := [], args := [] }

/- WHAT THE LISTED PACKAGE-LEVEL VARIABLES READ AS WHEN THE CALL BEGINS. Each datum BY PROGRAM (the guide's laid-datum.mjs) off the statement by which the dump's own 'gosem.cut.vars' lays the variable. In a bare row this is a premise. The card (YtegiloiojloaoaaDoorCards.lean) ties it to the program's text. -/
def laid_unicode_utf8_acceptRanges {H : Type} : DataW H := .agg [.agg [.lit (.int .u8 128), .lit (.int .u8 191)], .agg [.lit (.int .u8 160), .lit (.int .u8 191)], .agg [.lit (.int .u8 128), .lit (.int .u8 159)], .agg [.lit (.int .u8 144), .lit (.int .u8 191)], .agg [.lit (.int .u8 128), .lit (.int .u8 143)], .agg [.lit (.int .u8 0), .lit (.int .u8 0)], .agg [.lit (.int .u8 0), .lit (.int .u8 0)], .agg [.lit (.int .u8 0), .lit (.int .u8 0)], .agg [.lit (.int .u8 0), .lit (.int .u8 0)], .agg [.lit (.int .u8 0), .lit (.int .u8 0)], .agg [.lit (.int .u8 0), .lit (.int .u8 0)], .agg [.lit (.int .u8 0), .lit (.int .u8 0)], .agg [.lit (.int .u8 0), .lit (.int .u8 0)], .agg [.lit (.int .u8 0), .lit (.int .u8 0)], .agg [.lit (.int .u8 0), .lit (.int .u8 0)], .agg [.lit (.int .u8 0), .lit (.int .u8 0)]]
def laid_strider_code_roleMarks {H : Type} : DataW H := .agg [.lit (.string [100]), .lit (.string [35]), .lit (.string []), .lit (.string [])]
def laid_strider_code_fixedWords {H : Type} : DataW H := .agg [.agg [.lit (.string [110, 111, 112]), .lit (.int .i64 1), .lit (.int .i64 20081)], .agg [.lit (.string [114, 116, 115]), .lit (.int .i64 1), .lit (.int .i64 20085)], .agg [.lit (.string [109, 111, 118, 101]), .lit (.int .i64 2), .lit (.int .i64 12288)], .agg [.lit (.string [97, 100, 100]), .lit (.int .i64 2), .lit (.int .i64 53312)], .agg [.lit (.string [115, 117, 98]), .lit (.int .i64 2), .lit (.int .i64 36928)], .agg [.lit (.string [99, 109, 112]), .lit (.int .i64 2), .lit (.int .i64 45120)], .agg [.lit (.string [109, 111, 118, 101, 113]), .lit (.int .i64 3), .lit (.int .i64 28672)], .agg [.lit (.string [97, 100, 100, 105]), .lit (.int .i64 4), .lit (.int .i64 1600)], .agg [.lit (.string [100, 99, 46, 119]), .lit (.int .i64 7), .lit (.int .i64 0)], .agg [.lit (.string [100, 99, 46, 98]), .lit (.int .i64 8), .lit (.int .i64 0)], .agg [.lit (.string [100, 115]), .lit (.int .i64 9), .lit (.int .i64 0)], .agg [.lit (.string [97, 108, 105, 103, 110]), .lit (.int .i64 10), .lit (.int .i64 0)], .agg [.lit (.string [111, 114, 103]), .lit (.int .i64 11), .lit (.int .i64 0)]]
def laid_strider_code_jumpWords {H : Type} : DataW H := .agg [.lit (.string [98, 114, 97]), .lit (.string [98, 115, 114]), .lit (.string [98, 104, 105]), .lit (.string [98, 108, 115]), .lit (.string [98, 99, 99]), .lit (.string [98, 99, 115]), .lit (.string [98, 110, 101]), .lit (.string [98, 101, 113]), .lit (.string [98, 118, 99]), .lit (.string [98, 118, 115]), .lit (.string [98, 112, 108]), .lit (.string [98, 109, 105]), .lit (.string [98, 103, 101]), .lit (.string [98, 108, 116]), .lit (.string [98, 103, 116]), .lit (.string [98, 108, 101])]
def laid_strider_code_formEndings {H : Type} : DataW H := .agg [.lit (.string [46, 115]), .lit (.string [46, 119]), .lit (.string [46, 108])]
def laid_strider_code_farWords {H : Type} : DataW H := .agg [.agg [.lit (.string [106, 109, 112]), .lit (.int .i64 20216)], .agg [.lit (.string [106, 115, 114]), .lit (.int .i64 20152)]]
/-- One of Go's own tables, pinned by name: the form's constant. -/
def laid_unicode_utf8_first : DataW Unit := Go.Pinned.utf8First

/-- 'striderkeep.Dressed': WHATEVER THE INPUT: true; the input reads as it did. -/
def dressedSpec : ChangeSpec := { name := "dressed", fn := fun _ => fun
  | [d1, d2] => { results := [.lit (.bool true)], args := [d1, d2] }
  | _ => none }
def dressedRow : OpenClaim := { program := "ytegiloiojloaoaadoor", sum := "1782cf6da5b7356358816b01d632321bc0ed388fd3caf845458e4884e9ad5b3b", func := "strider/striderkeep.Dressed", spec := "dressed", inPlace := ["internal/bytealg.IndexByteString", "internal/bytealg.IndexString"], unfollowed := true, recurses := true, named := ["unicode/utf8.first", "unicode/utf8.acceptRanges", "strider/code.fixedWords", "strider/code.jumpWords", "strider/code.farWords", "strider/code.formEndings", "strider/code.roleMarks", "internal/bytealg.MaxLen"], apart := false, laid := [("unicode/utf8.acceptRanges", laid_unicode_utf8_acceptRanges), ("strider/code.roleMarks", laid_strider_code_roleMarks), ("strider/code.fixedWords", laid_strider_code_fixedWords), ("strider/code.jumpWords", laid_strider_code_jumpWords), ("strider/code.formEndings", laid_strider_code_formEndings), ("strider/code.farWords", laid_strider_code_farWords), ("unicode/utf8.first", laid_unicode_utf8_first)] }
def DressedSaid : Prop := dressedRow.holds Tryd.pinned (OpenSpec.ofChange dressedSpec)

/-- ITS FALSE NEIGHBOUR: 'it returns false'. Refute it at one input. -/
def dressedWrong : ChangeSpec := { name := "dressed", fn := fun _ => fun
  | [d1, d2] => { results := [.lit (.bool false)], args := [d1, d2] }
  | _ => none }
def DressedWrongFalsely : Prop := dressedRow.holds Tryd.pinned (OpenSpec.ofChange dressedWrong)

/-- 'striderkeep.Least': WHATEVER THE INPUT: true; the input reads as it did. -/
def leastSpec : ChangeSpec := { name := "least", fn := fun _ => fun
  | [d] => { results := [.lit (.bool true)], args := [d] }
  | _ => none }
def leastRow : OpenClaim := { program := "ytegiloiojloaoaadoor", sum := "1782cf6da5b7356358816b01d632321bc0ed388fd3caf845458e4884e9ad5b3b", func := "strider/striderkeep.Least", spec := "least", inPlace := ["internal/bytealg.IndexByteString", "internal/bytealg.IndexString"], unfollowed := true, recurses := true, named := ["unicode/utf8.first", "unicode/utf8.acceptRanges", "strider/code.fixedWords", "strider/code.jumpWords", "strider/code.farWords", "strider/code.formEndings", "strider/code.roleMarks", "internal/bytealg.MaxLen"], apart := false, laid := [("unicode/utf8.acceptRanges", laid_unicode_utf8_acceptRanges), ("strider/code.roleMarks", laid_strider_code_roleMarks), ("strider/code.fixedWords", laid_strider_code_fixedWords), ("strider/code.jumpWords", laid_strider_code_jumpWords), ("strider/code.formEndings", laid_strider_code_formEndings), ("strider/code.farWords", laid_strider_code_farWords), ("unicode/utf8.first", laid_unicode_utf8_first)] }
def LeastSaid : Prop := leastRow.holds Tryd.pinned (OpenSpec.ofChange leastSpec)

/-- ITS FALSE NEIGHBOUR: 'it returns false'. Refute it at one input. -/
def leastWrong : ChangeSpec := { name := "least", fn := fun _ => fun
  | [d] => { results := [.lit (.bool false)], args := [d] }
  | _ => none }
def LeastWrongFalsely : Prop := leastRow.holds Tryd.pinned (OpenSpec.ofChange leastWrong)

/-- 'striderkeep.Lasting': WHATEVER THE INPUT: true; the input reads as it did. -/
def lastingSpec : ChangeSpec := { name := "lasting", fn := fun _ => fun
  | [d1, d2] => { results := [.lit (.bool true)], args := [d1, d2] }
  | _ => none }
def lastingRow : OpenClaim := { program := "ytegiloiojloaoaadoor", sum := "1782cf6da5b7356358816b01d632321bc0ed388fd3caf845458e4884e9ad5b3b", func := "strider/striderkeep.Lasting", spec := "lasting", inPlace := ["internal/bytealg.IndexByteString", "internal/bytealg.IndexString"], unfollowed := true, recurses := true, named := ["unicode/utf8.first", "unicode/utf8.acceptRanges", "strider/code.fixedWords", "strider/code.jumpWords", "strider/code.farWords", "strider/code.formEndings", "strider/code.roleMarks", "internal/bytealg.MaxLen"], apart := false, laid := [("unicode/utf8.acceptRanges", laid_unicode_utf8_acceptRanges), ("strider/code.roleMarks", laid_strider_code_roleMarks), ("strider/code.fixedWords", laid_strider_code_fixedWords), ("strider/code.jumpWords", laid_strider_code_jumpWords), ("strider/code.formEndings", laid_strider_code_formEndings), ("strider/code.farWords", laid_strider_code_farWords), ("unicode/utf8.first", laid_unicode_utf8_first)] }
def LastingSaid : Prop := lastingRow.holds Tryd.pinned (OpenSpec.ofChange lastingSpec)

/-- ITS FALSE NEIGHBOUR: 'it returns false'. Refute it at one input. -/
def lastingWrong : ChangeSpec := { name := "lasting", fn := fun _ => fun
  | [d1, d2] => { results := [.lit (.bool false)], args := [d1, d2] }
  | _ => none }
def LastingWrongFalsely : Prop := lastingRow.holds Tryd.pinned (OpenSpec.ofChange lastingWrong)

/- THE SECOND FORM. 'bulk': how many values and letters a reading holds, each counted each time it is reached (what is shared counts as often as it is met; a slice's spare places count too). A statement '..UptoSaid' is the law's where the arguments, and the package variables that the reading takes, are together of bulk at most 1048576: NARROWER than '..Said'. Prove '..Said' where nothing that the law and all that it calls make is longer than what came in: it says more and counts as full. Else prove '..UptoSaid'. A law counts once. -/
mutual
def uptoBulk {H : Type} : DataW H → Nat
  | .lit (.string bytes) => bytes.length + 1
  | .lit _ => 1
  | .nil => 1
  | .ptr d => uptoBulk d + 1
  | .slice elems spare => uptoBulkAll elems + uptoBulkAll spare + 1
  | .agg parts => uptoBulkAll parts + 1
  | .iface _ d => uptoBulk d + 1
  | .map entries => uptoBulkEntries entries + 1
  | .held _ => 1
def uptoBulkAll {H : Type} : List (DataW H) → Nat
  | [] => 0
  | d :: r => uptoBulk d + uptoBulkAll r
def uptoBulkEntries {H : Type} : List (Lit × DataW H) → Nat
  | [] => 0
  | x :: r => uptoBulkEntry x + uptoBulkEntries r
def uptoBulkEntry {H : Type} : Lit × DataW H → Nat
  | (.string bytes, d) => bytes.length + uptoBulk d + 1
  | (_, d) => uptoBulk d + 1
 end
def uptoSmall : (H : Type) → List (DataW H) → Bool := fun _ ds => decide (uptoBulkAll ds ≤ 1048576)
def OpenSpec.upto (s : _root_.Go.ChangeSpec) : _root_.Go.OpenSpec := { _root_.Go.OpenSpec.ofChange s with cond := some uptoSmall }

/-- 'striderkeep.Dressed', WHERE WHAT IT READS IS OF BULK AT MOST 1048576: true; the input reads as it did. -/
def dressedUptoRow : OpenClaim := { program := "ytegiloiojloaoaadoor", sum := "1782cf6da5b7356358816b01d632321bc0ed388fd3caf845458e4884e9ad5b3b", func := "strider/striderkeep.Dressed", spec := "dressed", inPlace := ["internal/bytealg.IndexByteString", "internal/bytealg.IndexString"], unfollowed := true, recurses := true, named := ["unicode/utf8.first", "unicode/utf8.acceptRanges", "strider/code.fixedWords", "strider/code.jumpWords", "strider/code.farWords", "strider/code.formEndings", "strider/code.roleMarks", "internal/bytealg.MaxLen"], apart := false, laid := [("unicode/utf8.acceptRanges", laid_unicode_utf8_acceptRanges), ("strider/code.roleMarks", laid_strider_code_roleMarks), ("strider/code.fixedWords", laid_strider_code_fixedWords), ("strider/code.jumpWords", laid_strider_code_jumpWords), ("strider/code.formEndings", laid_strider_code_formEndings), ("strider/code.farWords", laid_strider_code_farWords), ("unicode/utf8.first", laid_unicode_utf8_first)], narrowed := true }
def DressedUptoSaid : Prop := dressedUptoRow.holds Tryd.pinned (OpenSpec.upto dressedSpec)

/-- 'striderkeep.Least', WHERE WHAT IT READS IS OF BULK AT MOST 1048576: true; the input reads as it did. -/
def leastUptoRow : OpenClaim := { program := "ytegiloiojloaoaadoor", sum := "1782cf6da5b7356358816b01d632321bc0ed388fd3caf845458e4884e9ad5b3b", func := "strider/striderkeep.Least", spec := "least", inPlace := ["internal/bytealg.IndexByteString", "internal/bytealg.IndexString"], unfollowed := true, recurses := true, named := ["unicode/utf8.first", "unicode/utf8.acceptRanges", "strider/code.fixedWords", "strider/code.jumpWords", "strider/code.farWords", "strider/code.formEndings", "strider/code.roleMarks", "internal/bytealg.MaxLen"], apart := false, laid := [("unicode/utf8.acceptRanges", laid_unicode_utf8_acceptRanges), ("strider/code.roleMarks", laid_strider_code_roleMarks), ("strider/code.fixedWords", laid_strider_code_fixedWords), ("strider/code.jumpWords", laid_strider_code_jumpWords), ("strider/code.formEndings", laid_strider_code_formEndings), ("strider/code.farWords", laid_strider_code_farWords), ("unicode/utf8.first", laid_unicode_utf8_first)], narrowed := true }
def LeastUptoSaid : Prop := leastUptoRow.holds Tryd.pinned (OpenSpec.upto leastSpec)

/-- 'striderkeep.Lasting', WHERE WHAT IT READS IS OF BULK AT MOST 1048576: true; the input reads as it did. -/
def lastingUptoRow : OpenClaim := { program := "ytegiloiojloaoaadoor", sum := "1782cf6da5b7356358816b01d632321bc0ed388fd3caf845458e4884e9ad5b3b", func := "strider/striderkeep.Lasting", spec := "lasting", inPlace := ["internal/bytealg.IndexByteString", "internal/bytealg.IndexString"], unfollowed := true, recurses := true, named := ["unicode/utf8.first", "unicode/utf8.acceptRanges", "strider/code.fixedWords", "strider/code.jumpWords", "strider/code.farWords", "strider/code.formEndings", "strider/code.roleMarks", "internal/bytealg.MaxLen"], apart := false, laid := [("unicode/utf8.acceptRanges", laid_unicode_utf8_acceptRanges), ("strider/code.roleMarks", laid_strider_code_roleMarks), ("strider/code.fixedWords", laid_strider_code_fixedWords), ("strider/code.jumpWords", laid_strider_code_jumpWords), ("strider/code.formEndings", laid_strider_code_formEndings), ("strider/code.farWords", laid_strider_code_farWords), ("unicode/utf8.first", laid_unicode_utf8_first)], narrowed := true }
def LastingUptoSaid : Prop := lastingUptoRow.holds Tryd.pinned (OpenSpec.upto lastingSpec)

end Rows
end Go.Proofs.YtegiloiojloaoaaDoor
