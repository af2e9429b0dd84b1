/-
  NARROWER THAN 'FOR EVERY INPUT', by the rows' own cells (each row's printed sentence says how): Assembles: laid · Lists: laid · Wrong: laid · Reaches: laid · Backs: laid · Round: laid · All: laid.
  DERIVED. THE GIVEN ROWS OF THIS SEAT. 7 by the template 'for every input the law returns true; each argument reads behind the call as it read before'; 0 by the template 'total and deterministic' (their statements: YtegiloiojloaoaaGreatDoorTotals.lean).
  GIVEN WITH THE SEED: the statements are not yours to turn. If you find one false, say at which input.
  Laid BY PROGRAM, IN A SANDBOX (cutbox-rows.mjs): the forced cells as the released guide's own fill.sh prints them over the translation 05469a7fe048b103… (all of the seat's roots in one cut). By AI agents, Wed Nov 11 2026. No macro, syntax, notation, axiom, sorry.
-/
import Derived.Test.YtegiloiojloaoaaGreatDoorChecked
import GoSem.PinnedTables
import GoSem.Claim
import GoSem.ClaimJoined
import GoSem.ClaimMapViews
import Derived.JoinedTies
import Derived.KernelRfl
namespace Go.Proofs.YtegiloiojloaoaaGreatDoor
/- THE CELL 'sum', in the pinned program and in every row, IS THE sha256 OF THE DUMP (.gsa) THAT YtegiloiojloaoaaGreatDoorProg.lean LOADS. Nothing in Lean hashes anything: it is a label: what it is worth is what the hold of that sum in a sandbox is worth. -/
noncomputable def Tryz.pinned : Pinned := { name := "ytegiloiojloaoaagreatdoor", sum := "05469a7fe048b103b69e2abe3856fed0c4a62d14c917f721e1b3b3c50b55db74", checked := Tryz.checked }
namespace Rows
def none {H : Type} : Left H := { results := [], args := [] }

/- WHAT THE LISTED PACKAGE-LEVEL VARIABLES READ AS WHEN THE CALL BEGINS. Each datum BY PROGRAM (the guide's laid-datum.mjs) off the statement by which the dump's own 'gosem.cut.vars' lays the variable. In a bare row this is a premise. The card (YtegiloiojloaoaaGreatDoorCards.lean) ties it to the program's text. -/
def laid_unicode_utf8_acceptRanges {H : Type} : DataW H := .agg [.agg [.lit (.int .u8 128), .lit (.int .u8 191)], .agg [.lit (.int .u8 160), .lit (.int .u8 191)], .agg [.lit (.int .u8 128), .lit (.int .u8 159)], .agg [.lit (.int .u8 144), .lit (.int .u8 191)], .agg [.lit (.int .u8 128), .lit (.int .u8 143)], .agg [.lit (.int .u8 0), .lit (.int .u8 0)], .agg [.lit (.int .u8 0), .lit (.int .u8 0)], .agg [.lit (.int .u8 0), .lit (.int .u8 0)], .agg [.lit (.int .u8 0), .lit (.int .u8 0)], .agg [.lit (.int .u8 0), .lit (.int .u8 0)], .agg [.lit (.int .u8 0), .lit (.int .u8 0)], .agg [.lit (.int .u8 0), .lit (.int .u8 0)], .agg [.lit (.int .u8 0), .lit (.int .u8 0)], .agg [.lit (.int .u8 0), .lit (.int .u8 0)], .agg [.lit (.int .u8 0), .lit (.int .u8 0)], .agg [.lit (.int .u8 0), .lit (.int .u8 0)]]
def laid_strider_code_roleMarks {H : Type} : DataW H := .agg [.lit (.string [100]), .lit (.string [35]), .lit (.string []), .lit (.string [])]
def laid_strider_code_fixedWords {H : Type} : DataW H := .agg [.agg [.lit (.string [110, 111, 112]), .lit (.int .i64 1), .lit (.int .i64 20081)], .agg [.lit (.string [114, 116, 115]), .lit (.int .i64 1), .lit (.int .i64 20085)], .agg [.lit (.string [109, 111, 118, 101]), .lit (.int .i64 2), .lit (.int .i64 12288)], .agg [.lit (.string [97, 100, 100]), .lit (.int .i64 2), .lit (.int .i64 53312)], .agg [.lit (.string [115, 117, 98]), .lit (.int .i64 2), .lit (.int .i64 36928)], .agg [.lit (.string [99, 109, 112]), .lit (.int .i64 2), .lit (.int .i64 45120)], .agg [.lit (.string [109, 111, 118, 101, 113]), .lit (.int .i64 3), .lit (.int .i64 28672)], .agg [.lit (.string [97, 100, 100, 105]), .lit (.int .i64 4), .lit (.int .i64 1600)], .agg [.lit (.string [100, 99, 46, 119]), .lit (.int .i64 7), .lit (.int .i64 0)], .agg [.lit (.string [100, 99, 46, 98]), .lit (.int .i64 8), .lit (.int .i64 0)], .agg [.lit (.string [100, 115]), .lit (.int .i64 9), .lit (.int .i64 0)], .agg [.lit (.string [97, 108, 105, 103, 110]), .lit (.int .i64 10), .lit (.int .i64 0)], .agg [.lit (.string [111, 114, 103]), .lit (.int .i64 11), .lit (.int .i64 0)]]
def laid_strider_code_jumpWords {H : Type} : DataW H := .agg [.lit (.string [98, 114, 97]), .lit (.string [98, 115, 114]), .lit (.string [98, 104, 105]), .lit (.string [98, 108, 115]), .lit (.string [98, 99, 99]), .lit (.string [98, 99, 115]), .lit (.string [98, 110, 101]), .lit (.string [98, 101, 113]), .lit (.string [98, 118, 99]), .lit (.string [98, 118, 115]), .lit (.string [98, 112, 108]), .lit (.string [98, 109, 105]), .lit (.string [98, 103, 101]), .lit (.string [98, 108, 116]), .lit (.string [98, 103, 116]), .lit (.string [98, 108, 101])]
def laid_strider_code_formEndings {H : Type} : DataW H := .agg [.lit (.string [46, 115]), .lit (.string [46, 119]), .lit (.string [46, 108])]
def laid_strider_code_farWords {H : Type} : DataW H := .agg [.agg [.lit (.string [106, 109, 112]), .lit (.int .i64 20216)], .agg [.lit (.string [106, 115, 114]), .lit (.int .i64 20152)]]
/-- One of Go's own tables, pinned by name: the form's constant. -/
def laid_unicode_utf8_first : DataW Unit := Go.Pinned.utf8First
def laid_math_bits_deBruijn32tab {H : Type} : DataW H := .agg [.lit (.int .u8 0), .lit (.int .u8 1), .lit (.int .u8 28), .lit (.int .u8 2), .lit (.int .u8 29), .lit (.int .u8 14), .lit (.int .u8 24), .lit (.int .u8 3), .lit (.int .u8 30), .lit (.int .u8 22), .lit (.int .u8 20), .lit (.int .u8 15), .lit (.int .u8 25), .lit (.int .u8 17), .lit (.int .u8 4), .lit (.int .u8 8), .lit (.int .u8 31), .lit (.int .u8 27), .lit (.int .u8 13), .lit (.int .u8 23), .lit (.int .u8 21), .lit (.int .u8 19), .lit (.int .u8 16), .lit (.int .u8 7), .lit (.int .u8 26), .lit (.int .u8 12), .lit (.int .u8 18), .lit (.int .u8 6), .lit (.int .u8 11), .lit (.int .u8 5), .lit (.int .u8 10), .lit (.int .u8 9)]
def laid_math_bits_deBruijn64tab {H : Type} : DataW H := .agg [.lit (.int .u8 0), .lit (.int .u8 1), .lit (.int .u8 56), .lit (.int .u8 2), .lit (.int .u8 57), .lit (.int .u8 49), .lit (.int .u8 28), .lit (.int .u8 3), .lit (.int .u8 61), .lit (.int .u8 58), .lit (.int .u8 42), .lit (.int .u8 50), .lit (.int .u8 38), .lit (.int .u8 29), .lit (.int .u8 17), .lit (.int .u8 4), .lit (.int .u8 62), .lit (.int .u8 47), .lit (.int .u8 59), .lit (.int .u8 36), .lit (.int .u8 45), .lit (.int .u8 43), .lit (.int .u8 51), .lit (.int .u8 22), .lit (.int .u8 53), .lit (.int .u8 39), .lit (.int .u8 33), .lit (.int .u8 30), .lit (.int .u8 24), .lit (.int .u8 18), .lit (.int .u8 12), .lit (.int .u8 5), .lit (.int .u8 63), .lit (.int .u8 55), .lit (.int .u8 48), .lit (.int .u8 27), .lit (.int .u8 60), .lit (.int .u8 41), .lit (.int .u8 37), .lit (.int .u8 16), .lit (.int .u8 46), .lit (.int .u8 35), .lit (.int .u8 44), .lit (.int .u8 21), .lit (.int .u8 52), .lit (.int .u8 32), .lit (.int .u8 23), .lit (.int .u8 11), .lit (.int .u8 54), .lit (.int .u8 26), .lit (.int .u8 40), .lit (.int .u8 15), .lit (.int .u8 34), .lit (.int .u8 20), .lit (.int .u8 31), .lit (.int .u8 10), .lit (.int .u8 25), .lit (.int .u8 14), .lit (.int .u8 19), .lit (.int .u8 9), .lit (.int .u8 13), .lit (.int .u8 8), .lit (.int .u8 7), .lit (.int .u8 6)]
def laid_internal_strconv_uint64pow10 {H : Type} : DataW H := .agg [.lit (.int .u64 1), .lit (.int .u64 10), .lit (.int .u64 100), .lit (.int .u64 1000), .lit (.int .u64 10000), .lit (.int .u64 100000), .lit (.int .u64 1000000), .lit (.int .u64 10000000), .lit (.int .u64 100000000), .lit (.int .u64 1000000000), .lit (.int .u64 10000000000), .lit (.int .u64 100000000000), .lit (.int .u64 1000000000000), .lit (.int .u64 10000000000000), .lit (.int .u64 100000000000000), .lit (.int .u64 1000000000000000), .lit (.int .u64 10000000000000000), .lit (.int .u64 100000000000000000), .lit (.int .u64 1000000000000000000), .lit (.int .u64 10000000000000000000)]

/-- 'striderlaw.Assembles': WHATEVER THE INPUT: true; the input reads as it did. -/
def assemblesSpec : ChangeSpec := { name := "assembles", fn := fun _ => fun
  | [d] => { results := [.lit (.bool true)], args := [d] }
  | _ => none }
def assemblesRow : OpenClaim := { program := "ytegiloiojloaoaagreatdoor", sum := "05469a7fe048b103b69e2abe3856fed0c4a62d14c917f721e1b3b3c50b55db74", func := "strider/striderlaw.Assembles", spec := "assembles", inPlace := ["internal/bytealg.IndexByteString", "internal/bytealg.IndexString"], unfollowed := true, recurses := true, named := ["unicode/utf8.first", "unicode/utf8.acceptRanges", "strider/code.fixedWords", "strider/code.jumpWords", "strider/code.farWords", "strider/code.formEndings", "strider/code.roleMarks", "internal/bytealg.MaxLen"], apart := false, laid := [("unicode/utf8.acceptRanges", laid_unicode_utf8_acceptRanges), ("strider/code.roleMarks", laid_strider_code_roleMarks), ("strider/code.fixedWords", laid_strider_code_fixedWords), ("strider/code.jumpWords", laid_strider_code_jumpWords), ("strider/code.formEndings", laid_strider_code_formEndings), ("strider/code.farWords", laid_strider_code_farWords), ("unicode/utf8.first", laid_unicode_utf8_first)] }
def AssemblesSaid : Prop := assemblesRow.holds Tryz.pinned (OpenSpec.ofChange assemblesSpec)

/-- ITS FALSE NEIGHBOUR: 'it returns false'. Refute it at one input. -/
def assemblesWrong : ChangeSpec := { name := "assembles", fn := fun _ => fun
  | [d] => { results := [.lit (.bool false)], args := [d] }
  | _ => none }
def AssemblesWrongFalsely : Prop := assemblesRow.holds Tryz.pinned (OpenSpec.ofChange assemblesWrong)

/-- 'striderlaw.Lists': WHATEVER THE INPUT: true; the input reads as it did. -/
def listsSpec : ChangeSpec := { name := "lists", fn := fun _ => fun
  | [d1, d2, d3] => { results := [.lit (.bool true)], args := [d1, d2, d3] }
  | _ => none }
def listsRow : OpenClaim := { program := "ytegiloiojloaoaagreatdoor", sum := "05469a7fe048b103b69e2abe3856fed0c4a62d14c917f721e1b3b3c50b55db74", func := "strider/striderlaw.Lists", spec := "lists", inPlace := ["internal/bytealg.IndexByteString", "internal/bytealg.IndexString"], unfollowed := true, recurses := true, named := ["unicode/utf8.first", "unicode/utf8.acceptRanges", "strider/code.fixedWords", "strider/code.jumpWords", "strider/code.farWords", "strider/code.formEndings", "strider/code.roleMarks", "internal/bytealg.MaxLen"], apart := false, laid := [("unicode/utf8.acceptRanges", laid_unicode_utf8_acceptRanges), ("strider/code.roleMarks", laid_strider_code_roleMarks), ("strider/code.fixedWords", laid_strider_code_fixedWords), ("strider/code.jumpWords", laid_strider_code_jumpWords), ("strider/code.formEndings", laid_strider_code_formEndings), ("strider/code.farWords", laid_strider_code_farWords), ("unicode/utf8.first", laid_unicode_utf8_first)] }
def ListsSaid : Prop := listsRow.holds Tryz.pinned (OpenSpec.ofChange listsSpec)

/-- ITS FALSE NEIGHBOUR: 'it returns false'. Refute it at one input. -/
def listsWrong : ChangeSpec := { name := "lists", fn := fun _ => fun
  | [d1, d2, d3] => { results := [.lit (.bool false)], args := [d1, d2, d3] }
  | _ => none }
def ListsWrongFalsely : Prop := listsRow.holds Tryz.pinned (OpenSpec.ofChange listsWrong)

/-- 'striderkeep.Wrong': WHATEVER THE INPUT: true; the input reads as it did. -/
def wrongSpec : ChangeSpec := { name := "wrong", fn := fun _ => fun
  | [d1, d2, d3] => { results := [.lit (.bool true)], args := [d1, d2, d3] }
  | _ => none }
def wrongRow : OpenClaim := { program := "ytegiloiojloaoaagreatdoor", sum := "05469a7fe048b103b69e2abe3856fed0c4a62d14c917f721e1b3b3c50b55db74", func := "strider/striderkeep.Wrong", spec := "wrong", inPlace := ["internal/bytealg.IndexByteString", "internal/bytealg.IndexString"], unfollowed := true, recurses := true, named := ["unicode/utf8.first", "unicode/utf8.acceptRanges", "strider/code.fixedWords", "strider/code.jumpWords", "strider/code.farWords", "strider/code.formEndings", "strider/code.roleMarks", "internal/bytealg.MaxLen"], apart := false, laid := [("unicode/utf8.acceptRanges", laid_unicode_utf8_acceptRanges), ("strider/code.roleMarks", laid_strider_code_roleMarks), ("strider/code.fixedWords", laid_strider_code_fixedWords), ("strider/code.jumpWords", laid_strider_code_jumpWords), ("strider/code.formEndings", laid_strider_code_formEndings), ("strider/code.farWords", laid_strider_code_farWords), ("unicode/utf8.first", laid_unicode_utf8_first)] }
def WrongSaid : Prop := wrongRow.holds Tryz.pinned (OpenSpec.ofChange wrongSpec)

/-- ITS FALSE NEIGHBOUR: 'it returns false'. Refute it at one input. -/
def wrongWrong : ChangeSpec := { name := "wrong", fn := fun _ => fun
  | [d1, d2, d3] => { results := [.lit (.bool false)], args := [d1, d2, d3] }
  | _ => none }
def WrongWrongFalsely : Prop := wrongRow.holds Tryz.pinned (OpenSpec.ofChange wrongWrong)

/-- 'striderkeep.Reaches': WHATEVER THE INPUT: true; the input reads as it did. -/
def reachesSpec : ChangeSpec := { name := "reaches", fn := fun _ => fun
  | [d] => { results := [.lit (.bool true)], args := [d] }
  | _ => none }
def reachesRow : OpenClaim := { program := "ytegiloiojloaoaagreatdoor", sum := "05469a7fe048b103b69e2abe3856fed0c4a62d14c917f721e1b3b3c50b55db74", func := "strider/striderkeep.Reaches", spec := "reaches", inPlace := ["internal/bytealg.IndexByteString", "internal/bytealg.IndexString"], unfollowed := true, recurses := true, named := ["unicode/utf8.first", "unicode/utf8.acceptRanges", "strider/code.fixedWords", "strider/code.jumpWords", "strider/code.farWords", "strider/code.formEndings", "strider/code.roleMarks", "internal/bytealg.MaxLen"], apart := false, laid := [("unicode/utf8.acceptRanges", laid_unicode_utf8_acceptRanges), ("strider/code.roleMarks", laid_strider_code_roleMarks), ("strider/code.fixedWords", laid_strider_code_fixedWords), ("strider/code.jumpWords", laid_strider_code_jumpWords), ("strider/code.formEndings", laid_strider_code_formEndings), ("strider/code.farWords", laid_strider_code_farWords), ("unicode/utf8.first", laid_unicode_utf8_first)] }
def ReachesSaid : Prop := reachesRow.holds Tryz.pinned (OpenSpec.ofChange reachesSpec)

/-- ITS FALSE NEIGHBOUR: 'it returns false'. Refute it at one input. -/
def reachesWrong : ChangeSpec := { name := "reaches", fn := fun _ => fun
  | [d] => { results := [.lit (.bool false)], args := [d] }
  | _ => none }
def ReachesWrongFalsely : Prop := reachesRow.holds Tryz.pinned (OpenSpec.ofChange reachesWrong)

/-- 'striderlaw.Backs': WHATEVER THE INPUT: true; the input reads as it did. -/
def backsSpec : ChangeSpec := { name := "backs", fn := fun _ => fun
  | [d1, d2] => { results := [.lit (.bool true)], args := [d1, d2] }
  | _ => none }
def backsRow : OpenClaim := { program := "ytegiloiojloaoaagreatdoor", sum := "05469a7fe048b103b69e2abe3856fed0c4a62d14c917f721e1b3b3c50b55db74", func := "strider/striderlaw.Backs", spec := "backs", inPlace := ["internal/abi.NoEscape"], unfollowed := true, recurses := true, named := ["strider/code.fixedWords", "strider/code.jumpWords", "strider/code.farWords", "strider/code.formEndings", "strider/code.roleMarks", "internal/strconv.uint64pow10", "math/bits.deBruijn32tab", "math/bits.deBruijn64tab"], apart := false, laid := [("math/bits.deBruijn32tab", laid_math_bits_deBruijn32tab), ("math/bits.deBruijn64tab", laid_math_bits_deBruijn64tab), ("internal/strconv.uint64pow10", laid_internal_strconv_uint64pow10), ("strider/code.roleMarks", laid_strider_code_roleMarks), ("strider/code.fixedWords", laid_strider_code_fixedWords), ("strider/code.jumpWords", laid_strider_code_jumpWords), ("strider/code.formEndings", laid_strider_code_formEndings), ("strider/code.farWords", laid_strider_code_farWords)] }
def BacksSaid : Prop := backsRow.holds Tryz.pinned (OpenSpec.ofChange backsSpec)

/-- ITS FALSE NEIGHBOUR: 'it returns false'. Refute it at one input. -/
def backsWrong : ChangeSpec := { name := "backs", fn := fun _ => fun
  | [d1, d2] => { results := [.lit (.bool false)], args := [d1, d2] }
  | _ => none }
def BacksWrongFalsely : Prop := backsRow.holds Tryz.pinned (OpenSpec.ofChange backsWrong)

/-- 'striderkeep.Round': WHATEVER THE INPUT: true; the input reads as it did. -/
def roundSpec : ChangeSpec := { name := "round", fn := fun _ => fun
  | [d1, d2, d3] => { results := [.lit (.bool true)], args := [d1, d2, d3] }
  | _ => none }
def roundRow : OpenClaim := { program := "ytegiloiojloaoaagreatdoor", sum := "05469a7fe048b103b69e2abe3856fed0c4a62d14c917f721e1b3b3c50b55db74", func := "strider/striderkeep.Round", spec := "round", inPlace := ["internal/bytealg.IndexByteString", "internal/bytealg.IndexString", "internal/abi.NoEscape"], unfollowed := true, recurses := true, named := ["unicode/utf8.first", "unicode/utf8.acceptRanges", "strider/code.fixedWords", "strider/code.jumpWords", "strider/code.farWords", "strider/code.formEndings", "strider/code.roleMarks", "internal/strconv.uint64pow10", "math/bits.deBruijn32tab", "math/bits.deBruijn64tab", "internal/bytealg.MaxLen"], apart := false, laid := [("math/bits.deBruijn32tab", laid_math_bits_deBruijn32tab), ("math/bits.deBruijn64tab", laid_math_bits_deBruijn64tab), ("internal/strconv.uint64pow10", laid_internal_strconv_uint64pow10), ("unicode/utf8.acceptRanges", laid_unicode_utf8_acceptRanges), ("strider/code.roleMarks", laid_strider_code_roleMarks), ("strider/code.fixedWords", laid_strider_code_fixedWords), ("strider/code.jumpWords", laid_strider_code_jumpWords), ("strider/code.formEndings", laid_strider_code_formEndings), ("strider/code.farWords", laid_strider_code_farWords), ("unicode/utf8.first", laid_unicode_utf8_first)] }
def RoundSaid : Prop := roundRow.holds Tryz.pinned (OpenSpec.ofChange roundSpec)

/-- ITS FALSE NEIGHBOUR: 'it returns false'. Refute it at one input. -/
def roundWrong : ChangeSpec := { name := "round", fn := fun _ => fun
  | [d1, d2, d3] => { results := [.lit (.bool false)], args := [d1, d2, d3] }
  | _ => none }
def RoundWrongFalsely : Prop := roundRow.holds Tryz.pinned (OpenSpec.ofChange roundWrong)

/-- 'striderlaw.All': WHATEVER THE INPUT: true; the input reads as it did. -/
def allSpec : ChangeSpec := { name := "all", fn := fun _ => fun
  | [d1, d2] => { results := [.lit (.bool true)], args := [d1, d2] }
  | _ => none }
def allRow : OpenClaim := { program := "ytegiloiojloaoaagreatdoor", sum := "05469a7fe048b103b69e2abe3856fed0c4a62d14c917f721e1b3b3c50b55db74", func := "strider/striderlaw.All", spec := "all", inPlace := ["internal/bytealg.IndexByteString", "internal/bytealg.IndexString", "internal/abi.NoEscape"], unfollowed := true, recurses := true, named := ["unicode/utf8.first", "unicode/utf8.acceptRanges", "strider/code.fixedWords", "strider/code.jumpWords", "strider/code.farWords", "strider/code.formEndings", "strider/code.roleMarks", "internal/strconv.uint64pow10", "math/bits.deBruijn32tab", "math/bits.deBruijn64tab", "internal/bytealg.MaxLen"], apart := false, laid := [("math/bits.deBruijn32tab", laid_math_bits_deBruijn32tab), ("math/bits.deBruijn64tab", laid_math_bits_deBruijn64tab), ("internal/strconv.uint64pow10", laid_internal_strconv_uint64pow10), ("unicode/utf8.acceptRanges", laid_unicode_utf8_acceptRanges), ("strider/code.roleMarks", laid_strider_code_roleMarks), ("strider/code.fixedWords", laid_strider_code_fixedWords), ("strider/code.jumpWords", laid_strider_code_jumpWords), ("strider/code.formEndings", laid_strider_code_formEndings), ("strider/code.farWords", laid_strider_code_farWords), ("unicode/utf8.first", laid_unicode_utf8_first)] }
def AllSaid : Prop := allRow.holds Tryz.pinned (OpenSpec.ofChange allSpec)

/-- ITS FALSE NEIGHBOUR: 'it returns false'. Refute it at one input. -/
def allWrong : ChangeSpec := { name := "all", fn := fun _ => fun
  | [d1, d2] => { results := [.lit (.bool false)], args := [d1, d2] }
  | _ => none }
def AllWrongFalsely : Prop := allRow.holds Tryz.pinned (OpenSpec.ofChange allWrong)

/- THE SECOND FORM. 'bulk': how many values and letters a reading holds, each counted each time it is reached (what is shared counts as often as it is met; a slice's spare places count too). A statement '..UptoSaid' is the law's where the arguments, and the package variables that the reading takes, are together of bulk at most 1048576: NARROWER than '..Said'. Prove '..Said' where nothing that the law and all that it calls make is longer than what came in: it says more and counts as full. Else prove '..UptoSaid'. A law counts once. -/
mutual
def uptoBulk {H : Type} : DataW H → Nat
  | .lit (.string bytes) => bytes.length + 1
  | .lit _ => 1
  | .nil => 1
  | .ptr d => uptoBulk d + 1
  | .slice elems spare => uptoBulkAll elems + uptoBulkAll spare + 1
  | .agg parts => uptoBulkAll parts + 1
  | .iface _ d => uptoBulk d + 1
  | .map entries => uptoBulkEntries entries + 1
  | .held _ => 1
def uptoBulkAll {H : Type} : List (DataW H) → Nat
  | [] => 0
  | d :: r => uptoBulk d + uptoBulkAll r
def uptoBulkEntries {H : Type} : List (Lit × DataW H) → Nat
  | [] => 0
  | x :: r => uptoBulkEntry x + uptoBulkEntries r
def uptoBulkEntry {H : Type} : Lit × DataW H → Nat
  | (.string bytes, d) => bytes.length + uptoBulk d + 1
  | (_, d) => uptoBulk d + 1
 end
def uptoSmall : (H : Type) → List (DataW H) → Bool := fun _ ds => decide (uptoBulkAll ds ≤ 1048576)
def OpenSpec.upto (s : _root_.Go.ChangeSpec) : _root_.Go.OpenSpec := { _root_.Go.OpenSpec.ofChange s with cond := some uptoSmall }

/-- 'striderlaw.Assembles', WHERE WHAT IT READS IS OF BULK AT MOST 1048576: true; the input reads as it did. -/
def assemblesUptoRow : OpenClaim := { program := "ytegiloiojloaoaagreatdoor", sum := "05469a7fe048b103b69e2abe3856fed0c4a62d14c917f721e1b3b3c50b55db74", func := "strider/striderlaw.Assembles", spec := "assembles", inPlace := ["internal/bytealg.IndexByteString", "internal/bytealg.IndexString"], unfollowed := true, recurses := true, named := ["unicode/utf8.first", "unicode/utf8.acceptRanges", "strider/code.fixedWords", "strider/code.jumpWords", "strider/code.farWords", "strider/code.formEndings", "strider/code.roleMarks", "internal/bytealg.MaxLen"], apart := false, laid := [("unicode/utf8.acceptRanges", laid_unicode_utf8_acceptRanges), ("strider/code.roleMarks", laid_strider_code_roleMarks), ("strider/code.fixedWords", laid_strider_code_fixedWords), ("strider/code.jumpWords", laid_strider_code_jumpWords), ("strider/code.formEndings", laid_strider_code_formEndings), ("strider/code.farWords", laid_strider_code_farWords), ("unicode/utf8.first", laid_unicode_utf8_first)], narrowed := true }
def AssemblesUptoSaid : Prop := assemblesUptoRow.holds Tryz.pinned (OpenSpec.upto assemblesSpec)

/-- 'striderlaw.Lists', WHERE WHAT IT READS IS OF BULK AT MOST 1048576: true; the input reads as it did. -/
def listsUptoRow : OpenClaim := { program := "ytegiloiojloaoaagreatdoor", sum := "05469a7fe048b103b69e2abe3856fed0c4a62d14c917f721e1b3b3c50b55db74", func := "strider/striderlaw.Lists", spec := "lists", inPlace := ["internal/bytealg.IndexByteString", "internal/bytealg.IndexString"], unfollowed := true, recurses := true, named := ["unicode/utf8.first", "unicode/utf8.acceptRanges", "strider/code.fixedWords", "strider/code.jumpWords", "strider/code.farWords", "strider/code.formEndings", "strider/code.roleMarks", "internal/bytealg.MaxLen"], apart := false, laid := [("unicode/utf8.acceptRanges", laid_unicode_utf8_acceptRanges), ("strider/code.roleMarks", laid_strider_code_roleMarks), ("strider/code.fixedWords", laid_strider_code_fixedWords), ("strider/code.jumpWords", laid_strider_code_jumpWords), ("strider/code.formEndings", laid_strider_code_formEndings), ("strider/code.farWords", laid_strider_code_farWords), ("unicode/utf8.first", laid_unicode_utf8_first)], narrowed := true }
def ListsUptoSaid : Prop := listsUptoRow.holds Tryz.pinned (OpenSpec.upto listsSpec)

/-- 'striderkeep.Wrong', WHERE WHAT IT READS IS OF BULK AT MOST 1048576: true; the input reads as it did. -/
def wrongUptoRow : OpenClaim := { program := "ytegiloiojloaoaagreatdoor", sum := "05469a7fe048b103b69e2abe3856fed0c4a62d14c917f721e1b3b3c50b55db74", func := "strider/striderkeep.Wrong", spec := "wrong", inPlace := ["internal/bytealg.IndexByteString", "internal/bytealg.IndexString"], unfollowed := true, recurses := true, named := ["unicode/utf8.first", "unicode/utf8.acceptRanges", "strider/code.fixedWords", "strider/code.jumpWords", "strider/code.farWords", "strider/code.formEndings", "strider/code.roleMarks", "internal/bytealg.MaxLen"], apart := false, laid := [("unicode/utf8.acceptRanges", laid_unicode_utf8_acceptRanges), ("strider/code.roleMarks", laid_strider_code_roleMarks), ("strider/code.fixedWords", laid_strider_code_fixedWords), ("strider/code.jumpWords", laid_strider_code_jumpWords), ("strider/code.formEndings", laid_strider_code_formEndings), ("strider/code.farWords", laid_strider_code_farWords), ("unicode/utf8.first", laid_unicode_utf8_first)], narrowed := true }
def WrongUptoSaid : Prop := wrongUptoRow.holds Tryz.pinned (OpenSpec.upto wrongSpec)

/-- 'striderkeep.Reaches', WHERE WHAT IT READS IS OF BULK AT MOST 1048576: true; the input reads as it did. -/
def reachesUptoRow : OpenClaim := { program := "ytegiloiojloaoaagreatdoor", sum := "05469a7fe048b103b69e2abe3856fed0c4a62d14c917f721e1b3b3c50b55db74", func := "strider/striderkeep.Reaches", spec := "reaches", inPlace := ["internal/bytealg.IndexByteString", "internal/bytealg.IndexString"], unfollowed := true, recurses := true, named := ["unicode/utf8.first", "unicode/utf8.acceptRanges", "strider/code.fixedWords", "strider/code.jumpWords", "strider/code.farWords", "strider/code.formEndings", "strider/code.roleMarks", "internal/bytealg.MaxLen"], apart := false, laid := [("unicode/utf8.acceptRanges", laid_unicode_utf8_acceptRanges), ("strider/code.roleMarks", laid_strider_code_roleMarks), ("strider/code.fixedWords", laid_strider_code_fixedWords), ("strider/code.jumpWords", laid_strider_code_jumpWords), ("strider/code.formEndings", laid_strider_code_formEndings), ("strider/code.farWords", laid_strider_code_farWords), ("unicode/utf8.first", laid_unicode_utf8_first)], narrowed := true }
def ReachesUptoSaid : Prop := reachesUptoRow.holds Tryz.pinned (OpenSpec.upto reachesSpec)

/-- 'striderlaw.Backs', WHERE WHAT IT READS IS OF BULK AT MOST 1048576: true; the input reads as it did. -/
def backsUptoRow : OpenClaim := { program := "ytegiloiojloaoaagreatdoor", sum := "05469a7fe048b103b69e2abe3856fed0c4a62d14c917f721e1b3b3c50b55db74", func := "strider/striderlaw.Backs", spec := "backs", inPlace := ["internal/abi.NoEscape"], unfollowed := true, recurses := true, named := ["strider/code.fixedWords", "strider/code.jumpWords", "strider/code.farWords", "strider/code.formEndings", "strider/code.roleMarks", "internal/strconv.uint64pow10", "math/bits.deBruijn32tab", "math/bits.deBruijn64tab"], apart := false, laid := [("math/bits.deBruijn32tab", laid_math_bits_deBruijn32tab), ("math/bits.deBruijn64tab", laid_math_bits_deBruijn64tab), ("internal/strconv.uint64pow10", laid_internal_strconv_uint64pow10), ("strider/code.roleMarks", laid_strider_code_roleMarks), ("strider/code.fixedWords", laid_strider_code_fixedWords), ("strider/code.jumpWords", laid_strider_code_jumpWords), ("strider/code.formEndings", laid_strider_code_formEndings), ("strider/code.farWords", laid_strider_code_farWords)], narrowed := true }
def BacksUptoSaid : Prop := backsUptoRow.holds Tryz.pinned (OpenSpec.upto backsSpec)

/-- 'striderkeep.Round', WHERE WHAT IT READS IS OF BULK AT MOST 1048576: true; the input reads as it did. -/
def roundUptoRow : OpenClaim := { program := "ytegiloiojloaoaagreatdoor", sum := "05469a7fe048b103b69e2abe3856fed0c4a62d14c917f721e1b3b3c50b55db74", func := "strider/striderkeep.Round", spec := "round", inPlace := ["internal/bytealg.IndexByteString", "internal/bytealg.IndexString", "internal/abi.NoEscape"], unfollowed := true, recurses := true, named := ["unicode/utf8.first", "unicode/utf8.acceptRanges", "strider/code.fixedWords", "strider/code.jumpWords", "strider/code.farWords", "strider/code.formEndings", "strider/code.roleMarks", "internal/strconv.uint64pow10", "math/bits.deBruijn32tab", "math/bits.deBruijn64tab", "internal/bytealg.MaxLen"], apart := false, laid := [("math/bits.deBruijn32tab", laid_math_bits_deBruijn32tab), ("math/bits.deBruijn64tab", laid_math_bits_deBruijn64tab), ("internal/strconv.uint64pow10", laid_internal_strconv_uint64pow10), ("unicode/utf8.acceptRanges", laid_unicode_utf8_acceptRanges), ("strider/code.roleMarks", laid_strider_code_roleMarks), ("strider/code.fixedWords", laid_strider_code_fixedWords), ("strider/code.jumpWords", laid_strider_code_jumpWords), ("strider/code.formEndings", laid_strider_code_formEndings), ("strider/code.farWords", laid_strider_code_farWords), ("unicode/utf8.first", laid_unicode_utf8_first)], narrowed := true }
def RoundUptoSaid : Prop := roundUptoRow.holds Tryz.pinned (OpenSpec.upto roundSpec)

/-- 'striderlaw.All', WHERE WHAT IT READS IS OF BULK AT MOST 1048576: true; the input reads as it did. -/
def allUptoRow : OpenClaim := { program := "ytegiloiojloaoaagreatdoor", sum := "05469a7fe048b103b69e2abe3856fed0c4a62d14c917f721e1b3b3c50b55db74", func := "strider/striderlaw.All", spec := "all", inPlace := ["internal/bytealg.IndexByteString", "internal/bytealg.IndexString", "internal/abi.NoEscape"], unfollowed := true, recurses := true, named := ["unicode/utf8.first", "unicode/utf8.acceptRanges", "strider/code.fixedWords", "strider/code.jumpWords", "strider/code.farWords", "strider/code.formEndings", "strider/code.roleMarks", "internal/strconv.uint64pow10", "math/bits.deBruijn32tab", "math/bits.deBruijn64tab", "internal/bytealg.MaxLen"], apart := false, laid := [("math/bits.deBruijn32tab", laid_math_bits_deBruijn32tab), ("math/bits.deBruijn64tab", laid_math_bits_deBruijn64tab), ("internal/strconv.uint64pow10", laid_internal_strconv_uint64pow10), ("unicode/utf8.acceptRanges", laid_unicode_utf8_acceptRanges), ("strider/code.roleMarks", laid_strider_code_roleMarks), ("strider/code.fixedWords", laid_strider_code_fixedWords), ("strider/code.jumpWords", laid_strider_code_jumpWords), ("strider/code.formEndings", laid_strider_code_formEndings), ("strider/code.farWords", laid_strider_code_farWords), ("unicode/utf8.first", laid_unicode_utf8_first)], narrowed := true }
def AllUptoSaid : Prop := allUptoRow.holds Tryz.pinned (OpenSpec.upto allSpec)

end Rows
end Go.Proofs.YtegiloiojloaoaaGreatDoor
