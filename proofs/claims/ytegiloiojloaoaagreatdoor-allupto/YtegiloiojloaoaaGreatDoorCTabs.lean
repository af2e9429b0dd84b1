/- The package-level tables in memory. -/
import Derived.Test.YtegiloiojloaoaaGreatDoorCSpec
import Derived.Test.YtegiloiojloaoaaGreatDoorCCode1
import Derived.Test.YtegiloiojloaoaaGreatDoorCUtf
import Derived.Test.YtegiloiojloaoaaGreatDoorCItoa
set_option linter.unusedVariables false
set_option linter.unusedSimpArgs false
set_option maxHeartbeats 400000
namespace Go.Proofs.YtegiloiojloaoaaGreatDoor
open Go.RowKit Go.Shelf
def fixedCells:Array Value:=(Strd.fixedWords.flatMap fun r=>[.string (bstr r.1),.int .i64 r.2.1,.int .i64 r.2.2]).toArray
def jumpCells:Array Value:=(Strd.jumpWords.map fun r=>.string (bstr r)).toArray
def farCells:Array Value:=(Strd.farWords.flatMap fun r=>[.string (bstr r.1),.int .i64 r.2]).toArray
def endings:List Strd.Bs:=[[46,115],[46,119],[46,108]]
def endCells:Array Value:=(endings.map fun r=>.string (bstr r)).toArray
def marks:List Strd.Bs:=[[100],[35],[],[]]
def markCells:Array Value:=(marks.map fun r=>.string (bstr r)).toArray
structure TabsX (tu:Bool) (w:World):Prop where
 utf:tu=true→Lib.Utf8Tabs 8 9 w
 fixed:∃t fr,w.heap[2]? = some (.cells fixedCells t fr)
 jump:∃t fr,w.heap[0]? = some (.cells jumpCells t fr)
 far:∃t fr,w.heap[1]? = some (.cells farCells t fr)
 ends:∃t fr,w.heap[4]? = some (.cells endCells t fr)
 mark:∃t fr,w.heap[3]? = some (.cells markCells t fr)
abbrev Tabs:World→Prop:=TabsX true
theorem TabsX.of_blocks {tu:Bool} {w w':World} (h:TabsX tu w) (hb:∀k,k<11→k<w.heap.size→w'.heap[k]? = w.heap[k]?):TabsX tu w':=by
 have hx:∀g o,g<11→w.heap[g]? = some o→w'.heap[g]? = some o:=fun g o hg ho=>(hb g hg (Array.getElem?_eq_some_iff.1 ho).1).trans ho
 have hc:∀g j u,g<11→w.cell? ⟨g,j,none⟩=some u→w'.cell? ⟨g,j,none⟩=some u:=fun g j u hg hu=>
  (World.cell?_of_block (w:=w) (a:=⟨g,j,none⟩) (hb g hg (World.block_lt_of_cell? w ⟨g,j,none⟩ hu))).trans hu
 obtain⟨hu,⟨t1,f1,h1⟩,⟨t2,f2,h2⟩,⟨t3,f3,h3⟩,⟨t4,f4,h4⟩,⟨t5,f5,h5⟩⟩:=h
 exact⟨fun ht=>⟨fun c hc'=>hc _ _ _ (by decide) ((hu ht).1 c hc'),fun i hi=>⟨hc _ _ _ (by decide) ((hu ht).2 i hi).1,hc _ _ _ (by decide) ((hu ht).2 i hi).2⟩⟩,
  ⟨t1,f1,hx _ _ (by decide) h1⟩,⟨t2,f2,hx _ _ (by decide) h2⟩,⟨t3,f3,hx _ _ (by decide) h3⟩,⟨t4,f4,hx _ _ (by decide) h4⟩,⟨t5,f5,hx _ _ (by decide) h5⟩⟩
theorem TabsX.below {tu:Bool} {w w':World} (h:TabsX tu w) (hb:Below w.heap.size w w'):TabsX tu w':=h.of_blocks fun k _ hk=>hb.block k hk
theorem TabsX.kept {tu:Bool} {base:Nat} {D:Obj→Prop} {w w':World} (h:TabsX tu w) (hb:Kept base D w w') (hn:11≤base):TabsX tu w':=h.of_blocks fun k h11 hk=>hb.block k hk (.inl (by omega))
theorem blankR_int (x:Nat):blankR x=(((x:Int)==32)||((x:Int)==9)):=by
 unfold blankR
 rw[Bool.eq_iff_iff]
 simp only[Bool.or_eq_true,beq_iff_eq]
 omega
theorem isBlank_c (x:Nat) (w:World):Calls Tryz.prog 176 #[.int .i32 (x:Int)] w fun e w'=>e=.returned (.bool (blankR x))∧w'=w:=by
 go_enter Tryz.func176,Tryz.ntmps176
 go_wp2
 all_goals go_ret
 all_goals refine⟨ret_bool ?_,rfl⟩
 all_goals simp_all [blankR_int]
theorem isBlank_pays (w:World):PredAtRunes Tryz.prog 176 #[] blankR w:=fun W x _ _=>
 (isBlank_c x W).mono fun e w' ⟨h1,h2⟩=>⟨h1,0,by subst h2;rfl⟩
theorem trimBlanks_c (s:ByteArray) (w:World) (hs:s.size≤2^47) (hT:Tabs w) :
  Calls Tryz.prog 159 #[.string s] w fun e w'=>e=.returned (.string (bstr (Strd.trim s.data.toList)))∧Below w.heap.size w w':=by
 have HT:=QB hT
 clear hT
 go_enter Tryz.func159,Tryz.ntmps159
 go_wp2_with fail
 refine(Tryz.strings_TrimFunc_runes 176 #[] (Go.Proofs.enters_of Tryz.func176 (by kernel_rfl) rfl) blankR s w (by omega) ((QA HT).utf rfl) (isBlank_pays w)).mono ?_
 rintro e w1 ⟨rfl,hb⟩
 go_wp2
 go_ret
 refine⟨?_,hb⟩
 show Ending.returned (.string (Lib.trimF blankR s))=_
 rw[trimF_eq]
end Go.Proofs.YtegiloiojloaoaaGreatDoor
