/- The law's Backs. -/
import Derived.Test.YtegiloiojloaoaaGreatDoorCSpec
import Derived.Test.YtegiloiojloaoaaGreatDoorCRef44
set_option linter.unusedVariables false
set_option linter.unusedSimpArgs false
set_option maxHeartbeats 4000000
namespace Go.Proofs.YtegiloiojloaoaaGreatDoor
open Go.RowKit Go.Shelf Go.Sort Go.Maps
theorem first_back:Strd.disassemble 16 [96,0,0,2,255,255,1]=([111,114,103,32,49,54,10,98,114,97,46,119,32,50,48,10,100,99,46,119,32,54,53,53,51,53,10,100,99,46,98,32,49,10],0):=by decide +kernel
theorem Backs_c (org:Int) (s:Strd.Bs) (w:World) (hl:s.length≤9223372036854775807) {tu:Bool} (hT:TabsX tu w) (hP:P10 w) (h11:11≤w.heap.size) :
  Calls Tryz.prog 7 #[.int .i64 org,.string (bstr s)] w fun e w'=>e=.returned (.bool true)∧Below w.heap.size w w':=by
 have C1:=Dis_c 16 [96,0,0,2,255,255,1] w (by decide) hT hP h11
 rw[first_back]at C1
 have C1':=QB C1
 have C2:=QB (fun V (h:Below w.heap.size w V)=>back_l org s V hl (hT.below h) (hP.below h h11) (Nat.le_trans h11 h.size))
 clear hT hP C1
 go_enter Tryz.func7,Tryz.ntmps7
 go_wp2_with (first|(go_at_call 23;refine(QA C1').mono ?_;rintro e w2 ⟨rfl,hb2⟩)|(go_at_call 24;refine(QA C2 _ hb2).mono ?_;rintro e w3 ⟨rfl,hb3⟩))
 go_ret
 exact⟨rfl,QE hb2 hb3⟩
end Go.Proofs.YtegiloiojloaoaaGreatDoor
