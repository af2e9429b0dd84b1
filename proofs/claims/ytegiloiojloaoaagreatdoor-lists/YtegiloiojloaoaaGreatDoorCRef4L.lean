/- The law's Lists. -/
import Derived.Test.YtegiloiojloaoaaGreatDoorCSpec
import Derived.Test.YtegiloiojloaoaaGreatDoorCRef36
set_option linter.unusedVariables false
set_option linter.unusedSimpArgs false
set_option maxHeartbeats 8000000
set_option maxRecDepth 1000000
namespace Go.Proofs.YtegiloiojloaoaaGreatDoor
open Go.RowKit Go.Shelf Go.Sort Go.Maps
namespace Rf
def src1:Strd.Bs:=[120,58,32,110,111,112,10,195,164,58,32,111,114,103,49,58,110,111,112]
def src2:Strd.Bs:=[120,58,32,110,111,112,10,97,58,32,114,116,115,10,66,58]
theorem ans2:namesAns src2=[([66],4),([97],2),([120],0)]∧(Strd.assemble src2).2=(0,0):=by
 have h0:(Strd.assemble src2).2=(0,0):=by decide +kernel
 have h1:labelsOf (Strd.QM src2).1.lines=[[120],[97],[66]]:=by decide +kernel
 have h2:(ZM src2).2.2=0:=by rw[lay_asm,h0]
 have h3:Strd.placeOf (Strd.QM src2).1.lines (ZM src2).1.2 [66]=4∧Strd.placeOf (Strd.QM src2).1.lines (ZM src2).1.2 [97]=2∧Strd.placeOf (Strd.QM src2).1.lines (ZM src2).1.2 [120]=0:=by decide +kernel
 have hp:([[120],[97],[66]]:List Strd.Bs).Perm [[66],[97],[120]]:=by decide
 have h4:([[120],[97],[66]]:List Strd.Bs).mergeSort leB=[[66],[97],[120]]:=by
  rw[mergeSort_of_perm hp]
  exact List.mergeSort_of_pairwise (by decide)
 refine⟨?_,h0⟩
 unfold namesAns
 rw[if_neg (by rw[h2];simp)]
 unfold namesOf
 rw[h1,h4]
 simp only[List.map_cons,List.map_nil,h3.1,h3.2.1,h3.2.2]
end Rf
theorem Lists_c (a b c:Strd.Bs) (w:World) (ha:a.length≤9223372036854775807) (hb:b.length≤9223372036854775807) (hc:c.length≤9223372036854775807) (h11:11≤w.heap.size) (hT:Tabs w) :
  Calls Tryz.prog 4 #[.string (bstr a),.string (bstr b),.string (bstr c)] w fun e w'=>e=.returned (.bool true)∧Below w.heap.size w w':=by
 have hb0:=QF w (.cells #[.slice none 0 0,.int .i64 0] 31)
 have hS:=Rf.BookAt.start w
 have HS:=QB hS
 have HT:=QB hT
 clear hS hT
 have CL:=QB (fun s V E cnt pa ca hBk hsl hV hc hE hn=>listed_c w.heap.size w.heap.size s V E cnt pa ca hBk hsl (Nat.le_trans h11 hV.size) ((QA HT).below hV) hV.size hc hE hn)
 have CN:=QB (fun V (hV:Below w.heap.size w V)=>Names_any Rf.src2 V (by decide) (Nat.le_trans h11 hV.size) ((QA HT).below hV))
 rw[Rf.ans2.1,Rf.ans2.2]at CN
 go_enter Tryz.func4,Tryz.ntmps4
 go_upto_region 2 with fail
 generalize w.alloc (.cells #[.slice none 0 0,.int .i64 0] 31)=W0 at *
 go_upto_region 3 with (go_at_call 12;refine(QA CL Rf.src1 W0 [] 0 none 0 (QA HS) (by decide) hb0 (by decide) (by decide) (fun e he=>by cases he)).mono ?_;rintro e w1 ⟨rfl,⟨E1,pa1,ca1,hbk1,hl1,hn1⟩,hb1⟩;have Hbk1:=QB hbk1;have Hn1:=QB hn1;clear hbk1 hn1)
 have hB1:=hb0.trans (hb1.below hb0.size)
 go_upto_region 4 with (go_at_call 12;refine(QA CL Rf.src2 w1 E1 1 pa1 ca1 (QA Hbk1) (by decide) hB1 (by decide) (by rw[hl1];decide) (QA Hn1)).mono ?_;rintro e w2 ⟨rfl,⟨E2,pa2,ca2,hbk2,hl2,hn2⟩,hb2⟩;have Hbk2:=QB hbk2;have Hn2:=QB hn2;clear hbk2 hn2)
 have hB2:=hB1.trans (hb2.below hB1.size)
 have hE2:E2.length=8:=by rw[hl2,hl1];rfl
 have HE2:=QB hE2
 clear hl1 hl2 hE2 hb1 hb2 Hbk1 Hn1 HS
 go_upto_region 5 with (go_at_call 13;refine(QA CN w2 hB2).mono ?_;rintro e w3 ⟨p3,c3,rfl,hr3,hb3⟩;have Hr3:=QB hr3;clear hr3)
 obtain⟨b3,hp3,hb3l,_,x1⟩:=Rf.row_at2 (QA Hr3) rfl 0 (by decide)
 obtain⟨b3',hp3',_,y0,_⟩:=Rf.row_at2 (QA Hr3) rfl 2 (by decide)
 subst hp3
 cases hp3'
 simp only[Nat.zero_mul,Nat.zero_add,List.getElem_cons_zero,List.getElem_cons_succ,List.length_cons,List.length_nil]at x1 y0
 have hB3:=hB2.trans (hb3.mono hB2.size)
 have Hbk3:=QB ((QA Hbk2).below hb3)
 clear Hbk2 CN
 go_upto_region 8 with fail
 have hba:=QF w3 (.cells #[.string (bstr a),.string (bstr b),.string (bstr a),.string (bstr c),.string (bstr b),.string (bstr c)] 9)
 have Hbx:=QB (QH w3 (.cells #[.string (bstr a),.string (bstr b),.string (bstr a),.string (bstr c),.string (bstr b),.string (bstr c)] 9))
 have Hbk4:=QB ((QA Hbk3).below hba)
 have hB4:=hB3.trans (hba.mono hB3.size)
 generalize w3.alloc (.cells #[.string (bstr a),.string (bstr b),.string (bstr a),.string (bstr c),.string (bstr b),.string (bstr c)] 9)=W4 at *
 generalize w3.heap.size=gs at *
 clear x1 y0 hb3l hba hb3 hB3 hB2 hB1 hb0 Hbk3 Hr3
 go_wp2_with fail
 go_loopw [14] (fun c14 wr=>∃(i:Nat) (E:List (Sl×Int)) (pa:Option Addr) (ca:Nat),i≤6∧c14=.int .i64 i∧E.length=8+4*i∧(∀e∈E,e.1.2.1≤3000000)∧Rf.BookAt w.heap.size wr w.heap.size E (2+(i:Int)) pa ca∧wr.heap[gs]? = some (.cells #[.string (bstr a),.string (bstr b),.string (bstr a),.string (bstr c),.string (bstr b),.string (bstr c)] 9 (0,0))∧Below w.heap.size w wr) (fun c _=>6-(intOf c).toNat)
 case atStart=>exact⟨0,E2,pa2,ca2,by omega,rfl,QA HE2,QA Hn2,QA Hbk4,QA Hbx,hB4⟩
 case round=>
  obtain⟨i,E,pa,ca,hi,rfl,hE,hnE,hbk,hbx,hBr⟩:=hrel
  by_cases hlt:i<6
  ·have hx:∃x:Strd.Bs,x.length≤9223372036854775807∧wr.cell? ⟨gs,i,none⟩=some (.string (bstr x)):=by
    have h:=QC hbx i
    match i,hlt with
    |0,_=>exact⟨a,ha,h⟩
    |1,_=>exact⟨b,hb,h⟩
    |2,_=>exact⟨a,ha,h⟩
    |3,_=>exact⟨c,hc,h⟩
    |4,_=>exact⟨b,hb,h⟩
    |5,_=>exact⟨c,hc,h⟩
   obtain⟨x,hxl,hxc⟩:=hx
   have hgl:=QD hbx
   have hltI:(i:Int)<6:=by omega
   have q1:IntKind.i64.wrap ((i:Int)+1)=(i:Int)+1:=IntWalk.i64_in _ (by omega)
   have C12:=QB (QA CL x wr E (2+(i:Int)) pa ca hbk hxl hBr (by omega) (by omega) hnE)
   have Hbxr:=QB hbx
   clear hbk hbx hnE
   go_wp2_with (go_at_call 12;refine(QA C12).mono ?_;rintro e w5 ⟨rfl,⟨E5,pa5,ca5,hbk5,hl5,hn5⟩,hb5⟩;have Hbk5:=QB hbk5;have Hn5:=QB hn5;have Hb5:=QB hb5;clear hbk5 hn5 hb5)
   go_roundw
   case rel=>
    refine⟨i+1,E5,pa5,ca5,by omega,by go_num,by rw[hl5,hE];omega,QA Hn5,?_,?_,hBr.trans ((QA Hb5).below hBr.size)⟩
    ·have:=QA Hbk5
     rw[show (2+(i:Int)+1)=2+((i+1:Nat):Int) by omega]at this
     exact this
    ·rw[(QA Hb5).block gs hgl (.inr (fun o ho hd=>by
      rw[QA Hbxr]at ho
      cases ho
      rcases hd with ⟨_,_,h⟩|⟨_,_,h⟩|⟨_,_,h⟩ <;> cases h))]
     exact QA Hbxr
   case measure=>simp[intOf];omega
  ·obtain rfl:i=6:=by omega
   clear hbk hbx hnE
   go_wp2
   go_ret
   exact⟨rfl,hBr⟩
end Go.Proofs.YtegiloiojloaoaaGreatDoor
