/- The way back: the contracts of wordAt, target, numbers, Mark, ending. -/
import Derived.Test.YtegiloiojloaoaaGreatDoorCSpec
import Derived.Test.YtegiloiojloaoaaGreatDoorCWords
import Derived.Test.YtegiloiojloaoaaGreatDoorCOprs
import Derived.Test.YtegiloiojloaoaaGreatDoorCApp
import Derived.Test.YtegiloiojloaoaaGreatDoorCRef1
import Derived.Test.YtegiloiojloaoaaGreatDoorCBk
import Derived.Test.YtegiloiojloaoaaGreatDoorCUnk
set_option linter.unusedVariables false
set_option linter.unusedSimpArgs false
set_option maxHeartbeats 4000000
set_option maxRecDepth 1000000
namespace Go.Proofs.YtegiloiojloaoaaGreatDoor
open Go.RowKit Go.Shelf Go.Sort Go.Maps
theorem own_shapeB {w:World} {base n size:Nat} {e:TypeId} {v:Value} {xs:List Value} (h:w.ownsRow base e size v n xs):∃p cap,v=.slice p n cap:=by
 rcases h.2 with ⟨rfl,h0⟩|⟨g,cap,cur,rfl,_⟩
 ·exact⟨none,0,by rw[h0]⟩
 ·exact⟨_,_,rfl⟩
theorem wordAt_c (b:Strd.Bs) (a:Nat) (w:World) (hl:b.length≤2^40) (ha:a≤2^40) :
  Calls Tryz.prog 154 #[.string (bstr b),.int .i64 (a:Int)] w fun e w'=>e=.returned (.int .i64 (Strd.QG b a))∧Below w.heap.size w w':=by
 generalize hX:Strd.QG b a=X
 unfold Strd.QG at hX
 have hw2:IntKind.i64.wrap ((a:Int)+2)=(a:Int)+2:=IntWalk.i64_in _ (by omega)
 by_cases h:a+2≤b.length
 ·rw[if_pos h]at hX
  have g0:b[a]? = some (b.getD a 0):=by rw[gD,gE (by omega)];rfl
  have g1:b[a+1]? = some (b.getD (a+1) 0):=by rw[gD,gE (by omega)];rfl
  have e0:=Rf.ZQ g0
  have e1:=Rf.ZQ g1
  have r0:=(b.getD a 0).toNat_lt
  have r1:=(b.getD (a+1) 0).toNat_lt
  generalize b.getD a 0=c0 at *
  generalize b.getD (a+1) 0=c1 at *
  have HX:=QB hX
  have ha0:(a:Int)<(b.length:Int):=by omega
  have ha1:(a:Int)+1<(b.length:Int):=by omega
  have ha2:¬(b.length:Int)<(a:Int)+2:=by omega
  have hw1:IntKind.i64.wrap ((a:Int)+1)=(a:Int)+1:=IntWalk.i64_in _ (by omega)
  clear hX g0 g1
  go_enter Tryz.func154,Tryz.ntmps154
  go_wp2
  go_region
  all_goals go_wp2
  all_goals go_ret
  all_goals exact⟨ret_int (by rw[←QA HX];omega),QW (Below.refl _ _)⟩
 ·rw[if_neg h]at hX
  have ha2:(b.length:Int)<(a:Int)+2:=by omega
  have HX:=QB hX
  clear hX
  go_enter Tryz.func154,Tryz.ntmps154
  go_wp2
  go_ret
  exact⟨by rw[←QA HX];rfl,Below.refl _ _⟩
theorem target_c (a d:Int) (w:World) (ha:-2^40≤a∧a≤2^40) (hd:-2^40≤d∧d≤2^40) :
  Calls Tryz.prog 156 #[.int .i64 a,.int .i64 d] w fun e w'=>e=.returned (.int .i64 (a+2+d))∧w'=w:=by
 have h1:IntKind.i64.wrap (a+2)=a+2:=IntWalk.i64_in _ (by omega)
 have h2:IntKind.i64.wrap (a+2+d)=a+2+d:=IntWalk.i64_in _ (by omega)
 go_enter Tryz.func156,Tryz.ntmps156
 go_wp2
 go_ret
 exact⟨rfl,rfl⟩
theorem end_cell {w:World} {tu:Bool} (hT:TabsX tu w) (f:Nat) (hf:f<3):w.cell? ⟨4,f,none⟩=some (.string (bstr (Strd.formEndings.getD f []))):=by
 obtain⟨t,fr,hm⟩:=hT.ends
 have:w.cell? ⟨4,f,none⟩=endCells[f]?:=by simp[World.cell?,hm]
 rw[this]
 match f,hf with
 |0,_=>rfl
 |1,_=>rfl
 |2,_=>rfl
theorem ending_c (o:Strd.Op) (w:World) (hf:0≤o.first∧o.first≤2) (h11:11≤w.heap.size) {tu:Bool} (hT:TabsX tu w) :
  Calls Tryz.prog 124 #[.agg #[.int .i64 o.kind,.int .i64 o.base,.int .i64 o.number,.int .i64 o.first,.int .i64 o.last]] w fun e w'=>e=.returned (.string (bstr (Strd.ending o)))∧Below w.heap.size w w':=by
 obtain⟨k,b,n,f,l⟩:=o
 simp only at hf ⊢
 generalize hX:Strd.ending ⟨k,b,n,f,l⟩=X
 unfold Strd.ending at hX
 simp only at hX
 obtain⟨fn,rfl⟩:∃fn:Nat,f=(fn:Int):=⟨f.toNat,by omega⟩
 by_cases hlt:(fn:Int)<l
 ·rw[if_pos hlt]at hX
  have HX:=QB hX
  clear hX
  go_enter Tryz.func124,Tryz.ntmps124
  go_wp2
  go_ret
  exact⟨by rw[←QA HX];rfl,QF _ _⟩
 ·rw[if_neg hlt,Int.toNat_natCast]at hX
  have hc:=end_cell hT fn (by omega)
  rw[hX]at hc
  have hf3:(fn:Int)<3:=by omega
  have hc':=(QF w (.cells #[.int .i64 k,.int .i64 b,.int .i64 n,.int .i64 (fn:Int),.int .i64 l] 94)).cell (p:=⟨4,fn,none⟩) (by show 4<_;omega)
  rw[hc]at hc'
  clear hX hT hc
  go_enter Tryz.func124,Tryz.ntmps124
  go_wp2
  go_ret
  exact⟨rfl,QF _ _⟩
def QX (ns:List Int):List Strd.Opr:=ns.map fun n=>⟨[],n⟩
theorem numbers_c (ns:List Int) (v:Value) (base:Nat) (w:World) (hI:ZO 3 base w v ns) (h8:ns.length≤8) :
  Calls Tryz.prog 155 #[v] w fun e w'=>∃vo,e=.returned vo∧QS w' vo (QX ns)∧Below w.heap.size w w':=by
 obtain⟨p,cap,rfl⟩:=own_shapeB hI
 have HI:=QB hI
 clear hI
 obtain⟨i0,hi,hz0,hz1,hz2⟩:=info_parts Tryz.info136
 go_enter Tryz.func155,Tryz.ntmps155
 go_wp2_with (at_make;refine wpList_make_full _ rfl _ _ 95 rfl _ 136 i0 (.agg #[.string ⟨#[]⟩,.int .i64 0]) 2 Tryz.underlying95 hi hz0 hz1 .i64 .i64 _ _ ns.length rfl rfl rfl rfl (by rw[hz2];omega) (by unfold maxLen;omega) (Nat.le_refl _) ?_;intro w2 hown hgrow;have hrow:w2.heap[w.heap.size]? = some (.cells (oprRow [] ns.length).toArray 136 (0,0)):=(by have:=own_full2 hown;have e:(madeCells (Value.agg #[.string ⟨#[]⟩,.int .i64 0]).cells (ns.length*2)).toList=oprRow [] ns.length:=made_pairs _ _ _;rw[e]at this;exact this);have hbl2:Below w.heap.size w w2:=⟨hgrow.os,hgrow.tape,hgrow.output,hgrow.size,fun k hk=>hgrow.block k hk (by simp)⟩;have Hrow:=QB hrow;clear hown hgrow hrow)
 go_loopw [11] (fun c wr=>∃j:Nat,j≤ns.length∧c=.int .i64 j∧wr.heap[w.heap.size]? = some (.cells (oprRow (QX (ns.take j)) (ns.length-j)).toArray 136 (0,0))∧Below w.heap.size w wr) (fun c _=>ns.length-(intOf c).toNat)
 case atStart=>exact⟨0,by omega,rfl,QA Hrow,hbl2⟩
 case round=>
  obtain⟨j,hj,rfl,hrw,hbl⟩:=hrel
  have Hrw:=QB hrw
  clear hrw
  by_cases hlt:j<ns.length
  ·obtain⟨bo,hbo,-,hbl',hc0⟩:=((QA HI).below hbl).at j hlt
   subst hbo
   have hjn:(j:Int)<(ns.length:Int):=by omega
   have Htk:Hid (QX (ns.take (j+1))=QX (ns.take j)++[⟨[],ns[j]⟩]):=QB (by rw[List.take_succ_eq_append_getElem hlt];unfold QX;rw[List.map_append];rfl)
   generalize ns[j]=N at *
   obtain⟨m,hm⟩:∃m,ns.length-j=m+1:=⟨ns.length-j-1,by omega⟩
   have hpl:(QX (ns.take j)).length=j:=by rw[QX,List.length_map,List.length_take];omega
   have hrl:=oprRow_len (QX (ns.take j)) (ns.length-j)
   have hjl:j*2+1<(oprRow (QX (ns.take j)) (ns.length-j)).length:=by rw[hrl,hpl];omega
   obtain⟨u0,hu0⟩:∃u0,wr.cell? ⟨w.heap.size,j*2,none⟩=some u0:=by
    rw[QC (QA Hrw),gA]
    exact⟨_,gE (by omega)⟩
   obtain⟨u1,hu1⟩:∃u1,wr.cell? ⟨w.heap.size,j*2+1,none⟩=some u1:=by
    rw[QC (QA Hrw),gA]
    exact⟨_,gE hjl⟩
   have f0:=ZC (QA Hrw) (j*2)
   have f1:=ZC (QA Hrw) (j*2+1)
   have hnew:((wr.setCell ⟨w.heap.size,j*2,none⟩ (.string ⟨#[]⟩)).setCell ⟨w.heap.size,j*2+1,none⟩ (.int .i64 N)).heap[w.heap.size]? = some (.cells (oprRow (QX (ns.take (j+1))) (ns.length-(j+1))).toArray 136 (0,0)):=by
    rw[row_two (QA Hrw),hm]
    have e:=oprRow_set (QX (ns.take j)) m ⟨[],N⟩
    rw[hpl]at e
    rw[QA Htk,show ns.length-(j+1)=m by omega,←e]
   have Hnew:=QB hnew
   have hbl3:Below w.heap.size w ((wr.setCell ⟨w.heap.size,j*2,none⟩ (.string ⟨#[]⟩)).setCell ⟨w.heap.size,j*2+1,none⟩ (.int .i64 N)):=below_twoAt hbl (Nat.le_refl _) _ _ _
   clear hnew hm hrl hjl hpl
   go_wp2
   go_roundw
   case rel=>exact⟨j+1,by omega,by go_num,QA Hnew,hbl3⟩
   case measure=>simp[intOf];omega
  ·obtain rfl:j=ns.length:=by omega
   have hO:QS wr (.slice (some ⟨w.heap.size,0,none⟩) ns.length ns.length) (QX ns):=by
    have hr:=QA Hrw
    rw[Nat.sub_self,List.take_length]at hr
    have e:oprRow (QX ns) 0=encOprs (QX ns):=by simp[oprRow]
    rw[e]at hr
    have hl:(encOprs (QX ns)).length=(QX ns).length*2:=flatMap_len encOpr 2 (fun _=>rfl) _
    have hol:(QX ns).length=ns.length:=by simp[QX]
    show World.ownsRow _ _ _ _ _ _ _
    rw[hol]
    rw[hol]at hl
    exact⟨hl,.inr ⟨w.heap.size,ns.length,_,rfl,Nat.zero_le _,hr,Nat.le_refl _,by unfold maxLen;omega,by simp[hl],by rw[←hl];simp⟩⟩
   have HOf:=QB hO
   clear hO
   go_wp2
   go_ret
   exact⟨_,rfl,QA HOf,hbl⟩
theorem wrap_i8 (n:Int):IntKind.i8.wrap n=Strd.sgn8 n:=by
 unfold Strd.sgn8
 simp only[IntKind.wrap,IntKind.bits,IntKind.signed];simp;split <;> omega
theorem wrap_i16 (n:Int):IntKind.i16.wrap n=Strd.sgn16 n:=by
 unfold Strd.sgn16
 simp only[IntKind.wrap,IntKind.bits,IntKind.signed];simp;split <;> omega
theorem ints_made (w:World) (xs:List Int) (h:xs.length≤2^20):ZO 3 w.heap.size (w.alloc (.cells (xs.map (Value.int .i64)).toArray 3)) (.slice (some ⟨w.heap.size,0,none⟩) xs.length xs.length) xs:=
 ⟨by simp,.inr ⟨w.heap.size,xs.length,_,rfl,Nat.le_refl _,QH _ _,Nat.le_refl _,by unfold maxLen;omega,by simp,by simp[List.take_of_length_le]⟩⟩
theorem opers_1 (o:Strd.Op) (b:Strd.Bs) (a:Int) (w:World) (hl:b.length≤2^40) (ha:-2^40≤a∧a≤2^40) (hk:o.kind=1) :
  Calls Tryz.prog 131 #[.agg #[.int .i64 o.kind,.int .i64 o.base,.int .i64 o.number,.int .i64 o.first,.int .i64 o.last],.string (bstr b),.int .i64 a] w fun e w'=>∃vo,e=.returned vo∧QS w' vo (QX (Strd.QK o b a))∧Below w.heap.size w w':=by
 obtain⟨k,ba,nu,fi,la⟩:=o
 simp only at hk ⊢
 subst hk
 have hX:Strd.QK ⟨1,ba,nu,fi,la⟩ b a=[]:=rfl
 rw[hX]
 clear hX
 have hr0:=Strd.QV b 0
 have hr2:=Strd.QV b 2
 have hr4:=Strd.QV b 4
 have C0:=QB (fun W=>wordAt_c b 0 W hl (by omega))
 have C2:=QB (fun W=>wordAt_c b 2 W hl (by omega))
 have C4:=QB (fun W=>wordAt_c b 4 W hl (by omega))
 generalize Strd.QG b 0=w0 at *
 generalize Strd.QG b 2=w2 at *
 generalize Strd.QG b 4=w4' at *
 have b1:bits .and .i64 w0 7=w0 % 8:=bits_and_7 _
 have b2:bits .and .i64 (w0 / 512) 7=w0 / 512 % 8:=bits_and_7 _
 have hb0:=QF w (.cells #[.int .i64 1,.int .i64 ba,.int .i64 nu,.int .i64 fi,.int .i64 la] 94)
 have Hbx:=QB (QH w (.cells #[.int .i64 1,.int .i64 ba,.int .i64 nu,.int .i64 fi,.int .i64 la] 94))
 go_enter Tryz.func131,Tryz.ntmps131
 go_upto_region 1 with fail
 generalize w.alloc (.cells #[.int .i64 1,.int .i64 ba,.int .i64 nu,.int .i64 fi,.int .i64 la] 94)=w1 at *
 go_wp2_with fail
 refine(QA C0 w1).mono ?_
 rintro e w3 ⟨rfl,hb3⟩
 go_wp2_with fail
 refine(QA C2 w3).mono ?_
 rintro e w4 ⟨rfl,hb4⟩
 have hb14:=QE hb3 hb4
 have hB4:=QE hb0 hb14
 have z0:=QC (bbox hb14 (QA Hbx)) 0
 have z3:=QC (bbox hb14 (QA Hbx)) 3
 simp only[gA,gZ,gS]at z0 z3
 have hlz:=QD (bbox hb14 (QA Hbx))
 go_wp2
 go_ret
 exact⟨_,rfl,World.ownsRow_nil _ _ _ _,hB4⟩
theorem opers_2 (o:Strd.Op) (b:Strd.Bs) (a:Int) (w:World) (hl:b.length≤2^40) (ha:-2^40≤a∧a≤2^40) (hk:o.kind=2) :
  Calls Tryz.prog 131 #[.agg #[.int .i64 o.kind,.int .i64 o.base,.int .i64 o.number,.int .i64 o.first,.int .i64 o.last],.string (bstr b),.int .i64 a] w fun e w'=>∃vo,e=.returned vo∧QS w' vo (QX (Strd.QK o b a))∧Below w.heap.size w w':=by
 obtain⟨k,ba,nu,fi,la⟩:=o
 simp only at hk ⊢
 subst hk
 have hX:Strd.QK ⟨2,ba,nu,fi,la⟩ b a=[Strd.QG b 0 % 8,Strd.QG b 0 / 512 % 8]:=rfl
 rw[hX]
 clear hX
 have hr0:=Strd.QV b 0
 have hr2:=Strd.QV b 2
 have hr4:=Strd.QV b 4
 have C0:=QB (fun W=>wordAt_c b 0 W hl (by omega))
 have C2:=QB (fun W=>wordAt_c b 2 W hl (by omega))
 have C4:=QB (fun W=>wordAt_c b 4 W hl (by omega))
 generalize Strd.QG b 0=w0 at *
 generalize Strd.QG b 2=w2 at *
 generalize Strd.QG b 4=w4' at *
 have b1:bits .and .i64 w0 7=w0 % 8:=bits_and_7 _
 have b2:bits .and .i64 (w0 / 512) 7=w0 / 512 % 8:=bits_and_7 _
 have hb0:=QF w (.cells #[.int .i64 2,.int .i64 ba,.int .i64 nu,.int .i64 fi,.int .i64 la] 94)
 have Hbx:=QB (QH w (.cells #[.int .i64 2,.int .i64 ba,.int .i64 nu,.int .i64 fi,.int .i64 la] 94))
 go_enter Tryz.func131,Tryz.ntmps131
 go_upto_region 1 with fail
 generalize w.alloc (.cells #[.int .i64 2,.int .i64 ba,.int .i64 nu,.int .i64 fi,.int .i64 la] 94)=w1 at *
 go_wp2_with fail
 refine(QA C0 w1).mono ?_
 rintro e w3 ⟨rfl,hb3⟩
 go_wp2_with fail
 refine(QA C2 w3).mono ?_
 rintro e w4 ⟨rfl,hb4⟩
 have hb14:=QE hb3 hb4
 have hB4:=QE hb0 hb14
 have z0:=QC (bbox hb14 (QA Hbx)) 0
 have z3:=QC (bbox hb14 (QA Hbx)) 3
 simp only[gA,gZ,gS]at z0 z3
 have hlz:=QD (bbox hb14 (QA Hbx))
 go_wp2_with fail
 refine(numbers_c [w0 % 8,w0 / 512 % 8] _ _ (w4.alloc (.cells ([w0 % 8,w0 / 512 % 8].map (Value.int .i64)).toArray 3)) (ints_made w4 [w0 % 8,w0 / 512 % 8] (by simp)) (by simp)).mono ?_
 rintro e w5 ⟨vo,rfl,hO,hb5⟩
 have HO:=QB hO
 have hB5:=QE hB4 (QE (QF _ _) hb5)
 clear hO
 go_wp2
 go_ret
 exact⟨vo,rfl,QA HO,hB5⟩
theorem opers_3 (o:Strd.Op) (b:Strd.Bs) (a:Int) (w:World) (hl:b.length≤2^40) (ha:-2^40≤a∧a≤2^40) (hk:o.kind=3) :
  Calls Tryz.prog 131 #[.agg #[.int .i64 o.kind,.int .i64 o.base,.int .i64 o.number,.int .i64 o.first,.int .i64 o.last],.string (bstr b),.int .i64 a] w fun e w'=>∃vo,e=.returned vo∧QS w' vo (QX (Strd.QK o b a))∧Below w.heap.size w w':=by
 obtain⟨k,ba,nu,fi,la⟩:=o
 simp only at hk ⊢
 subst hk
 have hX:Strd.QK ⟨3,ba,nu,fi,la⟩ b a=[Strd.sgn8 (Strd.QG b 0),Strd.QG b 0 / 512 % 8]:=rfl
 rw[hX]
 clear hX
 have hr0:=Strd.QV b 0
 have hr2:=Strd.QV b 2
 have hr4:=Strd.QV b 4
 have C0:=QB (fun W=>wordAt_c b 0 W hl (by omega))
 have C2:=QB (fun W=>wordAt_c b 2 W hl (by omega))
 have C4:=QB (fun W=>wordAt_c b 4 W hl (by omega))
 generalize Strd.QG b 0=w0 at *
 generalize Strd.QG b 2=w2 at *
 generalize Strd.QG b 4=w4' at *
 have b1:bits .and .i64 w0 7=w0 % 8:=bits_and_7 _
 have b2:bits .and .i64 (w0 / 512) 7=w0 / 512 % 8:=bits_and_7 _
 have s8:=wrap_i8 w0
 have hs8:=Strd.sgn8_rng w0
 generalize Strd.sgn8 w0=g8 at *
 have t8:IntKind.i64.wrap g8=g8:=IntWalk.i64_in _ (by omega)
 have hb0:=QF w (.cells #[.int .i64 3,.int .i64 ba,.int .i64 nu,.int .i64 fi,.int .i64 la] 94)
 have Hbx:=QB (QH w (.cells #[.int .i64 3,.int .i64 ba,.int .i64 nu,.int .i64 fi,.int .i64 la] 94))
 go_enter Tryz.func131,Tryz.ntmps131
 go_upto_region 1 with fail
 generalize w.alloc (.cells #[.int .i64 3,.int .i64 ba,.int .i64 nu,.int .i64 fi,.int .i64 la] 94)=w1 at *
 go_wp2_with fail
 refine(QA C0 w1).mono ?_
 rintro e w3 ⟨rfl,hb3⟩
 go_wp2_with fail
 refine(QA C2 w3).mono ?_
 rintro e w4 ⟨rfl,hb4⟩
 have hb14:=QE hb3 hb4
 have hB4:=QE hb0 hb14
 have z0:=QC (bbox hb14 (QA Hbx)) 0
 have z3:=QC (bbox hb14 (QA Hbx)) 3
 simp only[gA,gZ,gS]at z0 z3
 have hlz:=QD (bbox hb14 (QA Hbx))
 go_wp2_with fail
 refine(numbers_c [g8,w0 / 512 % 8] _ _ (w4.alloc (.cells ([g8,w0 / 512 % 8].map (Value.int .i64)).toArray 3)) (ints_made w4 [g8,w0 / 512 % 8] (by simp)) (by simp)).mono ?_
 rintro e w5 ⟨vo,rfl,hO,hb5⟩
 have HO:=QB hO
 have hB5:=QE hB4 (QE (QF _ _) hb5)
 clear hO
 go_wp2
 go_ret
 exact⟨vo,rfl,QA HO,hB5⟩
theorem opers_4a (o:Strd.Op) (b:Strd.Bs) (a:Int) (w:World) (hl:b.length≤2^40) (ha:-2^40≤a∧a≤2^40) (hk:o.kind=4) (hc:Strd.QG b 0<0x5040) :
  Calls Tryz.prog 131 #[.agg #[.int .i64 o.kind,.int .i64 o.base,.int .i64 o.number,.int .i64 o.first,.int .i64 o.last],.string (bstr b),.int .i64 a] w fun e w'=>∃vo,e=.returned vo∧QS w' vo (QX (Strd.QK o b a))∧Below w.heap.size w w':=by
 obtain⟨k,ba,nu,fi,la⟩:=o
 simp only at hk ⊢
 subst hk
 have hX:Strd.QK ⟨4,ba,nu,fi,la⟩ b a=[Strd.QG b 2,Strd.QG b 0 % 8]:=by simp[Strd.QK,hc]
 rw[hX]
 clear hX
 have hr0:=Strd.QV b 0
 have hr2:=Strd.QV b 2
 have hr4:=Strd.QV b 4
 have C0:=QB (fun W=>wordAt_c b 0 W hl (by omega))
 have C2:=QB (fun W=>wordAt_c b 2 W hl (by omega))
 have C4:=QB (fun W=>wordAt_c b 4 W hl (by omega))
 generalize Strd.QG b 0=w0 at *
 generalize Strd.QG b 2=w2 at *
 generalize Strd.QG b 4=w4' at *
 have b1:bits .and .i64 w0 7=w0 % 8:=bits_and_7 _
 have b2:bits .and .i64 (w0 / 512) 7=w0 / 512 % 8:=bits_and_7 _
 have hb0:=QF w (.cells #[.int .i64 4,.int .i64 ba,.int .i64 nu,.int .i64 fi,.int .i64 la] 94)
 have Hbx:=QB (QH w (.cells #[.int .i64 4,.int .i64 ba,.int .i64 nu,.int .i64 fi,.int .i64 la] 94))
 go_enter Tryz.func131,Tryz.ntmps131
 go_upto_region 1 with fail
 generalize w.alloc (.cells #[.int .i64 4,.int .i64 ba,.int .i64 nu,.int .i64 fi,.int .i64 la] 94)=w1 at *
 go_wp2_with fail
 refine(QA C0 w1).mono ?_
 rintro e w3 ⟨rfl,hb3⟩
 go_wp2_with fail
 refine(QA C2 w3).mono ?_
 rintro e w4 ⟨rfl,hb4⟩
 have hb14:=QE hb3 hb4
 have hB4:=QE hb0 hb14
 have z0:=QC (bbox hb14 (QA Hbx)) 0
 have z3:=QC (bbox hb14 (QA Hbx)) 3
 simp only[gA,gZ,gS]at z0 z3
 have hlz:=QD (bbox hb14 (QA Hbx))
 go_wp2_with fail
 refine(numbers_c [w2,w0 % 8] _ _ (w4.alloc (.cells ([w2,w0 % 8].map (Value.int .i64)).toArray 3)) (ints_made w4 [w2,w0 % 8] (by simp)) (by simp)).mono ?_
 rintro e w5 ⟨vo,rfl,hO,hb5⟩
 have HO:=QB hO
 have hB5:=QE hB4 (QE (QF _ _) hb5)
 clear hO
 go_wp2
 go_ret
 exact⟨vo,rfl,QA HO,hB5⟩
theorem opers_4b (o:Strd.Op) (b:Strd.Bs) (a:Int) (w:World) (hl:b.length≤2^40) (ha:-2^40≤a∧a≤2^40) (hk:o.kind=4) (hc:¬Strd.QG b 0<0x5040) :
  Calls Tryz.prog 131 #[.agg #[.int .i64 o.kind,.int .i64 o.base,.int .i64 o.number,.int .i64 o.first,.int .i64 o.last],.string (bstr b),.int .i64 a] w fun e w'=>∃vo,e=.returned vo∧QS w' vo (QX (Strd.QK o b a))∧Below w.heap.size w w':=by
 obtain⟨k,ba,nu,fi,la⟩:=o
 simp only at hk ⊢
 subst hk
 have hX:Strd.QK ⟨4,ba,nu,fi,la⟩ b a=[(Strd.QG b 0 / 512 % 8+7) % 8+1,Strd.QG b 0 % 8]:=by simp[Strd.QK,hc]
 rw[hX]
 clear hX
 have hr0:=Strd.QV b 0
 have hr2:=Strd.QV b 2
 have hr4:=Strd.QV b 4
 have C0:=QB (fun W=>wordAt_c b 0 W hl (by omega))
 have C2:=QB (fun W=>wordAt_c b 2 W hl (by omega))
 have C4:=QB (fun W=>wordAt_c b 4 W hl (by omega))
 generalize Strd.QG b 0=w0 at *
 generalize Strd.QG b 2=w2 at *
 generalize Strd.QG b 4=w4' at *
 have b1:bits .and .i64 w0 7=w0 % 8:=bits_and_7 _
 have b2:bits .and .i64 (w0 / 512) 7=w0 / 512 % 8:=bits_and_7 _
 have hhr:0≤w0 / 512 % 8∧w0 / 512 % 8≤7:=by omega
 generalize w0 / 512 % 8=hh at *
 have hb0:=QF w (.cells #[.int .i64 4,.int .i64 ba,.int .i64 nu,.int .i64 fi,.int .i64 la] 94)
 have Hbx:=QB (QH w (.cells #[.int .i64 4,.int .i64 ba,.int .i64 nu,.int .i64 fi,.int .i64 la] 94))
 go_enter Tryz.func131,Tryz.ntmps131
 go_upto_region 1 with fail
 generalize w.alloc (.cells #[.int .i64 4,.int .i64 ba,.int .i64 nu,.int .i64 fi,.int .i64 la] 94)=w1 at *
 go_wp2_with fail
 refine(QA C0 w1).mono ?_
 rintro e w3 ⟨rfl,hb3⟩
 go_wp2_with fail
 refine(QA C2 w3).mono ?_
 rintro e w4 ⟨rfl,hb4⟩
 have hb14:=QE hb3 hb4
 have hB4:=QE hb0 hb14
 have z0:=QC (bbox hb14 (QA Hbx)) 0
 have z3:=QC (bbox hb14 (QA Hbx)) 3
 simp only[gA,gZ,gS]at z0 z3
 have hlz:=QD (bbox hb14 (QA Hbx))
 go_wp2_with fail
 refine(numbers_c [(hh+7) % 8+1,w0 % 8] _ _ (w4.alloc (.cells ([(hh+7) % 8+1,w0 % 8].map (Value.int .i64)).toArray 3)) (ints_made w4 [(hh+7) % 8+1,w0 % 8] (by simp)) (by simp)).mono ?_
 rintro e w5 ⟨vo,rfl,hO,hb5⟩
 have HO:=QB hO
 have hB5:=QE hB4 (QE (QF _ _) hb5)
 clear hO
 go_wp2
 go_ret
 exact⟨vo,rfl,QA HO,hB5⟩
theorem opers_5a (o:Strd.Op) (b:Strd.Bs) (a:Int) (w:World) (hl:b.length≤2^40) (ha:-2^40≤a∧a≤2^40) (hk:o.kind=5) (hf:o.first=0) :
  Calls Tryz.prog 131 #[.agg #[.int .i64 o.kind,.int .i64 o.base,.int .i64 o.number,.int .i64 o.first,.int .i64 o.last],.string (bstr b),.int .i64 a] w fun e w'=>∃vo,e=.returned vo∧QS w' vo (QX (Strd.QK o b a))∧Below w.heap.size w w':=by
 obtain⟨k,ba,nu,fi,la⟩:=o
 simp only at hk hf ⊢
 subst hk
 have hX:Strd.QK ⟨5,ba,nu,fi,la⟩ b a=[a+2+Strd.sgn8 (Strd.QG b 0)]:=by simp[Strd.QK,hf]
 rw[hX]
 clear hX
 have hr0:=Strd.QV b 0
 have hr2:=Strd.QV b 2
 have hr4:=Strd.QV b 4
 have C0:=QB (fun W=>wordAt_c b 0 W hl (by omega))
 have C2:=QB (fun W=>wordAt_c b 2 W hl (by omega))
 have C4:=QB (fun W=>wordAt_c b 4 W hl (by omega))
 subst hf
 generalize Strd.QG b 0=w0 at *
 generalize Strd.QG b 2=w2 at *
 generalize Strd.QG b 4=w4' at *
 have b1:bits .and .i64 w0 7=w0 % 8:=bits_and_7 _
 have b2:bits .and .i64 (w0 / 512) 7=w0 / 512 % 8:=bits_and_7 _
 have s8:=wrap_i8 w0
 have hs8:=Strd.sgn8_rng w0
 generalize Strd.sgn8 w0=g8 at *
 have t8:IntKind.i64.wrap g8=g8:=IntWalk.i64_in _ (by omega)
 have hb0:=QF w (.cells #[.int .i64 5,.int .i64 ba,.int .i64 nu,.int .i64 0,.int .i64 la] 94)
 have Hbx:=QB (QH w (.cells #[.int .i64 5,.int .i64 ba,.int .i64 nu,.int .i64 0,.int .i64 la] 94))
 go_enter Tryz.func131,Tryz.ntmps131
 go_upto_region 1 with fail
 generalize w.alloc (.cells #[.int .i64 5,.int .i64 ba,.int .i64 nu,.int .i64 0,.int .i64 la] 94)=w1 at *
 go_wp2_with fail
 refine(QA C0 w1).mono ?_
 rintro e w3 ⟨rfl,hb3⟩
 go_wp2_with fail
 refine(QA C2 w3).mono ?_
 rintro e w4 ⟨rfl,hb4⟩
 have hb14:=QE hb3 hb4
 have hB4:=QE hb0 hb14
 have z0:=QC (bbox hb14 (QA Hbx)) 0
 have z3:=QC (bbox hb14 (QA Hbx)) 3
 simp only[gA,gZ,gS]at z0 z3
 have hlz:=QD (bbox hb14 (QA Hbx))
 go_wp2_with fail
 refine(target_c a g8 w4 ha (by omega)).mono ?_
 rintro e w6 ⟨rfl,hw6⟩
 rw[hw6]
 clear hw6
 go_wp2_with fail
 refine(numbers_c [a+2+g8] _ _ (w4.alloc (.cells ([a+2+g8].map (Value.int .i64)).toArray 3)) (ints_made w4 [a+2+g8] (by simp)) (by simp)).mono ?_
 rintro e w5 ⟨vo,rfl,hO,hb5⟩
 have HO:=QB hO
 have hB5:=QE hB4 (QE (QF _ _) hb5)
 clear hO
 go_wp2
 go_ret
 exact⟨vo,rfl,QA HO,hB5⟩
theorem opers_5b (o:Strd.Op) (b:Strd.Bs) (a:Int) (w:World) (hl:b.length≤2^40) (ha:-2^40≤a∧a≤2^40) (hk:o.kind=5) (hf:¬o.first=0) :
  Calls Tryz.prog 131 #[.agg #[.int .i64 o.kind,.int .i64 o.base,.int .i64 o.number,.int .i64 o.first,.int .i64 o.last],.string (bstr b),.int .i64 a] w fun e w'=>∃vo,e=.returned vo∧QS w' vo (QX (Strd.QK o b a))∧Below w.heap.size w w':=by
 obtain⟨k,ba,nu,fi,la⟩:=o
 simp only at hk hf ⊢
 subst hk
 have hX:Strd.QK ⟨5,ba,nu,fi,la⟩ b a=[a+2+Strd.sgn16 (Strd.QG b 2)]:=by simp[Strd.QK,hf]
 rw[hX]
 clear hX
 have hr0:=Strd.QV b 0
 have hr2:=Strd.QV b 2
 have hr4:=Strd.QV b 4
 have C0:=QB (fun W=>wordAt_c b 0 W hl (by omega))
 have C2:=QB (fun W=>wordAt_c b 2 W hl (by omega))
 have C4:=QB (fun W=>wordAt_c b 4 W hl (by omega))
 generalize Strd.QG b 0=w0 at *
 generalize Strd.QG b 2=w2 at *
 generalize Strd.QG b 4=w4' at *
 have b1:bits .and .i64 w0 7=w0 % 8:=bits_and_7 _
 have b2:bits .and .i64 (w0 / 512) 7=w0 / 512 % 8:=bits_and_7 _
 have s8:=wrap_i16 w2
 have hs8:-32768≤Strd.sgn16 w2∧Strd.sgn16 w2≤32767:=by unfold Strd.sgn16;omega
 generalize Strd.sgn16 w2=g8 at *
 have t8:IntKind.i64.wrap g8=g8:=IntWalk.i64_in _ (by omega)
 have hb0:=QF w (.cells #[.int .i64 5,.int .i64 ba,.int .i64 nu,.int .i64 fi,.int .i64 la] 94)
 have Hbx:=QB (QH w (.cells #[.int .i64 5,.int .i64 ba,.int .i64 nu,.int .i64 fi,.int .i64 la] 94))
 go_enter Tryz.func131,Tryz.ntmps131
 go_upto_region 1 with fail
 generalize w.alloc (.cells #[.int .i64 5,.int .i64 ba,.int .i64 nu,.int .i64 fi,.int .i64 la] 94)=w1 at *
 go_wp2_with fail
 refine(QA C0 w1).mono ?_
 rintro e w3 ⟨rfl,hb3⟩
 go_wp2_with fail
 refine(QA C2 w3).mono ?_
 rintro e w4 ⟨rfl,hb4⟩
 have hb14:=QE hb3 hb4
 have hB4:=QE hb0 hb14
 have z0:=QC (bbox hb14 (QA Hbx)) 0
 have z3:=QC (bbox hb14 (QA Hbx)) 3
 simp only[gA,gZ,gS]at z0 z3
 have hlz:=QD (bbox hb14 (QA Hbx))
 go_wp2_with fail
 refine(target_c a g8 w4 ha (by omega)).mono ?_
 rintro e w6 ⟨rfl,hw6⟩
 rw[hw6]
 clear hw6
 go_wp2_with fail
 refine(numbers_c [a+2+g8] _ _ (w4.alloc (.cells ([a+2+g8].map (Value.int .i64)).toArray 3)) (ints_made w4 [a+2+g8] (by simp)) (by simp)).mono ?_
 rintro e w5 ⟨vo,rfl,hO,hb5⟩
 have HO:=QB hO
 have hB5:=QE hB4 (QE (QF _ _) hb5)
 clear hO
 go_wp2
 go_ret
 exact⟨vo,rfl,QA HO,hB5⟩
theorem opers_6a (o:Strd.Op) (b:Strd.Bs) (a:Int) (w:World) (hl:b.length≤2^40) (ha:-2^40≤a∧a≤2^40) (hk:o.kind=6) (hf:o.first=1) :
  Calls Tryz.prog 131 #[.agg #[.int .i64 o.kind,.int .i64 o.base,.int .i64 o.number,.int .i64 o.first,.int .i64 o.last],.string (bstr b),.int .i64 a] w fun e w'=>∃vo,e=.returned vo∧QS w' vo (QX (Strd.QK o b a))∧Below w.heap.size w w':=by
 obtain⟨k,ba,nu,fi,la⟩:=o
 simp only at hk hf ⊢
 subst hk
 have hX:Strd.QK ⟨6,ba,nu,fi,la⟩ b a=[Strd.QG b 2]:=by simp[Strd.QK,hf]
 rw[hX]
 clear hX
 have hr0:=Strd.QV b 0
 have hr2:=Strd.QV b 2
 have hr4:=Strd.QV b 4
 have C0:=QB (fun W=>wordAt_c b 0 W hl (by omega))
 have C2:=QB (fun W=>wordAt_c b 2 W hl (by omega))
 have C4:=QB (fun W=>wordAt_c b 4 W hl (by omega))
 subst hf
 generalize Strd.QG b 0=w0 at *
 generalize Strd.QG b 2=w2 at *
 generalize Strd.QG b 4=w4' at *
 have b1:bits .and .i64 w0 7=w0 % 8:=bits_and_7 _
 have b2:bits .and .i64 (w0 / 512) 7=w0 / 512 % 8:=bits_and_7 _
 have hb0:=QF w (.cells #[.int .i64 6,.int .i64 ba,.int .i64 nu,.int .i64 1,.int .i64 la] 94)
 have Hbx:=QB (QH w (.cells #[.int .i64 6,.int .i64 ba,.int .i64 nu,.int .i64 1,.int .i64 la] 94))
 go_enter Tryz.func131,Tryz.ntmps131
 go_upto_region 1 with fail
 generalize w.alloc (.cells #[.int .i64 6,.int .i64 ba,.int .i64 nu,.int .i64 1,.int .i64 la] 94)=w1 at *
 go_wp2_with fail
 refine(QA C0 w1).mono ?_
 rintro e w3 ⟨rfl,hb3⟩
 go_wp2_with fail
 refine(QA C2 w3).mono ?_
 rintro e w4 ⟨rfl,hb4⟩
 have hb14:=QE hb3 hb4
 have hB4:=QE hb0 hb14
 have z0:=QC (bbox hb14 (QA Hbx)) 0
 have z3:=QC (bbox hb14 (QA Hbx)) 3
 simp only[gA,gZ,gS]at z0 z3
 have hlz:=QD (bbox hb14 (QA Hbx))
 go_wp2_with fail
 refine(numbers_c [w2] _ _ (w4.alloc (.cells ([w2].map (Value.int .i64)).toArray 3)) (ints_made w4 [w2] (by simp)) (by simp)).mono ?_
 rintro e w5 ⟨vo,rfl,hO,hb5⟩
 have HO:=QB hO
 have hB5:=QE hB4 (QE (QF _ _) hb5)
 clear hO
 go_wp2
 go_ret
 exact⟨vo,rfl,QA HO,hB5⟩
theorem opers_6b (o:Strd.Op) (b:Strd.Bs) (a:Int) (w:World) (hl:b.length≤2^40) (ha:-2^40≤a∧a≤2^40) (hk:o.kind=6) (hf:¬o.first=1) :
  Calls Tryz.prog 131 #[.agg #[.int .i64 o.kind,.int .i64 o.base,.int .i64 o.number,.int .i64 o.first,.int .i64 o.last],.string (bstr b),.int .i64 a] w fun e w'=>∃vo,e=.returned vo∧QS w' vo (QX (Strd.QK o b a))∧Below w.heap.size w w':=by
 obtain⟨k,ba,nu,fi,la⟩:=o
 simp only at hk hf ⊢
 subst hk
 have hX:Strd.QK ⟨6,ba,nu,fi,la⟩ b a=[65536*Strd.QG b 2+Strd.QG b 4]:=by simp[Strd.QK,hf]
 rw[hX]
 clear hX
 have hr0:=Strd.QV b 0
 have hr2:=Strd.QV b 2
 have hr4:=Strd.QV b 4
 have C0:=QB (fun W=>wordAt_c b 0 W hl (by omega))
 have C2:=QB (fun W=>wordAt_c b 2 W hl (by omega))
 have C4:=QB (fun W=>wordAt_c b 4 W hl (by omega))
 generalize Strd.QG b 0=w0 at *
 generalize Strd.QG b 2=w2 at *
 generalize Strd.QG b 4=w4' at *
 have b1:bits .and .i64 w0 7=w0 % 8:=bits_and_7 _
 have b2:bits .and .i64 (w0 / 512) 7=w0 / 512 % 8:=bits_and_7 _
 have m1:IntKind.i64.wrap (w2*65536)=w2*65536:=IntWalk.i64_in _ (by omega)
 have m2:IntKind.i64.wrap (w2*65536+w4')=w2*65536+w4':=IntWalk.i64_in _ (by omega)
 have m3:65536*w2+w4'=w2*65536+w4':=by omega
 rw[m3]
 clear m3
 have hb0:=QF w (.cells #[.int .i64 6,.int .i64 ba,.int .i64 nu,.int .i64 fi,.int .i64 la] 94)
 have Hbx:=QB (QH w (.cells #[.int .i64 6,.int .i64 ba,.int .i64 nu,.int .i64 fi,.int .i64 la] 94))
 go_enter Tryz.func131,Tryz.ntmps131
 go_upto_region 1 with fail
 generalize w.alloc (.cells #[.int .i64 6,.int .i64 ba,.int .i64 nu,.int .i64 fi,.int .i64 la] 94)=w1 at *
 go_wp2_with fail
 refine(QA C0 w1).mono ?_
 rintro e w3 ⟨rfl,hb3⟩
 go_wp2_with fail
 refine(QA C2 w3).mono ?_
 rintro e w4 ⟨rfl,hb4⟩
 have hb14:=QE hb3 hb4
 have hB4:=QE hb0 hb14
 have z0:=QC (bbox hb14 (QA Hbx)) 0
 have z3:=QC (bbox hb14 (QA Hbx)) 3
 simp only[gA,gZ,gS]at z0 z3
 have hlz:=QD (bbox hb14 (QA Hbx))
 go_wp2_with fail
 refine(QA C4 w4).mono ?_
 rintro e w6 ⟨rfl,hb6⟩
 have hB6:=QE hB4 hb6
 go_wp2_with fail
 refine(numbers_c [w2*65536+w4'] _ _ (w6.alloc (.cells ([w2*65536+w4'].map (Value.int .i64)).toArray 3)) (ints_made w6 [w2*65536+w4'] (by simp)) (by simp)).mono ?_
 rintro e w5 ⟨vo,rfl,hO,hb5⟩
 have HO:=QB hO
 have hB5:=QE hB6 (QE (QF _ _) hb5)
 clear hO
 go_wp2
 go_ret
 exact⟨vo,rfl,QA HO,hB5⟩
theorem operandsIn_c (o:Strd.Op) (ho:o∈Strd.ZL) (b:Strd.Bs) (a:Int) (w:World) (hl:b.length≤2^40) (ha:-2^40≤a∧a≤2^40) :
  Calls Tryz.prog 131 #[.agg #[.int .i64 o.kind,.int .i64 o.base,.int .i64 o.number,.int .i64 o.first,.int .i64 o.last],.string (bstr b),.int .i64 a] w fun e w'=>∃vo,e=.returned vo∧QS w' vo (QX (Strd.QK o b a))∧Below w.heap.size w w':=by
 rcases Strd.match_kinds o ho with h|h|h|h|h|h
 ·exact opers_1 o b a w hl ha h
 ·exact opers_2 o b a w hl ha h
 ·exact opers_3 o b a w hl ha h
 ·by_cases hc:Strd.QG b 0<0x5040
  ·exact opers_4a o b a w hl ha h hc
  ·exact opers_4b o b a w hl ha h hc
 ·by_cases hf:o.first=0
  ·exact opers_5a o b a w hl ha h hf
  ·exact opers_5b o b a w hl ha h hf
 ·by_cases hf:o.first=1
  ·exact opers_6a o b a w hl ha h hf
  ·exact opers_6b o b a w hl ha h hf
theorem opers_wf (o:Strd.Op) (ho:o∈Strd.ZL) (b:Strd.Bs) (a:Int) (ha:-2^31≤a∧a≤2^31):WfA (Strd.QQ o (Strd.QK o b a))∧(Strd.QN o=true→0<(Strd.QK o b a).length)∧(Strd.QK o b a).length≤8∧∀n∈Strd.QK o b a,-2^32≤n∧n≤2^32:=by
 have r0:=Strd.QV b 0
 have r2:=Strd.QV b 2
 have r4:=Strd.QV b 4
 have g8:=Strd.sgn8_rng (Strd.QG b 0)
 have g16:-32768≤Strd.sgn16 (Strd.QG b 2)∧Strd.sgn16 (Strd.QG b 2)≤32767:=by unfold Strd.sgn16;omega
 have hb:∀o∈Strd.ZL,0≤o.base∧o.base≤65535∧0≤o.number∧o.number<16:=by decide +kernel
 have hbo:=hb o ho
 have hk:=Strd.match_kinds o ho
 have hl:(Strd.QK o b a).length≤8∧(o.kind=2∨o.kind=3∨o.kind=4→2≤(Strd.QK o b a).length)∧(o.kind=5∨o.kind=6→1≤(Strd.QK o b a).length)∧∀n∈Strd.QK o b a,-2^32≤n∧n≤2^32:=by
  unfold Strd.QK
  rcases hk with h|h|h|h|h|h
  ·simp[h]
  ·simp[h];omega
  ·simp[h];omega
  ·by_cases hc:Strd.QG b 0<0x5040
   ·simp[h,hc];omega
   ·simp[h,hc];omega
  ·by_cases hc:o.first=0
   ·simp[h,hc];omega
   ·simp[h,hc];omega
  ·by_cases hc:o.first=1
   ·simp[h,hc];omega
   ·simp[h,hc];omega
 obtain⟨h1,h2,h3,h4⟩:=hl
 refine⟨⟨fun h=>?_,fun h=>?_,fun h=>?_,fun h=>?_,fun x hx=>?_,?_,⟨hbo.1,hbo.2.1⟩,hbo.2.2⟩,fun h=>?_,h1,h4⟩
 ·have h':o.kind=2∨o.kind=3∨o.kind=4:=h
  simpa [Strd.QQ] using h2 h'
 ·have h':o.kind=5∨o.kind=6∨o.kind=9∨o.kind=10:=h
  simpa [Strd.QQ] using h3 (by omega)
 ·have h':o.kind=10:=h
  omega
 ·have h':o.kind=9:=h
  omega
 ·obtain⟨n,hn,rfl⟩:=List.mem_map.1 hx
  exact h4 n hn
 ·simpa [Strd.QQ] using h1
 ·have h':o.kind=5∨o.kind=6:=by simpa [Strd.QN] using h
  have:=h3 h'
  omega
theorem begins_c (o:Strd.Op) (ho:o∈Strd.ZL) (b:Strd.Bs) (a:Int) (vo:Value) (w:World) (hl:b.length≤2^40) (ha:-2^31≤a∧a≤2^31) (hO:QS w vo (QX (Strd.QK o b a))) :
  Calls Tryz.prog 132 #[.agg #[.int .i64 o.kind,.int .i64 o.base,.int .i64 o.number,.int .i64 o.first,.int .i64 o.last,vo],.string (bstr b),.int .i64 a] w fun e w'=>e=.returned (.bool (Strd.begins (Strd.QQ o (Strd.QK o b a)) b a))∧Below w.heap.size w w':=by
 obtain⟨hwf,hjl,h8,hns⟩:=opers_wf o ho b a ha
 have hio:(Strd.QQ o (Strd.QK o b a)).op=o:=rfl
 have hioo:(Strd.QQ o (Strd.QK o b a)).oprs=QX (Strd.QK o b a):=rfl
 rw[←hioo]at hO
 obtain⟨po,co,rfl⟩:=hO.shape
 generalize hX:Strd.begins (Strd.QQ o (Strd.QK o b a)) b a=X
 unfold Strd.begins at hX
 rw[hio]at hX
 have hnum0:-2^32≤Strd.num (Strd.QQ o (Strd.QK o b a)) 0∧Strd.num (Strd.QQ o (Strd.QK o b a)) 0≤2^32:=hwf.num 0
 have hlen:(Strd.QQ o (Strd.QK o b a)).oprs.length=(Strd.QK o b a).length:=by simp[Strd.QQ]
 generalize hins:Strd.QQ o (Strd.QK o b a)=i at *
 subst hio
 have HO:=QB hO
 have Hwf:=QB hwf
 have HX:=QB hX
 have hb1:=QF w (.cells #[.int .i64 i.op.kind,.int .i64 i.op.base,.int .i64 i.op.number,.int .i64 i.op.first,.int .i64 i.op.last,.slice po i.oprs.length co] 97)
 have Hx1:=QB (QH w (.cells #[.int .i64 i.op.kind,.int .i64 i.op.base,.int .i64 i.op.number,.int .i64 i.op.first,.int .i64 i.op.last,.slice po i.oprs.length co] 97))
 have Hlen:=QB hlen
 clear hO hwf hX hins hioo hns hlen
 go_enter Tryz.func132,Tryz.ntmps132
 go_upto_region 1 with fail
 have HO1:=QB ((QA HO).below hb1)
 clear HO
 generalize w.alloc (.cells #[.int .i64 i.op.kind,.int .i64 i.op.base,.int .i64 i.op.number,.int .i64 i.op.first,.int .i64 i.op.last,.slice po i.oprs.length co] 97)=w1 at *
 have hb1':=hb1
 generalize hgg:w.heap.size=g at Hx1 ⊢
 have d0:=cell_regrown ((QC (QA Hx1) 0).trans rfl)
 have d1:=cell_regrown ((QC (QA Hx1) 1).trans rfl)
 have d2:=cell_regrown ((QC (QA Hx1) 2).trans rfl)
 have d3:=cell_regrown ((QC (QA Hx1) 3).trans rfl)
 have d4:=cell_regrown ((QC (QA Hx1) 4).trans rfl)
 have d5:=cell_regrown ((QC (QA Hx1) 5).trans rfl)
 have cJ:∀d os,Calls Tryz.prog 100 #[.agg #[.int .i64 i.op.kind,.int .i64 i.op.base,.int .i64 i.op.number,.int .i64 i.op.first,.int .i64 i.op.last]] (grow (redrawn w1 d) os) fun e w''=>e=.returned (.bool (Strd.QN i.op))∧∃p:Regrown,w''=grow (redrawn w1 p.d) p.os:=fun d os=>Calls.regrown_of (IsJump_c _ _)
 cases hJ:Strd.QN i.op
 ·rw[hJ]at cJ
  have Hfin:Hid (X=(Strd.bytes i i.op.first a).isPrefixOf b):=QB (by rw[←QA HX,hJ];simp)
  clear hJ hjl
  refine wp_region_quiet_below (by kernel_rfl) (by kernel_rfl) ?_
  repeat (go_big_quiet_step (first|exact cJ _ _))
  refine wpQuiet_nil ?_
  intro _ hw'
  obtain⟨⟨dq,osq⟩,hw''⟩:=hw'
  subst hw''
  have hbW:=below_regrown w1 dq osq
  generalize grow (redrawn w1 dq) osq=W at *
  have hbxW:=bbox hbW (QA Hx1)
  have e0:=QC hbxW 0
  have e1:=QC hbxW 1
  have e2:=QC hbxW 2
  have e3:=QC hbxW 3
  have e4:=QC hbxW 4
  have e5:=QC hbxW 5
  simp only[gA,gZ,gS]at e0 e1 e2 e3 e4 e5
  have hlW:=QD hbxW
  clear d0 d1 d2 d3 d4 d5 cJ hbxW
  go_wp2_with fail
  refine(Append_c i _ _ i.op.first a W W.heap.size [] ((QA HO1).below hbW) (World.ownsRow_nil _ _ _ _) (Nat.le_refl _) (by simp) (QA Hwf) (by omega)).mono ?_
  rintro e w3 ⟨v3,rfl,hB3,hk3⟩
  rw[List.nil_append]at hB3
  have cv:=Rf.conv88 hB3
  have hb3:=hk3.below (Nat.le_refl _)
  have hfin:=QE hb1' (QE hbW hb3)
  generalize Strd.bytes i i.op.first a=BY at *
  go_wp2_with fail
  refine(Tryz.strings_HasPrefix _ _ _).mono ?_
  rintro e w4 ⟨rfl,hw4⟩
  rw[hw4]
  go_wp2
  go_ret
  exact⟨by rw[QA Hfin];rfl,hfin⟩
 ·rw[hJ]at cJ
  have hon:(0:Int)<i.oprs.length:=by rw[QA Hlen];have:=hjl hJ;omega
  have cN:∀d os,Calls Tryz.prog 67 #[.agg #[.int .i64 i.op.kind,.int .i64 i.op.base,.int .i64 i.op.number,.int .i64 i.op.first,.int .i64 i.op.last,.slice po i.oprs.length co],.int .i64 0] (grow (redrawn w1 d) os) fun e w''=>e=.returned (.int .i64 (Strd.num i 0))∧∃p:Regrown,w''=grow (redrawn w1 p.d) p.os:=fun d os=>Calls.regrown_of (number_c i 0 _ _ (by omega) hon ((QA HO1).below (below_regrown w1 d os)))
  have cF:∀d os,Calls Tryz.prog 101 #[.agg #[.int .i64 i.op.kind,.int .i64 i.op.base,.int .i64 i.op.number,.int .i64 i.op.first,.int .i64 i.op.last],.int .i64 i.op.first,.int .i64 a,.int .i64 (Strd.num i 0)] (grow (redrawn w1 d) os) fun e w''=>e=.returned (.bool (Strd.fits i.op i.op.first a (Strd.num i 0)))∧∃p:Regrown,w''=grow (redrawn w1 p.d) p.os:=fun d os=>Calls.regrown_of (Fits_c _ _ _ _ _ (by omega) (by omega))
  have HX2:Hid (X=if Strd.fits i.op i.op.first a (Strd.num i 0)=false then false else (Strd.bytes i i.op.first a).isPrefixOf b):=QB (by rw[←QA HX,hJ];simp)
  clear hJ hjl hon
  generalize Strd.num i 0=N at *
  cases hF:Strd.fits i.op i.op.first a N
  ·rw[hF]at cF
   have Hfin:Hid (X=false):=QB (by rw[QA HX2,hF];rfl)
   clear hF
   refine wp_region_quiet_below (by kernel_rfl) (by kernel_rfl) ?_
   repeat (go_big_quiet_step (first|exact cJ _ _|exact cN _ _|exact cF _ _))
   refine wpQuiet_nil ?_
   intro _ hw'
   obtain⟨⟨dq,osq⟩,hw''⟩:=hw'
   subst hw''
   have hfin:=QE hb1' (below_regrown w1 dq osq)
   go_wp2
   go_ret
   exact⟨by rw[QA Hfin];rfl,hfin⟩
  ·rw[hF]at cF
   have Hfin:Hid (X=(Strd.bytes i i.op.first a).isPrefixOf b):=QB (by rw[QA HX2,hF];simp)
   clear hF
   refine wp_region_quiet_below (by kernel_rfl) (by kernel_rfl) ?_
   repeat (go_big_quiet_step (first|exact cJ _ _|exact cN _ _|exact cF _ _))
   refine wpQuiet_nil ?_
   intro _ hw'
   obtain⟨⟨dq,osq⟩,hw''⟩:=hw'
   subst hw''
   have hbW:=below_regrown w1 dq osq
   generalize grow (redrawn w1 dq) osq=W at *
   have hbxW:=bbox hbW (QA Hx1)
   have e0:=QC hbxW 0
   have e1:=QC hbxW 1
   have e2:=QC hbxW 2
   have e3:=QC hbxW 3
   have e4:=QC hbxW 4
   have e5:=QC hbxW 5
   simp only[gA,gZ,gS]at e0 e1 e2 e3 e4 e5
   have hlW:=QD hbxW
   clear d0 d1 d2 d3 d4 d5 cJ hbxW
   go_wp2_with fail
   refine(Append_c i _ _ i.op.first a W W.heap.size [] ((QA HO1).below hbW) (World.ownsRow_nil _ _ _ _) (Nat.le_refl _) (by simp) (QA Hwf) (by omega)).mono ?_
   rintro e w3 ⟨v3,rfl,hB3,hk3⟩
   rw[List.nil_append]at hB3
   have cv:=Rf.conv88 hB3
   have hb3:=hk3.below (Nat.le_refl _)
   have hfin:=QE hb1' (QE hbW hb3)
   generalize Strd.bytes i i.op.first a=BY at *
   go_wp2_with fail
   refine(Tryz.strings_HasPrefix _ _ _).mono ?_
   rintro e w4 ⟨rfl,hw4⟩
   rw[hw4]
   go_wp2
   go_ret
   exact⟨by rw[QA Hfin];rfl,hfin⟩
end Go.Proofs.YtegiloiojloaoaaGreatDoor
