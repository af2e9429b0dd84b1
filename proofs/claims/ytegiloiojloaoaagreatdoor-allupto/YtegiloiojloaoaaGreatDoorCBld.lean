/- strings.Builder at this program: copyCheck, WriteString, WriteByte. -/
import Derived.Test.YtegiloiojloaoaaGreatDoorCSpec
import Derived.Test.YtegiloiojloaoaaGreatDoorCBac1
import Derived.Test.YtegiloiojloaoaaGreatDoorCItoa
import Derived.Lib.Builder
import Derived.Lib.AppendStr
import Derived.Lib.Strings
import Derived.Laws.Externs
set_option linter.unusedVariables false
set_option linter.unusedSimpArgs false
set_option maxHeartbeats 4000000
set_option maxRecDepth 100000
namespace Go.Proofs.YtegiloiojloaoaaGreatDoor
open Go.RowKit Go.Shelf Go.Sort Go.Maps
def BTag (o:Obj):Prop:=Tag 5 o∨Tag 120 o
theorem kept_b {base b i:Nat} {cs:Array Value} {w:World} (x:Value) (h:w.heap[b]? = some (.cells cs 120 (0,0))):Kept base BTag w (w.setCell ⟨b,i,none⟩ x)∨b<base:=by
 by_cases hb:b<base
 ·exact .inr hb
 ·refine .inl ⟨rfl,rfl,rfl,by rw[ZF];exact Nat.le_refl _,fun k hk hd=>?_⟩
  refine Q0 w b i k x ?_
  rintro rfl
  rcases hd with hd|hd
  ·omega
  ·exact hd _ h (.inr ⟨_,_,rfl⟩)
theorem kept_bset {base b i:Nat} {cs:Array Value} {w:World} (x:Value) (h:w.heap[b]? = some (.cells cs 120 (0,0))) (hb:base≤b):Kept base BTag w (w.setCell ⟨b,i,none⟩ x):=by
 rcases kept_b (base:=base) (i:=i) x h with h|h
 ·exact h
 ·omega
theorem Kept.toB {base:Nat} {w w':World} (h:Kept base (Tag 5) w w'):Kept base BTag w w':=h.mono (Nat.le_refl _) (fun _ h=>.inl h)
theorem kboxB {base:Nat} {W w1:World} {b:Nat} {cs:Array Value} {t:TypeId} (hk:Kept base BTag W w1) (hb:W.heap[b]? = some (.cells cs t (0,0))) (h5:t≠5) (h120:t≠120):w1.heap[b]? = some (.cells cs t (0,0)):=by
 rw[hk.block b (QD hb) (.inr fun o ho hd=>?_)]
 ·exact hb
 ·rw[hb]at ho
  cases ho
  rcases hd with ⟨cur,fr,e⟩|⟨cur,fr,e⟩
  ·cases e;exact h5 rfl
  ·cases e;exact h120 rfl
theorem copy_used (b:Nat) (w:World) (h0:w.cell? ⟨b,0,none⟩=some (.pointer (some ⟨b,0,none⟩))) :
  Calls Tryz.prog 123 #[.pointer (some ⟨b,0,none⟩)] w fun e w'=>e=.returned (.tuple #[])∧w'=w:=by
 obtain⟨j,hj,_⟩:=Option.map_eq_some_iff.1 (show (Tryz.prog.info? 120).map (·.size)=some 2 by kernel_rfl)
 go_enter Tryz.func123,Tryz.ntmps123
 go_wp2
 rw[Lib.run_neq_ptr_same w _ Tryz.underlying118 hj]
 go_wp2
 go_end0
 exact⟨rfl,rfl⟩
theorem copy_fresh (b:Nat) (w:World) (h0:w.cell? ⟨b,0,none⟩=some (.pointer none)) (hsh:w.shape? b=some (120,2)) (hfz:w.frozen? ⟨b,0,none⟩=false) :
  Calls Tryz.prog 123 #[.pointer (some ⟨b,0,none⟩)] w fun e w'=>e=.returned (.tuple #[])∧w'=w.setCell ⟨b,0,none⟩ (.pointer (some ⟨b,0,none⟩)):=by
 obtain⟨j,hj,hjs⟩:=Option.map_eq_some_iff.1 (show (Tryz.prog.info? 120).map (·.size)=some 2 by kernel_rfl)
 go_enter Tryz.func123,Tryz.ntmps123
 go_wp2
 rw[Lib.run_to_unsafe w ⟨b,0,none⟩ Tryz.underlying118 Tryz.underlying211 hj (by rw[hjs];decide) hsh (Nat.zero_lt_succ 1)]
 simp only[Result.andThen]
 rw[Oper.upon_value]
 go_wp2
 rw[run_callFunc_extern Tryz.func150 (by kernel_rfl) (by kernel_rfl) (by kernel_rfl) (e:=Extern.AbiNoEscape.same) (by kernel_rfl)]
 rw[Lib.run_noEscape]
 simp only[Result.andThen]
 rw[Oper.upon_value]
 go_wp2
 rw[Lib.run_from_unsafe w ⟨b,0,none⟩ Tryz.underlying211 Tryz.underlying118 hj hsh (by kernel_rfl)]
 simp only[Result.andThen]
 rw[Oper.upon_value]
 go_wp2
 go_end0
 exact⟨rfl,rfl⟩
theorem copy_c (B b:Nat) (bs:List Value) (w:World) (h:Lib.IsBuilder 120 5 B b bs w) :
  Calls Tryz.prog 123 #[.pointer (some ⟨b,0,none⟩)] w fun e w'=>e=.returned (.tuple #[])∧(Lib.BuilderAt 120 5 B b (.pointer (some ⟨b,0,none⟩)) bs w'∧Kept B BTag w w'):=by
 rcases h with h|h
 ·refine(copy_fresh b w h.cell0 h.shape h.frozen0).mono ?_
  rintro e w' ⟨rfl,rfl⟩
  obtain⟨hB,v,hbk,_⟩:=h
  exact⟨rfl,Lib.BuilderAt.used ⟨hB,v,hbk,‹_›⟩ _,kept_bset _ hbk hB⟩
 ·refine(copy_used b w h.cell0).mono ?_
  rintro e w' ⟨rfl,rfl⟩
  exact⟨rfl,h,Kept.refl _ _ _⟩
theorem writeString_c (B b:Nat) (bs:List Value) (s:ByteArray) (w:World) (h:Lib.IsBuilder 120 5 B b bs w) (hlen:bs.length+s.size≤2^40) (hBw:B≤w.heap.size) :
  Calls Tryz.prog 85 #[.pointer (some ⟨b,0,none⟩),.string s] w fun e w'=>e=.returned (.tuple #[.int .i64 s.size,.nilIface])∧(Lib.BuilderAt 120 5 B b (.pointer (some ⟨b,0,none⟩)) (bs++Lib.strCells s) w'∧Kept B BTag w w'):=by
 obtain⟨i0,hi,hz0,hz1,hz2⟩:=info_parts Tryz.info5
 go_enter Tryz.func85,Tryz.ntmps85
 go_wp2_with fail
 refine(copy_c B b bs w h).mono ?_
 rintro e w1 ⟨rfl,h1,hb1⟩
 obtain⟨hB,v,hbk,hown,hne⟩:=h1
 have c0:w1.cell? ⟨b,0,none⟩=some (.pointer (some ⟨b,0,none⟩)):=by rw[Lib.cell_of_heap hbk];rfl
 have c1:w1.cell? ⟨b,1,none⟩=some v:=by rw[Lib.cell_of_heap hbk];rfl
 go_wp2_with (at_builtin;refine Lib.wpList_append_own_string _ rfl _ _ 88 9 rfl B 5 i0 Tryz.underlying88 Tryz.underlying9 hi hz0 hz1 hz2 _ _ _ rfl hown s rfl ?c3 ?c4 ?c5 ?_)
 case c3=>unfold maxLen;omega
 case c4=>omega
 case c5=>have:=hb1.size;omega
 intro v' w2 hown' hgrow _
 have hlt:b<w1.heap.size:=QD hbk
 have hb2:w2.heap[b]? = some (.cells #[.pointer (some ⟨b,0,none⟩),v] 120 (0,0)):=by
  rw[hgrow.block b hlt (fun e=>hne e.symm)]
  exact hbk
 have d0:w2.cell? ⟨b,0,none⟩=some (.pointer (some ⟨b,0,none⟩)):=by rw[Lib.cell_of_heap hb2];rfl
 have d1:w2.cell? ⟨b,1,none⟩=some v:=by rw[Lib.cell_of_heap hb2];rfl
 have f1:w2.frozen? ⟨b,1,none⟩=false:=Lib.frozen_of_heap hb2 1
 obtain⟨ao,cap,rfl⟩:=own_shapeB hown'
 go_wp2
 go_ret2
 refine⟨rfl,?_,?_⟩
 ·exact Lib.BuilderAt.put (T:=120) (e:=5) hB hb2 (bs':=bs++Lib.strCells s) (by simpa [Lib.strCells_length] using hown') (by decide)
 ·exact(hb1.trans (Kept.of_grown hgrow hown).toB).trans (kept_bset _ hb2 hB)
theorem writeByte_c (B b:Nat) (bs:List Value) (c:Int) (w:World) (h:Lib.IsBuilder 120 5 B b bs w) (hlen:bs.length+1≤2^40) (hBw:B≤w.heap.size) :
  Calls Tryz.prog 90 #[.pointer (some ⟨b,0,none⟩),.int .u8 c] w fun e w'=>e=.returned .nilIface∧(Lib.BuilderAt 120 5 B b (.pointer (some ⟨b,0,none⟩)) (bs++[.int .u8 c]) w'∧Kept B BTag w w'):=by
 obtain⟨i0,hi,hz0,hz1,hz2⟩:=info_parts Tryz.info5
 go_enter Tryz.func90,Tryz.ntmps90
 go_wp2_with fail
 refine(copy_c B b bs w h).mono ?_
 rintro e w1 ⟨rfl,h1,hb1⟩
 obtain⟨hB,v,hbk,hown,hne⟩:=h1
 have c0:w1.cell? ⟨b,0,none⟩=some (.pointer (some ⟨b,0,none⟩)):=by rw[Lib.cell_of_heap hbk];rfl
 have c1:w1.cell? ⟨b,1,none⟩=some v:=by rw[Lib.cell_of_heap hbk];rfl
 have hlt:b<w1.heap.size:=QD hbk
 go_wp2_with (at_builtin;refine wpList_append_own _ rfl _ _ 88 rfl B 5 i0 (.int .u8 0) 1 1 Tryz.underlying88 hi hz0 hz1 hz2 rfl (by decide) _ _ _ rfl (hown.alloc _) ⟨w1.heap.size,0,none⟩ 1 1 [.int .u8 c] rfl rfl (cell_one_new _ _ _) ?c2 ?c3 ?c4 ?c5 ?_)
 case c2=>intro u hu;simp at hu;subst hu;rfl
 case c3=>unfold maxLen;omega
 case c4=>omega
 case c5=>have:=hb1.size;simp;omega
 intro v' w2 hown' hgrow _
 have hb2:w2.heap[b]? = some (.cells #[.pointer (some ⟨b,0,none⟩),v] 120 (0,0)):=by
  rw[hgrow.block b (by simp;omega) (fun e=>hne e.symm),Lib.alloc_old w1 _ b hlt]
  exact hbk
 have d0:w2.cell? ⟨b,0,none⟩=some (.pointer (some ⟨b,0,none⟩)):=by rw[Lib.cell_of_heap hb2];rfl
 have d1:w2.cell? ⟨b,1,none⟩=some v:=by rw[Lib.cell_of_heap hb2];rfl
 have f1:w2.frozen? ⟨b,1,none⟩=false:=Lib.frozen_of_heap hb2 1
 obtain⟨ao,cap,rfl⟩:=own_shapeB hown'
 go_wp2
 go_ret
 refine⟨rfl,?_,?_⟩
 ·exact Lib.BuilderAt.put (T:=120) (e:=5) hB hb2 (bs':=bs++[.int .u8 c]) (by simpa using hown') (by decide)
 ·exact((hb1.alloc _).trans (Kept.of_grown hgrow (hown.alloc _)).toB).trans (kept_bset _ hb2 hB)
theorem decAux_digits:∀(f m:Nat) (acc:Strd.Bs),m≤f→Strd.decAux f m acc=(if m=0 then [] else Lib.decDigits m)++acc
 |0,m,acc,h=>by
  obtain rfl:m=0:=by omega
  rfl
 |f+1,m,acc,h=>by
  unfold Strd.decAux
  split
  ·rfl
  ·rename_i hm
   rw[decAux_digits f (m / 10) _ (by omega)]
   conv=>rhs;rw[Lib.decDigits]
   by_cases h10:m<10
   ·rw[if_pos (by omega),dif_pos h10]
    have:m % 10=m:=by omega
    rw[this];rfl
   ·rw[if_neg (by omega),dif_neg h10,List.append_assoc]
    rfl
theorem dec_digits (n:Nat):Strd.dec n=Lib.decDigits n:=by
 unfold Strd.dec
 rw[decAux_digits n (n / 10) _ (by omega)]
 conv=>rhs;rw[Lib.decDigits]
 by_cases h10:n<10
 ·rw[if_pos (by omega),dif_pos h10]
  have:n % 10=n:=by omega
  rw[this];rfl
 ·rw[if_neg (by omega),dif_neg h10]
theorem itoa_lib (n:Int):Lib.itoa n=Strd.itoa n:=by
 unfold Lib.itoa Strd.itoa
 rw[dec_digits,dec_digits]
 split
 ·rw[show n.natAbs=(-n).toNat by omega]
 ·rfl
def P10 (w:World):Prop:=Lib.TabIs Tryz.prog w "internal/strconv.uint64pow10" .u64 Lib.pow10Tab
theorem P10.of_block {w w':World} (h:P10 w) (hb:w'.heap[5]? = w.heap[5]?):P10 w':=by
 unfold P10 Lib.TabIs World.var? at *
 rw[show Tryz.prog.globalNamed "internal/strconv.uint64pow10"=some 5 by kernel_rfl]at *
 simp only[Option.bind_some]at *
 rw[hb]
 exact h
theorem P10.kept {w w':World} {base:Nat} {D:Obj→Prop} (h:P10 w) (hk:Kept base D w w') (hb:11≤base) (hw:11≤w.heap.size):P10 w':=
 h.of_block (hk.block 5 (show 5<_ by omega) (.inl (show 5<_ by omega)))
theorem P10.below {w w':World} (h:P10 w) (hb:Below w.heap.size w w') (hw:11≤w.heap.size):P10 w':=h.of_block (hb.block 5 (show 5<_ by omega))
theorem below_grown (w:World) (k:Nat) (os:Array Obj):Below w.heap.size w (grow (w.drewN k) os):=
 ⟨rfl,rfl,rfl,by show w.heap.size≤(w.heap++os).size;rw[Array.size_append];omega,fun j hj=>by show (w.heap++os)[j]? = w.heap[j]?;rw[Array.getElem?_append_left hj]⟩
theorem itoa_c (n:Int) (w:World) (hn:-2^40≤n∧n≤2^40) (hP:P10 w) :
  Calls Tryz.prog 89 #[.int .i64 n] w fun e w'=>e=.returned (.string (bstr (Strd.itoa n)))∧Below w.heap.size w w':=by
 refine(Tryz.strconv_Itoa n (by omega) (by omega) w hP).mono ?_
 rintro e w' ⟨rfl,k,os,rfl⟩
 exact⟨by rw[itoa_lib],below_grown _ k os⟩
theorem word_fixed_at (o:Strd.Op) (h5:o.kind≠5) (h6:o.kind≠6) (k:Nat) (hk:k<13) (wd:Strd.Bs) (kd bs:Int) (hrow:Strd.fixedWords.getD k ([],0,0)=(wd,kd,bs)) (hno:∀j,j<k→¬((Strd.fixedWords.getD j ([],0,0)).2.1=o.kind∧(Strd.fixedWords.getD j ([],0,0)).2.2=o.base)) (h1:kd=o.kind) (h2:bs=o.base):Strd.Q2 o=wd:=by
 unfold Strd.Q2
 rw[if_neg h5,if_neg h6]
 simp only
 rw[find_at Strd.fixedWords (fun r=>r.2.1==o.kind&&r.2.2==o.base) ([],0,0) k hk (by rw[hrow];simp[h1,h2]) (fun j hj=>by
  have:=hno j hj
  simp only[Bool.and_eq_false_iff,beq_eq_false_iff_ne]
  by_cases e:(Strd.fixedWords.getD j ([],0,0)).2.1=o.kind
  ·exact .inr fun e2=>this ⟨e,e2⟩
  ·exact .inl e),hrow]
theorem word_fixed_no (o:Strd.Op) (h5:o.kind≠5) (h6:o.kind≠6) (hno:∀j,j<13→¬((Strd.fixedWords.getD j ([],0,0)).2.1=o.kind∧(Strd.fixedWords.getD j ([],0,0)).2.2=o.base)):Strd.Q2 o=[]:=by
 unfold Strd.Q2
 rw[if_neg h5,if_neg h6]
 simp only
 rw[find_no Strd.fixedWords (fun r=>r.2.1==o.kind&&r.2.2==o.base) ([],0,0) (fun j hj=>by
  have:=hno j hj
  simp only[Bool.and_eq_false_iff,beq_eq_false_iff_ne]
  by_cases e:(Strd.fixedWords.getD j ([],0,0)).2.1=o.kind
  ·exact .inr fun e2=>this ⟨e,e2⟩
  ·exact .inl e)]
theorem Word_fixed (o:Strd.Op) (w:World) (h5:o.kind≠5) (h6:o.kind≠6) (h11:11≤w.heap.size) {tu:Bool} (hT:TabsX tu w) :
  Calls Tryz.prog 86 #[.agg #[.int .i64 o.kind,.int .i64 o.base,.int .i64 o.number,.int .i64 o.first,.int .i64 o.last]] w fun e w'=>e=.returned (.string (bstr (Strd.Q2 o)))∧Below w.heap.size w w':=by
 have H5:=QB h5
 have H6:=QB h6
 have n5:(o.kind==5)=false:=by simpa using h5
 have n6:(o.kind==6)=false:=by simpa using h6
 have Hat:=QB (fun k hk wd kd bs hrow hno h1 h2=>word_fixed_at o h5 h6 k hk wd kd bs hrow hno h1 h2)
 have Hno0:=QB (fun hno=>word_fixed_no o h5 h6 hno)
 generalize Strd.Q2 o=X at *
 obtain⟨k,b,nu,fi,la⟩:=o
 simp only at h5 h6 n5 n6 Hat Hno0 ⊢
 obtain⟨tf,ff,hgf⟩:=hT.fixed
 have hb0:=QF w (.cells #[.int .i64 k,.int .i64 b,.int .i64 nu,.int .i64 fi,.int .i64 la] 94)
 have Hbx:=QB (QH w (.cells #[.int .i64 k,.int .i64 b,.int .i64 nu,.int .i64 fi,.int .i64 la] 94))
 have hgf1:(w.alloc (.cells #[.int .i64 k,.int .i64 b,.int .i64 nu,.int .i64 fi,.int .i64 la] 94)).heap[2]? = some (.cells fixedCells tf ff):=(hb0.block 2 (show 2<_ by omega)).trans hgf
 clear hT hgf
 go_enter Tryz.func86,Tryz.ntmps86
 go_upto_region 1 with fail
 generalize w.alloc (.cells #[.int .i64 k,.int .i64 b,.int .i64 nu,.int .i64 fi,.int .i64 la] 94)=w1 at *
 have z0:=QC (QA Hbx) 0
 simp only[gA,gZ]at z0
 have hl0:=QD (QA Hbx)
 go_wp2_with (refine wpList_load_row rfl 189 _ rfl 2 rfl tf _ ff _ hgf1 Tryz.underlying189 rfl (by kernel_rfl) ?_)
 clear z0
 go_loopw [36] (fun c wr=>∃j:Nat,j≤13∧c=.int .i64 j∧(∀i,i<j→¬((Strd.fixedWords.getD i ([],0,0)).2.1=k∧(Strd.fixedWords.getD i ([],0,0)).2.2=b))∧Below w1.heap.size w1 wr) (fun c _=>13-(intOf c).toNat)
 case atStart=>exact⟨0,by omega,rfl,fun j hj=>by omega,Below.refl _ _⟩
 case round=>
  obtain⟨j,hj,rfl,hno,hbl⟩:=hrel
  have Hno:=QB hno
  clear hno
  have z0:=QC (bbox hbl (QA Hbx)) 0
  have z1:=QC (bbox hbl (QA Hbx)) 1
  simp only[gA,gZ,gS]at z0 z1
  have hlz:=QD (bbox hbl (QA Hbx))
  by_cases hlt:j<13
  ·have hix:=fixed_index j hlt
   obtain⟨wd,kd,bs,hrow⟩:∃wd kd bs,Strd.fixedWords.getD j ([],0,0)=(wd,kd,bs):=⟨_,_,_,rfl⟩
   rw[hrow]at hix
   have Hrow:=QB hrow
   clear hrow
   have hfin:=QE hb0 (QE hbl (QF wr (.cells #[.string (bstr wd),.int .i64 kd,.int .i64 bs] 188)))
   by_cases e1:kd=k
   ·by_cases e2:bs=b
    ·have Hfin:Hid (X=wd):=QB (QA Hat j hlt wd kd bs (QA Hrow) (QA Hno) e1 e2)
     have b1:(kd==k)=true:=by simpa using e1
     have b2:(bs==b)=true:=by simpa using e2
     clear e1 e2
     go_wp2
     go_ret
     exact⟨by rw[QA Hfin];rfl,hfin⟩
    ·have Hno':Hid (∀i,i<j+1→¬((Strd.fixedWords.getD i ([],0,0)).2.1=k∧(Strd.fixedWords.getD i ([],0,0)).2.2=b)):=QB (fun i hi=>by
      by_cases ei:i=j
      ·subst ei;rw[QA Hrow];exact fun h=>e2 h.2
      ·exact QA Hno i (by omega))
     have b1:(kd==k)=true:=by simpa using e1
     have b2:(bs==b)=false:=by simpa using e2
     clear e1 e2
     go_wp2
     go_roundw
     case rel=>exact⟨j+1,by omega,by go_num,QA Hno',QE hbl (QF _ _)⟩
     case measure=>simp[intOf];omega
   ·have Hno':Hid (∀i,i<j+1→¬((Strd.fixedWords.getD i ([],0,0)).2.1=k∧(Strd.fixedWords.getD i ([],0,0)).2.2=b)):=QB (fun i hi=>by
     by_cases ei:i=j
     ·subst ei;rw[QA Hrow];exact fun h=>e1 h.1
     ·exact QA Hno i (by omega))
    have b1:(kd==k)=false:=by simpa using e1
    clear e1
    go_wp2
    go_roundw
    case rel=>exact⟨j+1,by omega,by go_num,QA Hno',QE hbl (QF _ _)⟩
    case measure=>simp[intOf];omega
  ·obtain rfl:j=13:=by omega
   have Hfin:Hid (X=[]):=QB (QA Hno0 (QA Hno))
   go_wp2
   go_ret
   exact⟨by rw[QA Hfin];rfl,QE hb0 hbl⟩
theorem jump_cell {w:World} {tu:Bool} (hT:TabsX tu w) (n:Nat) (hn:n<16):w.cell? ⟨0,n,none⟩=some (.string (bstr (Strd.jumpWords.getD n []))):=by
 obtain⟨t,fr,hm⟩:=hT.jump
 have:w.cell? ⟨0,n,none⟩=jumpCells[n]?:=by simp[World.cell?,hm]
 rw[this]
 unfold jumpCells
 rw[gA,List.getElem?_map,gD,gE (by exact hn)]
 rfl
theorem jump_short (n:Nat) (hn:n<16):(Strd.jumpWords.getD n []).length≤3:=by
 have:∀n,n<16→(Strd.jumpWords.getD n []).length≤3:=by decide
 exact this n hn
theorem end_short (o:Strd.Op):(Strd.ending o).length≤2:=by
 unfold Strd.ending
 split
 ·simp
 ·generalize o.first.toNat=n
  match n with
  |0=>decide
  |1=>decide
  |2=>decide
  |n+3=>simp[Strd.formEndings]
theorem Word_jump (o:Strd.Op) (w:World) (h5:o.kind=5) (hn:0≤o.number∧o.number<16) (hf:0≤o.first∧o.first≤2) (h11:11≤w.heap.size) {tu:Bool} (hT:TabsX tu w) :
  Calls Tryz.prog 86 #[.agg #[.int .i64 o.kind,.int .i64 o.base,.int .i64 o.number,.int .i64 o.first,.int .i64 o.last]] w fun e w'=>e=.returned (.string (bstr (Strd.Q2 o)))∧Below w.heap.size w w':=by
 have hX:Strd.Q2 o=Strd.jumpWords.getD o.number.toNat []++Strd.ending o:=by unfold Strd.Q2;rw[if_pos h5]
 have hes:=end_short o
 have CE:=fun W h1 h2=>ending_c (tu:=tu) o W hf h1 h2
 have hjs:=jump_short o.number.toNat (by omega)
 have hjc:=jump_cell hT o.number.toNat (by omega)
 rw[hX]
 generalize Strd.ending o=E at *
 clear hX
 obtain⟨k,b,nu,fi,la⟩:=o
 simp only at h5 hn hf CE hjs hjc ⊢
 subst h5
 obtain⟨n,rfl⟩:∃n:Nat,nu=(n:Int):=⟨nu.toNat,by omega⟩
 rw[Int.toNat_natCast]at *
 generalize Strd.jumpWords.getD n []=JW at *
 have hb0:=QF w (.cells #[.int .i64 5,.int .i64 b,.int .i64 (n:Int),.int .i64 fi,.int .i64 la] 94)
 have Hbx:=QB (QH w (.cells #[.int .i64 5,.int .i64 b,.int .i64 (n:Int),.int .i64 fi,.int .i64 la] 94))
 have hjc1:=(hb0.cell (p:=⟨0,n,none⟩) (show 0<_ by omega)).trans hjc
 have HT1:=QB (hT.below hb0)
 have h111:11≤(w.alloc (.cells #[.int .i64 5,.int .i64 b,.int .i64 (n:Int),.int .i64 fi,.int .i64 la] 94)).heap.size:=Nat.le_trans h11 hb0.size
 clear hjc hT
 have hnI:(n:Int)<16:=by omega
 go_enter Tryz.func86,Tryz.ntmps86
 go_upto_region 1 with fail
 generalize w.alloc (.cells #[.int .i64 5,.int .i64 b,.int .i64 (n:Int),.int .i64 fi,.int .i64 la] 94)=w1 at *
 generalize hgg:w.heap.size=g at Hbx ⊢
 have z0:=QC (QA Hbx) 0
 simp only[gA,gZ]at z0
 have hl0:=QD (QA Hbx)
 have d0:=cell_regrown ((QC (QA Hbx) 0).trans rfl)
 have d1:=cell_regrown ((QC (QA Hbx) 1).trans rfl)
 have d2:=cell_regrown ((QC (QA Hbx) 2).trans rfl)
 have d3:=cell_regrown ((QC (QA Hbx) 3).trans rfl)
 have d4:=cell_regrown ((QC (QA Hbx) 4).trans rfl)
 have dj:=cell_regrown hjc1
 have cE:∀d os,Calls Tryz.prog 124 #[.agg #[.int .i64 5,.int .i64 b,.int .i64 (n:Int),.int .i64 fi,.int .i64 la]] (grow (redrawn w1 d) os) fun e w''=>e=.returned (.string (bstr E))∧∃p:Regrown,w''=grow (redrawn w1 p.d) p.os:=fun d os=>Calls.regrown_of (CE _ (Nat.le_trans h111 (below_regrown w1 d os).size) ((QA HT1).below (below_regrown w1 d os)))
 have s1:¬9223372036854775807<List.length JW+List.length E:=by omega
 clear CE
 go_upto_region 3 with fail
 refine wp_region_quiet_below (by kernel_rfl) (by kernel_rfl) ?_
 repeat (go_big_quiet_step (first|exact cE _ _))
 refine wpQuiet_nil ?_
 intro _ hw'
 obtain⟨⟨dq,osq⟩,hw''⟩:=hw'
 subst hw''
 have hfin:=QE hb0 (below_regrown w1 dq osq)
 go_wp2
 go_ret
 exact⟨congrArg Ending.returned (congrArg Value.string (QZ (by simp))),hfin⟩
theorem Word_far (o:Strd.Op) (w:World) (h6:o.kind=6) (m:Nat) (hm:m<2) (hb:(Strd.farWords.getD m ([],0)).2=o.base) (hf:0≤o.first∧o.first≤2) (h11:11≤w.heap.size) {tu:Bool} (hT:TabsX tu w) :
  Calls Tryz.prog 86 #[.agg #[.int .i64 o.kind,.int .i64 o.base,.int .i64 o.number,.int .i64 o.first,.int .i64 o.last]] w fun e w'=>e=.returned (.string (bstr (Strd.Q2 o)))∧Below w.heap.size w w':=by
 have hinj:∀i,i<2→∀j,j<2→(Strd.farWords.getD i ([],0)).2=(Strd.farWords.getD j ([],0)).2→i=j:=by decide
 have hX:Strd.Q2 o=(Strd.farWords.getD m ([],0)).1++Strd.ending o:=by
  unfold Strd.Q2
  rw[if_neg (by omega),if_pos h6,find_at Strd.farWords (fun r=>r.2==o.base) ([],0) m hm (by simpa using hb) (fun j hj=>by
   rw[beq_eq_false_iff_ne,←hb]
   intro e
   have:=hinj j (by omega) m hm e
   omega)]
 have hes:=end_short o
 have CE:=fun W h1 h2=>ending_c (tu:=tu) o W hf h1 h2
 have hws:((Strd.farWords.getD m ([],0)).1).length≤3:=by
  have:∀n,n<2→((Strd.farWords.getD n ([],0)).1).length≤3:=by decide
  exact this m hm
 rw[hX]
 generalize Strd.ending o=E at *
 clear hX
 generalize hXX:(Strd.farWords.getD m ([],0)).1++E=X
 have HXX:=QB hXX
 clear hXX
 obtain⟨k,b,nu,fi,la⟩:=o
 simp only at h6 hb hf CE ⊢
 subst h6
 obtain⟨tf,ff,hgf⟩:=hT.far
 have hb0:=QF w (.cells #[.int .i64 6,.int .i64 b,.int .i64 nu,.int .i64 fi,.int .i64 la] 94)
 have Hbx:=QB (QH w (.cells #[.int .i64 6,.int .i64 b,.int .i64 nu,.int .i64 fi,.int .i64 la] 94))
 have hgf1:(w.alloc (.cells #[.int .i64 6,.int .i64 b,.int .i64 nu,.int .i64 fi,.int .i64 la] 94)).heap[1]? = some (.cells farCells tf ff):=(hb0.block 1 (show 1<_ by omega)).trans hgf
 have HT1:=QB (hT.below hb0)
 have h111:11≤(w.alloc (.cells #[.int .i64 6,.int .i64 b,.int .i64 nu,.int .i64 fi,.int .i64 la] 94)).heap.size:=Nat.le_trans h11 hb0.size
 clear hgf hT
 go_enter Tryz.func86,Tryz.ntmps86
 go_upto_region 1 with fail
 generalize w.alloc (.cells #[.int .i64 6,.int .i64 b,.int .i64 nu,.int .i64 fi,.int .i64 la] 94)=w1 at *
 generalize hgg:w.heap.size=g at Hbx ⊢
 have z0:=QC (QA Hbx) 0
 simp only[gA,gZ]at z0
 have hl0:=QD (QA Hbx)
 have CE':=QB CE
 clear CE
 go_wp2_with (refine wpList_load_row rfl 187 _ rfl 1 rfl tf _ ff _ hgf1 Tryz.underlying187 rfl (by kernel_rfl) ?_)
 clear z0
 go_loopw [21] (fun c wr=>∃j:Nat,j≤m∧c=.int .i64 j∧Below w1.heap.size w1 wr) (fun c _=>2-(intOf c).toNat)
 case atStart=>exact⟨0,by omega,rfl,Below.refl _ _⟩
 case round=>
  obtain⟨j,hj,rfl,hbl⟩:=hrel
  have hj2:j<2:=by omega
  have hjI:(j:Int)<2:=by omega
  have hix:=far_index j hj2
  obtain⟨wd,bs,hrow⟩:∃wd bs,Strd.farWords.getD j ([],0)=(wd,bs):=⟨_,_,rfl⟩
  rw[hrow]at hix
  have Hrow:=QB hrow
  clear hrow
  have z1:=QC (bbox hbl (QA Hbx)) 1
  simp only[gA,gZ,gS]at z1
  have hlz:=QD (bbox hbl (QA Hbx))
  by_cases e:j=m
  ·have Hm:Hid (Strd.farWords.getD m ([],0)=(wd,bs)):=QB (by rw[←e];exact QA Hrow)
   have Hfin:Hid (X=wd++E):=QB (by rw[←QA HXX,QA Hm])
   rw[QA Hm]at hb hws
   simp only at hb hws
   subst hb
   clear e
   have hb2:=QF wr (.cells #[.string (bstr wd),.int .i64 bs] 186)
   have Hr2:=QB (QH wr (.cells #[.string (bstr wd),.int .i64 bs] 186))
   have Hx2:=QB (bbox hb2 (bbox hbl (QA Hbx)))
   have hB2:=QE hbl hb2
   go_upto_region 8 with fail
   generalize wr.alloc (.cells #[.string (bstr wd),.int .i64 bs] 186)=w2 at *
   generalize wr.heap.size=g2 at *
   clear z1 hlz
   have y1:=QC (QA Hr2) 1
   have x1:=QC (QA Hx2) 1
   simp only[gA,gZ,gS]at x1 y1
   have hl2:=QD (QA Hr2)
   have hlx:=QD (QA Hx2)
   go_upto_region 9 with fail
   have d0:=cell_regrown ((QC (QA Hx2) 0).trans rfl)
   have d1:=cell_regrown ((QC (QA Hx2) 1).trans rfl)
   have d2:=cell_regrown ((QC (QA Hx2) 2).trans rfl)
   have d3:=cell_regrown ((QC (QA Hx2) 3).trans rfl)
   have d4:=cell_regrown ((QC (QA Hx2) 4).trans rfl)
   have dj:=cell_regrown ((QC (QA Hr2) 0).trans rfl)
   have cE:∀d os,Calls Tryz.prog 124 #[.agg #[.int .i64 6,.int .i64 bs,.int .i64 nu,.int .i64 fi,.int .i64 la]] (grow (redrawn w2 d) os) fun e w''=>e=.returned (.string (bstr E))∧∃p:Regrown,w''=grow (redrawn w2 p.d) p.os:=fun d os=>Calls.regrown_of (QA CE' _ (Nat.le_trans h111 (QE hB2 (below_regrown w2 d os)).size) ((QA HT1).below (QE hB2 (below_regrown w2 d os))))
   have s1:¬9223372036854775807<List.length wd+List.length E:=by omega
   refine wp_region_quiet_below (by kernel_rfl) (by kernel_rfl) ?_
   repeat (go_big_quiet_step (first|exact cE _ _))
   refine wpQuiet_nil ?_
   intro _ hw'
   obtain⟨⟨dq,osq⟩,hw''⟩:=hw'
   subst hw''
   have hfin:=QE hb0 (QE hB2 (below_regrown w2 dq osq))
   go_wp2
   go_ret
   exact⟨by rw[QA Hfin];exact congrArg Ending.returned (congrArg Value.string (QZ (by simp))),by rw[←hgg];exact hfin⟩
  ·have hne:¬bs=b:=by
    intro e2
    have h1:(Strd.farWords.getD j ([],0)).2=bs:=by rw[QA Hrow]
    exact e (hinj j hj2 m hm (by rw[h1,e2,hb]))
   have b2:(bs==b)=false:=by simpa using hne
   have hlm:j<m:=by omega
   clear hne e
   go_wp2
   go_roundw
   case rel=>exact⟨j+1,by omega,by go_num,QE hbl (QF _ _)⟩
   case measure=>simp[intOf];omega
theorem told_kinds:∀o∈Strd.toldOps,(o.kind=5∧0≤o.number∧o.number<16)∨(o.kind=6∧((Strd.farWords.getD 0 ([],0)).2=o.base∨(Strd.farWords.getD 1 ([],0)).2=o.base))∨(o.kind≠5∧o.kind≠6):=by decide +kernel
theorem Word_c (o:Strd.Op) (ho:o∈Strd.toldOps) (w:World) (h11:11≤w.heap.size) {tu:Bool} (hT:TabsX tu w) :
  Calls Tryz.prog 86 #[.agg #[.int .i64 o.kind,.int .i64 o.base,.int .i64 o.number,.int .i64 o.first,.int .i64 o.last]] w fun e w'=>e=.returned (.string (bstr (Strd.Q2 o)))∧Below w.heap.size w w':=by
 have hw:=Strd.told_words o ho
 have hf:0≤o.first∧o.first≤2:=⟨hw.2.2.2.2.2.2.1,hw.2.2.2.2.2.2.2.1⟩
 rcases told_kinds o ho with ⟨h5,hn⟩|⟨h6,hb⟩|⟨h5,h6⟩
 ·exact Word_jump o w h5 hn hf h11 hT
 ·rcases hb with hb|hb
  ·exact Word_far o w h6 0 (by omega) hb hf h11 hT
  ·exact Word_far o w h6 1 (by omega) hb hf h11 hT
 ·exact Word_fixed o w h5 h6 h11 hT
theorem strCells_bstr (s:Strd.Bs):Lib.strCells (bstr s)=s.map encB:=by
 simp[Lib.strCells,encB]
def tailText:List Strd.Bs→Strd.Bs
 |[]=>[]
 |x::xs=>32::x++(xs.map (44::·)).flatten
theorem tail_joined (l:List Strd.Bs):tailText l=Strd.joined l:=by cases l <;> rfl
theorem tail_snoc (l:List Strd.Bs) (x:Strd.Bs):tailText (l++[x])=tailText l++((if l=[] then [32] else [44])++x):=by
 cases l with
 |nil=>simp[tailText]
 |cons a l=>simp[tailText]
def TextAt (B b:Nat) (t:Strd.Bs) (w:World):Prop:=Lib.IsBuilder 120 5 B b (t.map encB) w
theorem TextAt.write {B b:Nat} {t u:Strd.Bs} {w:World} (h:Lib.BuilderAt 120 5 B b (.pointer (some ⟨b,0,none⟩)) (t.map encB++Lib.strCells (bstr u)) w):TextAt B b (t++u) w:=by
 unfold TextAt
 rw[List.map_append]
 rw[strCells_bstr]at h
 exact .inr h
theorem TextAt.below {B b:Nat} {t:Strd.Bs} {w w':World} (h:TextAt B b t w) (hb:Below w.heap.size w w'):TextAt B b t w':=by
 have key:∀p,Lib.BuilderAt 120 5 B b p (t.map encB) w→Lib.BuilderAt 120 5 B b p (t.map encB) w':=fun p ⟨h1,v,h2,h3,h4⟩=>⟨h1,v,bbox hb h2,QO h3 hb,h4⟩
 rcases h with h|h
 ·exact .inl (key _ h)
 ·exact .inr (key _ h)
theorem TabsX.keptT {tu:Bool} {base:Nat} {w w':World} (h:TabsX tu w) (hb:Kept base BTag w w') (hn:11≤base):TabsX tu w':=h.kept hb hn
theorem QS.keptT {base:Nat} {w w':World} {v:Value} {os:List Strd.Opr} (h:QS w v os) (hk:Kept base BTag w w'):QS w' v os:=ZN h hk (fun cur hd=>by
 rcases hd with ⟨_,_,e⟩|⟨_,_,e⟩
 ·cases e
 ·cases e)
theorem ZO.keptT {base base':Nat} {w w':World} {v:Value} {xs:List Int} (h:ZO 160 base' w v xs) (hk:Kept base BTag w w'):ZO 160 base' w' v xs:=ZN h hk (fun cur hd=>by
 rcases hd with ⟨_,_,e⟩|⟨_,_,e⟩
 ·cases e
 ·cases e)
theorem zip_texts (rs:List Int) (os:List Strd.Opr) (k:Nat) (h1:k<rs.length) (h2:k<os.length):(List.zipWith (fun r (o:Strd.Opr)=>Strd.ZE r o.num) rs os).take (k+1)=(List.zipWith (fun r (o:Strd.Opr)=>Strd.ZE r o.num) rs os).take k++[Strd.ZE rs[k] os[k].num]:=by
 rw[List.take_succ_eq_append_getElem (by rw[List.length_zipWith];omega),List.getElem_zipWith]
theorem opr_short (kind r n:Int) (h:Strd.OprOk kind r n):0≤r∧r<4∧-2^40≤n∧n≤2^40∧(Strd.mark r).length≤1∧(Strd.itoa n).length≤9:=by
 have hb:0≤r∧r<4∧-100000000<n∧n<100000000:=by
  rcases h.1 with ⟨h1,h2,h3⟩|⟨h1,h2,h3⟩
  ·omega
  ·omega
 refine⟨hb.1,hb.2.1,by omega,by omega,?_,?_⟩
 ·unfold Strd.mark
  split
  ·simp
  ·split <;> simp
 ·unfold Strd.itoa
  split
  ·have:=Strd.dec_len (-n).toNat 7 (by omega)
   rw[List.length_cons];omega
  ·have:=Strd.dec_len n.toNat 7 (by omega)
   omega
theorem writeLine_c (B b:Nat) (t:Strd.Bs) (i:Strd.Ins) (o:Strd.Op) (ns:List Int) (hTo:Strd.Told i o ns) (vo:Value) (w:World) (hX:TextAt B b t w) (hO:QS w vo i.oprs) (hlen:t.length≤2^20) {tu:Bool} (hT:TabsX tu w) (hP:P10 w) (h11:11≤B) (hBw:B≤w.heap.size) (hbt:b<w.heap.size) :
  Calls Tryz.prog 49 #[.pointer (some ⟨b,0,none⟩),.agg #[.int .i64 i.op.kind,.int .i64 i.op.base,.int .i64 i.op.number,.int .i64 i.op.first,.int .i64 i.op.last,vo]] w fun e w'=>e=.returned (.tuple #[])∧TextAt B b (t++(Strd.Q8 i++[10])) w'∧Kept B BTag w w':=by
 have hio:i.op=o:=by rw[hTo.ins];rfl
 have hol:i.oprs.length=ns.length:=by rw[hTo.ins];simp[Strd.QQ]
 have h2:=hTo.two
 have hwl:=(Strd.told_words o hTo.op).2.2.2.1
 have hrl:(Strd.roles i.op.kind i.oprs.length).length=i.oprs.length:=by rw[hio,hol];exact hTo.len
 have hok:∀k (h1:k<(Strd.roles i.op.kind i.oprs.length).length) (h2:k<i.oprs.length),Strd.OprOk o.kind (Strd.roles i.op.kind i.oprs.length)[k] i.oprs[k].num:=fun k h1 h2=>by
  have hm:=hTo.ok ((Strd.roles o.kind ns.length)[k]'(by rw[←hio,←hol];exact h1),ns[k]'(by omega)) (by
   rw[List.mem_iff_getElem]
   exact⟨k,by rw[List.length_zip];rw[hTo.len];omega,by simp⟩)
  have e1:i.oprs[k].num=ns[k]'(by omega):=by
   have:i.oprs=ns.map fun n=>(⟨[],n⟩:Strd.Opr):=by rw[hTo.ins];rfl
   simp[this]
  rw[e1]
  simp only[hio,hol]
  exact hm
 have hop:=hTo.op
 have hxl:=(Strd.told_parts hTo).2.2.1
 have htx:Strd.Q8 i=Strd.Q2 i.op++tailText (Strd.ZK i):=by rw[tail_joined];rfl
 have hxt:Strd.ZK i=List.zipWith (fun r (o:Strd.Opr)=>Strd.ZE r o.num) (Strd.roles i.op.kind i.oprs.length) i.oprs:=rfl
 obtain⟨po,co,rfl⟩:=hO.shape
 subst hio
 have HO:=QB hO
 have HX:=QB hX
 have HT:=QB hT
 have HP:=QB hP
 have Hok:=QB hok
 have Htx:=QB htx
 have Hxt:=QB hxt
 have CW:=QB (fun W h1 h2=>Word_c (tu:=tu) i.op hop W h1 h2)
 generalize Strd.Q8 i=IT at *
 generalize Strd.Q2 i.op=WO at *
 generalize Strd.ZK i=TX at *
 have hb1:=QF w (.cells #[.int .i64 i.op.kind,.int .i64 i.op.base,.int .i64 i.op.number,.int .i64 i.op.first,.int .i64 i.op.last,.slice po i.oprs.length co] 97)
 have Hx1:=QB (QH w (.cells #[.int .i64 i.op.kind,.int .i64 i.op.base,.int .i64 i.op.number,.int .i64 i.op.first,.int .i64 i.op.last,.slice po i.oprs.length co] 97))
 have Hol:=QB hol
 have Hrl:=QB hrl
 have Hxl:=QB hxl
 have h2':i.oprs.length≤2:=by omega
 clear hO hX hT hP hok htx hxt hTo hop hol hrl hxl
 go_enter Tryz.func49,Tryz.ntmps49
 go_upto_region 1 with fail
 have HO1:=QB ((QA HO).below hb1)
 have HX1:=QB ((QA HX).below hb1)
 have HT1:=QB ((QA HT).below hb1)
 have HP1:=QB ((QA HP).below hb1 (Nat.le_trans h11 hBw))
 have hs1:=hb1.size
 generalize w.alloc (.cells #[.int .i64 i.op.kind,.int .i64 i.op.base,.int .i64 i.op.number,.int .i64 i.op.first,.int .i64 i.op.last,.slice po i.oprs.length co] 97)=w1 at *
 have e0:=QC (QA Hx1) 0
 have e1:=QC (QA Hx1) 1
 have e2:=QC (QA Hx1) 2
 have e3:=QC (QA Hx1) 3
 have e4:=QC (QA Hx1) 4
 simp only[gA,gZ,gS]at e0 e1 e2 e3 e4
 have hl1:=QD (QA Hx1)
 go_wp2_with fail
 refine(QA CW w1 (by omega) (QA HT1)).mono ?_
 rintro e w2 ⟨rfl,hb2⟩
 go_wp2_with fail
 refine(writeString_c B b (t.map encB) (bstr WO) w2 ((QA HX1).below hb2) (by rw[List.length_map,ZA];omega) (Nat.le_trans hBw (Nat.le_trans hs1 hb2.size))).mono ?_
 rintro e w3 ⟨rfl,hX3,hk3⟩
 have HX3:=QB (TextAt.write hX3)
 have hk13:Kept B BTag w1 w3:=(Kept.of_below hb2).trans hk3
 have Hx3:=QB (kboxB hk13 (QA Hx1) (by decide) (by decide))
 have HO3:=QB ((QA HO1).keptT hk13)
 have HT3:=QB ((QA HT1).keptT hk13 h11)
 have HP3:=QB ((QA HP1).kept hk13 h11 (by omega))
 have hs3:=hk13.size
 clear hX3 e0 e1 e2 e3 e4
 have e0:=QC (QA Hx3) 0
 have e5:=QC (QA Hx3) 5
 simp only[gA,gZ,gS]at e0 e5
 have hl3:=QD (QA Hx3)
 go_wp2_with fail
 refine(Roles_c i.op.kind i.oprs.length w3 (by omega)).mono ?_
 rintro e w4 ⟨vr,rfl,hR4,hb4⟩
 obtain⟨pr,cr,rfl⟩:=own_shapeB hR4
 rw[QA Hrl]
 have HR4:=QB hR4
 have HX4:=QB ((QA HX3).below hb4)
 have Hx4:=QB (bbox hb4 (QA Hx3))
 have HO4:=QB ((QA HO3).below hb4)
 have HT4:=QB ((QA HT3).below hb4)
 have HP4:=QB ((QA HP3).below hb4 (by omega))
 have hs4:=hb4.size
 have hk14:Kept B BTag w1 w4:=hk13.trans (.of_below hb4)
 generalize hRS:Strd.roles i.op.kind i.oprs.length=RS at *
 have HRS:=QB hRS
 clear hR4 e0 e5 hRS
 go_wp2_with fail
 go_loopw [4,20] (fun c4 c20 wr=>∃k:Nat,k≤i.oprs.length∧c20=.int .i64 k∧c4=.string (bstr (if k=0 then [32] else [44]))∧TextAt B b (t++WO++tailText (TX.take k)) wr∧(tailText (TX.take k)).length≤11*k∧Kept B BTag w4 wr) (fun _ c _=>i.oprs.length-(intOf c).toNat)
 case atStart=>exact⟨0,by omega,rfl,rfl,by simpa [tailText] using QA HX4,by simp[tailText],Kept.refl _ _ _⟩
 case round=>
  obtain⟨k,hk,rfl,rfl,hXr,htl,hkr⟩:=hrel
  have HXr:=QB hXr
  clear hXr
  have Hxr:=QB (kboxB hkr (QA Hx4) (by decide) (by decide))
  have HOr:=QB ((QA HO4).keptT hkr)
  have HTr:=QB ((QA HT4).keptT hkr h11)
  have HPr:=QB ((QA HP4).kept hkr h11 (by omega))
  have hsr:=hkr.size
  by_cases hlt:k<i.oprs.length
  ·have hltI:(k:Int)<(i.oprs.length:Int):=by omega
   have hkR:k<RS.length:=by rw[QA Hrl];exact hlt
   obtain⟨br,hbr,-,hbrl,hcr⟩:=((QA HR4).keptT hkr).at k hkR
   subst hbr
   obtain⟨bo,hpo,-,hbol,hc0,hc1⟩:=QS.at (QA HOr) k hlt
   subst hpo
   have hOk:=QA Hok k hkR hlt
   have Htk:Hid (TX.take (k+1)=TX.take k++[Strd.ZE RS[k] i.oprs[k].num]):=QB (by rw[QA Hxt,zip_texts _ _ _ hkR hlt])
   obtain⟨hr0,hr4,hn0,hn1,hms,his⟩:=opr_short _ _ _ hOk
   have Htl2:Hid (tailText (TX.take (k+1))=tailText (TX.take k)++((if k=0 then [32] else [44])++(Strd.mark RS[k]++Strd.itoa i.oprs[k].num))):=QB (by
    rw[QA Htk,tail_snoc]
    congr 2
    ·have:(TX.take k=[])↔k=0:=by
      rw[←List.length_eq_zero_iff,List.length_take,QA Hxl,←QA Hol]
      omega
     by_cases hk0:k=0
     ·rw[if_pos hk0,if_pos (this.2 hk0)]
     ·rw[if_neg hk0,if_neg (fun h=>hk0 (this.1 h))])
   have HWc:Hid (∀W,Kept B BTag wr W→W.cell? ⟨w.heap.size,5,none⟩=some (.slice (some ⟨bo,0,none⟩) i.oprs.length co)∧W.cell? ⟨bo,k*2+1,none⟩=some (.int .i64 i.oprs[k].num)):=QB (fun W hk=>by
    have a5:=QC (kboxB hk (QA Hxr) (by decide) (by decide)) 5
    simp only[gA,gZ,gS]at a5
    obtain⟨bo2,hpo2,-,-,-,hc2⟩:=QS.at ((QA HOr).keptT hk) k hlt
    cases hpo2
    exact⟨a5,hc2⟩)
   have CM:=QB (fun W hT=>Mark_c (tu:=tu) RS[k] W hr0 hr4 hT)
   have CI:=QB (fun W hP=>itoa_c i.oprs[k].num W ⟨hn0,hn1⟩ hP)
   generalize hPr:(if k=0 then [32] else [44]:Strd.Bs)=PR at *
   have hPl:PR.length=1:=by rw[←hPr];split <;> rfl
   generalize hTK:tailText (TX.take k)=TK at *
   generalize hTK':tailText (TX.take (k+1))=TK' at *
   have HTKe:=QB hTK'
   generalize Strd.mark RS[k]=MK at *
   generalize Strd.itoa i.oprs[k].num=IN at *
   generalize i.oprs[k].num=N at *
   generalize RS[k]=r at *
   have s1:¬9223372036854775807<List.length PR+List.length MK:=by omega
   have s2:¬9223372036854775807<List.length PR+List.length MK+List.length IN:=by omega
   have hlenA:((t++WO++TK).map encB).length≤2^21:=by simp only[List.length_map,List.length_append];omega
   have hsz:(bstr PR++bstr MK++bstr IN:ByteArray).size≤2^20:=by
    have e:(bstr PR++bstr MK++bstr IN:ByteArray)=bstr (PR++MK++IN):=QZ (by simp)
    rw[e,ZA]
    simp only[List.length_append];omega
   have HPl:=QB hPl
   have hkd:Kept B BTag wr wr.drew:=(Kept.refl _ _ _).drew
   have hbs2:b<wr.heap.size:=by omega
   clear hc0 hc1 hTK hTK' hPr hOk hPl
   go_wp2_with fail
   go_region_held3 (fun W=>W.cell? ⟨w.heap.size,5,none⟩=some (.slice (some ⟨bo,0,none⟩) i.oprs.length co)∧W.cell? ⟨bo,k*2+1,none⟩=some (.int .i64 N)) (first
    |with_reducible exact QA HWc _ hkd
    |with_reducible exact QA HWc _ hkI
    |with_reducible exact QA HWc _ hkS) (first
    |(go_at_call 88;refine(QA CM _ ((QA HTr).keptT hkd h11)).mono ?_;rintro e w' ⟨rfl,rfl⟩)
    |(go_at_call 89;refine(QA CI _ ((QA HPr).kept hkd h11 (by omega))).mono ?_;rintro e wI ⟨rfl,hbI⟩;have hkI:Kept B BTag wr wI:=hkd.trans (.of_below hbI))
    |(go_at_call 85;refine(writeString_c B b ((t++WO++TK).map encB) (bstr PR++bstr MK++bstr IN) wI ((QA HXr).below (QE (QW (Below.refl _ _)) hbI)) (Nat.le_trans (Nat.add_le_add hlenA hsz) (by decide)) (by have:=hkI.size;omega)).mono ?_;rintro e wS ⟨rfl,hXS,hkS0⟩;have hkS:Kept B BTag wr wS:=hkI.trans hkS0;have HXS:=QB hXS;clear hXS))
   have HXN:Hid (TextAt B b (t++WO++TK') wS):=QB (by
    have e:(bstr PR++bstr MK++bstr IN:ByteArray)=bstr (PR++(MK++IN)):=QZ (by simp)
    have:=TextAt.write (e ▸ QA HXS)
    rw[QA Htl2,←List.append_assoc]
    exact this)
   have hlN:TK'.length≤11*(k+1):=by
    rw[QA Htl2]
    have:=QA HPl
    simp only[List.length_append];omega
   have hkN:Kept B BTag w4 wS:=hkr.trans hkS
   go_wp2_with fail
   go_roundw
   case rel=>exact⟨k+1,by omega,by first|rfl|(congr 1;omega),rfl,by rw[←QA HTKe]at HXN;exact QA HXN,by rw[QA HTKe];exact hlN,hkN⟩
   case measure=>simp[intOf];omega
  ·have hltI:¬(k:Int)<(i.oprs.length:Int):=by omega
   obtain rfl:k=i.oprs.length:=by omega
   have Hfin:Hid (t++WO++tailText (TX.take i.oprs.length)=t++IT):=QB (by
    rw[QA Htx,List.take_of_length_le (by rw[QA Hxl,QA Hol];exact Nat.le_refl _),List.append_assoc])
   have hlx:(tailText (TX.take i.oprs.length)).length≤11*i.oprs.length:=htl
   generalize (if i.oprs.length=0 then [32] else [44]:Strd.Bs)=PR at *
   go_wp2_with fail
   refine(writeByte_c B b ((t++WO++tailText (TX.take i.oprs.length)).map encB) 10 wr (QA HXr) (by simp;omega) (by omega)).mono ?_
   rintro e w5 ⟨rfl,hX5,hk5⟩
   have HX5:Hid (TextAt B b (t++(IT++[10])) w5):=QB (by
    rw[QA Hfin]at hX5
    refine .inr ?_
    have e:(t++(IT++[10])).map encB=(t++IT).map encB++[.int .u8 10]:=by simp[encB]
    rw[e]
    exact hX5)
   have hkf:Kept B BTag w w5:=((Kept.of_below hb1).trans hk14).trans (hkr.trans hk5)
   clear hX5
   go_wp2
   go_end0
   exact⟨rfl,QA HX5,hkf⟩
end Go.Proofs.YtegiloiojloaoaaGreatDoor
