/- Reaches: the source with a label ahead of each jump and behind it; where the bytes lead, there the label is. -/
import Derived.Test.YtegiloiojloaoaaGreatDoorCSpec
import Derived.Test.YtegiloiojloaoaaGreatDoorCImg
import Derived.Test.YtegiloiojloaoaaGreatDoorCItoa
import Derived.Maps.AppendAt
import Derived.Deep.RegionHeld3
import Derived.Deep.DeepCutAuto
import Derived.Deep.CutRange
import Derived.Deep.CutBlock
import Derived.Lib.QuietBelow
import Derived.BigQuiet
import Derived.Test.YtegiloiojloaoaaGreatDoorCRf0
set_option linter.unusedVariables false
set_option linter.unusedSimpArgs false
set_option maxHeartbeats 4000000
set_option maxRecDepth 1000000
namespace Go.Proofs.YtegiloiojloaoaaGreatDoor.Strd
def kn (n:Nat):Bs:=107::dec n
end Go.Proofs.YtegiloiojloaoaaGreatDoor.Strd
namespace Go.Proofs.YtegiloiojloaoaaGreatDoor
open Go.RowKit Go.Shelf Go.Sort Go.Maps
theorem row_tagN {w:World} {base n size k:Nat} {e:TypeId} {v:Value} {xs:List Value} (h:w.ownsRow base e size v n xs) (hk:v.ownBlock=some k):base≤k∧k<w.heap.size∧∃cur,w.heap[k]? = some (.cells cur e (0,0)):=by
 rcases h.2 with ⟨rfl,_⟩|⟨g,cap,cur,rfl,hb,hx,_⟩
 ·cases hk
 ·simp only[Value.ownBlock,Option.some.injEq]at hk
  subst hk
  exact⟨hb,QD hx,cur,hx⟩
theorem row_keptN {w w':World} {base n size:Nat} {e:TypeId} {v:Value} {xs:List Value} (h:w.ownsRow base e size v n xs) (hb:∀k,v.ownBlock=some k→w'.heap[k]? = w.heap[k]?):w'.ownsRow base e size v n xs:=by
 refine⟨h.1,?_⟩
 rcases h.2 with ⟨rfl,h0⟩|⟨g,cap,cur,rfl,h1,hx,h2⟩
 ·exact .inl ⟨rfl,h0⟩
 ·exact .inr ⟨g,cap,cur,rfl,h1,by rw[hb g rfl];exact hx,h2⟩
theorem dis_tagsN {W:World} {u v:Value} {b n size n' size':Nat} {e e':TypeId} {xs ys:List Value} (hu:W.ownsRow b e size u n xs) (hv:W.ownsRow b e' size' v n' ys) (he:e≠e'):∀k,u.ownBlock=some k→v.ownBlock≠some k:=fun k h1 h2=>by
 obtain⟨_,_,c1,h3⟩:=row_tagN hu h1
 obtain⟨_,_,c2,h4⟩:=row_tagN hv h2
 rw[h3]at h4;cases h4;exact he rfl
theorem own_shapeN {w:World} {base n size:Nat} {e:TypeId} {v:Value} {xs:List Value} (h:w.ownsRow base e size v n xs):∃p cap,v=.slice p n cap:=by
 rcases h.2 with ⟨rfl,h0⟩|⟨g,cap,cur,rfl,_⟩
 ·exact⟨none,0,by rw[h0]⟩
 ·exact⟨_,_,rfl⟩
def labelsOf (lines:List Strd.Line):List Strd.Bs:=(lines.map (·.label)).filter (· != [])
def namesOf (lines:List Strd.Line) (st:List Int):List (Strd.Bs×Int):=((labelsOf lines).mergeSort leB).map fun n=>(n,Strd.placeOf lines st n)
def nameCells (l:List (Strd.Bs×Int)):List Value:=(l.map fun p=>[Value.string (bstr p.1),.int .i64 p.2]).flatten
def NamesAt (base:Nat) (w:World) (v:Value) (l:List (Strd.Bs×Int)):Prop:=w.ownsRow base 37 2 v l.length (nameCells l)
theorem NamesAt.below {base:Nat} {w w':World} {v:Value} {l:List (Strd.Bs×Int)} (h:NamesAt base w v l) (hb:Below w.heap.size w w'):NamesAt base w' v l:=QO h hb
theorem nameCells_snoc (l:List (Strd.Bs×Int)) (p:Strd.Bs×Int):nameCells (l++[p])=nameCells l++[Value.string (bstr p.1),.int .i64 p.2]:=by simp[nameCells]
theorem mem_labels (lines:List Strd.Line) (n:Strd.Bs):n∈labelsOf lines↔n≠[]∧∃l∈lines,l.label=n:=by
 unfold labelsOf
 rw[List.mem_filter,List.mem_map]
 constructor
 ·rintro ⟨⟨l,h1,h2⟩,h3⟩
  exact⟨by simpa using h3,l,h1,h2⟩
 ·rintro ⟨h3,l,h1,h2⟩
  exact⟨⟨l,h1,h2⟩,by simpa using h3⟩
theorem labels_nodup (lines:List Strd.Line) (h:Strd.Fresh lines):(labelsOf lines).Nodup:=by
 unfold labelsOf
 rw[List.Nodup,List.pairwise_filter,List.pairwise_map]
 exact h.imp fun h0 h1 _=>h0 (by simpa using h1)
theorem hasLabel_mem (lines:List Strd.Line) (n:Strd.Bs):Strd.hasLabel lines n=true↔n∈labelsOf lines:=by
 rw[mem_labels]
 unfold Strd.hasLabel
 rw[Bool.and_eq_true,List.any_eq_true]
 simp
theorem keys_labels {w:World} {gm n:Nat} {lines:List Strd.Line} {D:DataW Unit} (hown:w.ownsMap Tryz.prog 9 (plainElem Tryz.prog 3) gm n D) (hhas:∀s:Strd.Bs,Maps.has D (.string s)=Strd.hasLabel lines s) (hf:Strd.Fresh lines):(labelsOf lines).Perm (strKeys D):=by
 obtain⟨es,hD,hpw,_⟩:=hown.entries law9
 obtain⟨es',hD',hko⟩:=hown.keysOf
 obtain rfl:es=es':=by rw[hD]at hD';simpa using hD'
 subst hD
 exact perm_strKeys hpw (fun p hp=>by obtain⟨v,hv⟩:=hko p hp;obtain⟨x,_,hx,_⟩:=Maps.keyOf_str Tryz.underlying9 hv;exact⟨x,hx⟩) (labels_nodup lines hf) (fun x=>by rw[hhas];exact(hasLabel_mem lines x).symm)
theorem keys_size {H:Type} (D:DataW H):(strKeys D).length=Maps.size D:=by
 cases D <;> simp[strKeys,Maps.size]
theorem sorted_c (gm nn:Nat) (D0:DataW Unit) (w:World) (hown:w.ownsMap Tryz.prog 9 (plainElem Tryz.prog 3) gm nn D0) (hmax:Maps.size D0≤2^20) :
  Calls Tryz.prog 44 #[.func (.func 82) #[] #[.pointer (some ⟨w.heap.size,0,none⟩)]] (w.alloc (.cells #[.map (some gm)] 62)) fun e w'=>∃(v:Value),e=.returned v ∧
   w'.ownsRow (w.alloc (.cells #[.map (some gm)] 62)).heap.size 9 1 v (Maps.size D0) (((strKeys D0).mergeSort leB).map encStr)∧Below (w.alloc (.cells #[.map (some gm)] 62)).heap.size (w.alloc (.cells #[.map (some gm)] 62)) w':=by
 refine((callsIn_wide (n:=5)).1 (Tryz.slices_Sorted_keys_44_45 gm nn D0 _ w hown (by unfold maxLen;omega) (by omega))).mono ?_
 rintro e w' ⟨v,ss,rfl,hS,hrow,_,hb⟩
 refine⟨v,rfl,?_,hb⟩
 have h1:=mergeSort_of_perm hS
 have h2:ss.length=Maps.size D0:=by rw[hS.length_eq,keys_size]
 rw[h2]at hrow
 rw[←h1]
 exact hrow
theorem keys_c (gm:Nat) (W:World):Calls Tryz.prog 45 #[.map (some gm)] W fun e w'=>e=.returned (.func (.func 82) #[] #[.pointer (some ⟨W.heap.size,0,none⟩)])∧w'=W.alloc (.cells #[.map (some gm)] 62):=
 (callsIn_wide (n:=5)).1 (Tryz.maps_Keys_45 (some gm) W)
theorem clone_c (s:ByteArray) (w:World) (hs:s.size≤2^20):Calls Tryz.prog 46 #[.string s] w fun e w'=>e=.returned (.string s)∧Below w.heap.size w w':=by
 go_enter Tryz.func46,Tryz.ntmps46
 go_wp2_with fail
 refine(Tryz.stringslite_Clone s _ (by omega)).mono ?_
 rintro e w1 ⟨rfl,hb⟩
 go_wp2
 go_ret
 exact⟨rfl,hb⟩
theorem Tryz.info37:(Tryz.prog.info? 37).map (fun i=>(i.zero,i.size,i.bytes))=some (some (.agg #[.string ⟨#[]⟩,.int .i64 0]),2,24):=by kernel_rfl
theorem cells_two_new (w:World) (x y:Value) (e:TypeId):∀j u,[x,y][j]? = some u→(w.alloc (.cells #[x,y] e)).cell? ((⟨w.heap.size,0,none⟩:Addr).add j)=some u:=fun j u h=>by
 rw[Addr.add_lit,Nat.zero_add,QC (QH w (.cells #[x,y] e)) j,gA]
 exact h
theorem two_one (s:Strd.Bs) (n:Int):∀u∈[Value.string (bstr s),.int .i64 n],u.oneCell'=true:=by
 intro u hu
 simp only[List.mem_cons,List.not_mem_nil,or_false]at hu
 rcases hu with rfl|rfl <;> rfl
theorem row_base {w:World} {b b' n size:Nat} {e:TypeId} {v:Value} {xs:List Value} (h:w.ownsRow b e size v n xs) (hb:b'≤b):w.ownsRow b' e size v n xs:=by
 refine⟨h.1,?_⟩
 rcases h.2 with h0|⟨g,cap,cur,rfl,h1,h2⟩
 ·exact .inl h0
 ·exact .inr ⟨g,cap,cur,rfl,Nat.le_trans hb h1,h2⟩
theorem sorted_name {w:World} {base n:Nat} {v:Value} {ss:List Strd.Bs} (h:w.ownsRow base 9 1 v n (ss.map encStr)) (k:Nat) (hk:k<ss.length):∃g cap,v=.slice (some ⟨g,0,none⟩) n cap∧g<w.heap.size∧w.cell? ⟨g,k,none⟩=some (.string (bstr ss[k])):=by
 rcases h.2 with ⟨rfl,h0⟩|⟨g,cap,cur,rfl,hb,hx,h1,h2,h3,h4⟩
 ·have:=h.1
  rw[List.length_map]at this
  omega
 ·refine⟨g,cap,rfl,QD hx,?_⟩
  have hl:=h.1
  rw[List.length_map]at hl
  rw[QC hx k]
  have:(cur.toList.take (n*1))[k]? = some (encStr ss[k]):=by rw[h4,List.getElem?_map,gE hk];rfl
  rw[List.getElem?_take,if_pos (by omega),Array.getElem?_toList]at this
  exact this
theorem PNames_c (base gp:Nat) (r:Strd.Rd) (fs st:List Int) (w:World) (hP:PlanAt base w gp r fs st) (hlen:r.lines.length≤2^20) (hfr:Strd.Fresh r.lines) (hnm:∀l∈r.lines,l.label.length≤2^20) :
  Calls Tryz.prog 32 #[.pointer (some ⟨gp,0,none⟩)] w fun e w'=>∃v,e=.returned v∧NamesAt w.heap.size w' v (namesOf r.lines st)∧Below w.heap.size w w':=by
 have HP:=QB hP
 obtain⟨⟨p,cap,gm,qs,vf,vs,hbx,_,hLab,_,hf,hs⟩,_,_,_⟩:=hP
 obtain⟨D,hown,hhas,hat⟩:=hLab
 have hperm:=keys_labels hown hhas hfr
 have hsz:Maps.size D=(labelsOf r.lines).length:=by rw[←keys_size,hperm.length_eq]
 have hll:(labelsOf r.lines).length≤2^20:=Nat.le_trans (List.length_filter_le _ _) (by rw[List.length_map];exact hlen)
 have hsort:(strKeys D).mergeSort leB=(labelsOf r.lines).mergeSort leB:=(mergeSort_of_perm hperm).symm
 have hslen:((labelsOf r.lines).mergeSort leB).length=Maps.size D:=by rw[hsz];exact(List.mergeSort_perm _ _).length_eq
 have hmem:∀n∈(labelsOf r.lines).mergeSort leB,n≠[]∧n.length≤2^20:=fun n hn=>by
  have h1:=(mem_labels r.lines n).1 ((List.mergeSort_perm _ _).mem_iff.1 hn)
  obtain⟨h2,l,h3,h4⟩:=h1
  exact⟨h2,by rw[←h4];exact hnm l h3⟩
 have HNm:Hid (namesOf r.lines st=((labelsOf r.lines).mergeSort leB).map fun n=>(n,Strd.placeOf r.lines st n)):=QB rfl
 generalize namesOf r.lines st=NM at *
 generalize (labelsOf r.lines).mergeSort leB=ss at *
 have hN:Maps.size D≤2^20:=by omega
 have Hown:=QB hown
 have Hsort:=QB hsort
 have Hmem:=QB hmem
 have Hbx:=QB hbx
 have c2:=QC hbx 2
 simp only[gA,gZ,gS]at c2
 have hgl:=QD hbx
 have hlenm:=hown.len Tryz.underlying62
 generalize hMS:Maps.size D=N at *
 have HMS:=QB hMS
 clear hperm hsort hown hhas hat hsz hll hmem hbx hf hs hMS
 obtain⟨i0,hi,hz0,hz1,hz2⟩:=info_parts Tryz.info37
 go_enter Tryz.func32,Tryz.ntmps32
 go_wp2_with (at_make;refine wpList_make_own _ rfl _ _ 33 rfl w.heap.size 37 i0 (.agg #[.string ⟨#[]⟩,.int .i64 0]) 2 Tryz.underlying33 hi hz0 hz1 .i64 .i64 _ N rfl rfl rfl (by rw[hz2];omega) (by unfold maxLen;omega) (Nat.le_refl _) ?_;intro w1 hrow0 hgrow0;have hb1:Below w.heap.size w w1:=⟨hgrow0.os,hgrow0.tape,hgrow0.output,hgrow0.size,fun k hk=>hgrow0.block k hk (by simp)⟩;have Hrow0:=QB hrow0;have c2':=(hb1.cell (p:=⟨gp,2,none⟩) hgl).trans c2;have hgl1:=Nat.lt_of_lt_of_le hgl hb1.size;clear hrow0 hgrow0)
 refine(keys_c gm w1).mono ?_
 rintro e w2 ⟨rfl,hw2⟩
 have Hown1:=QB (ownsMap_block (QA Hown) (hb1.block gm (QA Hown).lt))
 have csort:=sorted_c gm _ D w1 (QA Hown1) (by rw[QA HMS];omega)
 rw[QA HMS,QA Hsort]at csort
 rw[←hw2]at csort
 have hb2:Below w1.heap.size w1 w2:=by rw[hw2];exact QF _ _
 have Csort:=QB csort
 clear hw2 csort
 go_wp2_with fail
 refine(QA Csort).mono ?_
 rintro e w3 ⟨v3,rfl,hrow3,hb3⟩
 obtain⟨p3,c3,rfl⟩:=own_shapeN hrow3
 have Hrow3:=QB hrow3
 have hB3:=QE hb1 (QE hb2 hb3)
 have Hr3:=QB (QO (QO (QA Hrow0) hb2) hb3)
 clear hrow3
 go_wp2_with fail
 have Hs3:=QB (row_base (QA Hrow3) (Nat.le_trans hb1.size hb2.size))
 go_loopw [3,21] (fun c4 c21 wr=>∃k:Nat,k≤N∧World.ownsRow wr w.heap.size 37 2 c4 k (nameCells (NM.take k))∧c21=.int .i64 k∧Below w.heap.size w wr∧World.ownsRow wr w.heap.size 9 1 (.slice p3 N c3) N (ss.map encStr)) (fun _ c _=>N-(intOf c).toNat)
 case atStart=>exact⟨0,by omega,QA Hr3,rfl,hB3,QA Hs3⟩
 case round=>
  obtain⟨k,hk,hrow,rfl,hbr,hsr⟩:=hrel
  have Hrow:=QB hrow
  have Hsr:=QB hsr
  obtain⟨p4,c4,rfl⟩:=own_shapeN hrow
  have hslen':=hslen
  by_cases hlt:k<N
  ·have hltI:(k:Int)<(N:Int):=by omega
   obtain⟨g3,cap3,hv3,hg3,hc3⟩:=sorted_name hsr k (by rw[hslen];exact hlt)
   have Hsn:Hid (NM.take (k+1)=NM.take k++[(ss[k]'(by rw[hslen];exact hlt),Strd.placeOf r.lines st (ss[k]'(by rw[hslen];exact hlt)))]):=QB (by
    have hl:NM.length=N:=by rw[QA HNm,List.length_map,hslen]
    rw[List.take_succ_eq_append_getElem (by rw[hl];exact hlt)]
    congr 2
    have:NM[k]? = some (ss[k]'(by rw[hslen];exact hlt),Strd.placeOf r.lines st (ss[k]'(by rw[hslen];exact hlt))):=by
     rw[QA HNm,List.getElem?_map,gE (by rw[hslen];exact hlt)];rfl
    rw[gE (by rw[hl];exact hlt)]at this
    exact Option.some.inj this)
   have hname:=QA Hmem _ (List.getElem_mem (l:=ss) (n:=k) (by rw[hslen];exact hlt))
   have hntk:(NM.take k).length=k:=by rw[List.length_take,QA HNm,List.length_map,hslen];omega
   generalize ss[k]'(by rw[hslen];exact hlt)=nm at *
   obtain⟨hn0,hnl⟩:=hname
   have Hn0:=QB hn0
   simp only[Value.slice.injEq]at hv3
   obtain⟨hp3,_,hc3'⟩:=hv3
   subst hp3
   have hwk:IntKind.i64.wrap ((k:Int)+1)=(k:Int)+1:=IntWalk.i64_in _ (by omega)
   clear hrow hsr hslen hslen' hn0 hc3' hntk
   go_wp2_with fail
   refine(clone_c (bstr nm) wr (by rw[ZA];exact hnl)).mono ?_
   rintro e w4 ⟨rfl,hb4⟩
   have hB4:=QE hbr hb4
   go_wp2_with fail
   refine(place_c base gp r fs st (bstr nm) w4 ((QA HP).below hB4) (by rw[Q4];exact QA Hn0) (by rw[ZA];exact hnl) (by omega)).mono ?_
   rintro e w5 ⟨rfl,hb5⟩
   rw[Q4]
   have hB5:=QE hB4 hb5
   have Hrow5:=QB (QO (QO (QA Hrow) hb4) hb5)
   have Hsr5:=QB (QO (QO (QA Hsr) hb4) hb5)
   generalize Strd.placeOf r.lines st nm=pl at *
   go_wp2_with (first|(at_builtin;refine wpList_append_own _ rfl _ _ 33 rfl w.heap.size 37 i0 (.agg #[.string ⟨#[]⟩,.int .i64 0]) 2 24 Tryz.underlying33 hi hz0 hz1 hz2 rfl (by decide) _ _ _ rfl ((QA Hrow5).alloc _) ⟨w5.heap.size,0,none⟩ 1 1 [.string (bstr nm),.int .i64 pl] ?cx rfl ?c1 ?c2 ?c3 ?c4 ?c5 ?_)|go_in)
   case cx=>rfl
   case c1=>exact cells_two_new _ _ _ _
   case c2=>exact two_one _ _
   case c3=>unfold maxLen;omega
   case c4=>omega
   case c5=>rw[World.size_alloc];have:=hB5.size;omega
   intro v6 w6 hown hgrow _
   have hb6:Below w.heap.size w w6:=Below.grown (hB5.alloc hB5.size _) hgrow (by rw[World.size_alloc];have:=hB5.size;omega) (fun k e=>by have:=((QA Hrow5).lt _ e).1;omega)
   have Hs6:Hid (World.ownsRow w6 w.heap.size 9 1 (.slice (some ⟨g3,0,none⟩) N c3) N (ss.map encStr)):=QB (row_keptN ((QA Hsr5).alloc _) (fun k' hk'=>by
    refine hgrow.block k' ?_ (fun e=>?_)
    ·exact((((QA Hsr5).alloc _).lt) k' hk').2
    ·exact dis_tagsN (QA Hrow5) (QA Hsr5) (by decide) k' e.symm hk'))
   clear hgrow
   go_wp2
   go_roundw
   case rel=>
    refine⟨k+1,by omega,?_,by go_num,hb6,QA Hs6⟩
    rw[QA Hsn,nameCells_snoc]
    exact hown
   case measure=>simp[intOf];omega
  ·have hltI:¬(k:Int)<(N:Int):=by omega
   obtain rfl:k=N:=by omega
   have Hfin:Hid (NamesAt w.heap.size wr (.slice p4 k c4) NM):=QB (by
    have hl:NM.length=k:=by rw[QA HNm,List.length_map,hslen]
    unfold NamesAt
    have:=QA Hrow
    rw[List.take_of_length_le (by omega)]at this
    rw[hl]
    exact this)
   clear hrow hsr
   go_wp2
   go_ret
   exact⟨_,rfl,QA Hfin,hbr⟩
structure LabR (r:Strd.Rd) (n:Nat):Prop where
 fresh:Strd.Fresh r.lines
 short:∀l∈r.lines,l.label.length≤n
theorem add_labR (r:Strd.Rd) (t:Strd.Bs) (n:Nat) (ht:t.length≤n) (h:LabR r n):LabR (Strd.add r t).1 n:=by
 unfold Strd.add
 split
 ·exact h
 ·rename_i l hl
  split
  ·exact h
  ·rename_i hh
   split
   ·exact h
   ·simp only
    split
    ·exact h
    ·refine⟨List.pairwise_append.2 ⟨h.fresh,List.pairwise_singleton _ _,fun a ha b hb h0 e=>?_⟩,fun x hx=>?_⟩
     ·rw[List.mem_singleton]at hb
      subst hb
      apply hh
      unfold Strd.hasLabel
      rw[Bool.and_eq_true,List.any_eq_true]
      exact⟨by rw[←e];simpa using h0,a,ha,by rw[e];simp⟩
     ·rcases List.mem_append.1 hx with hx|hx
      ·exact h.short x hx
      ·rw[List.mem_singleton]at hx
       subst hx
       exact Nat.le_trans (readLine_label t _ hl) ht
theorem addAll_labR:∀(ts:List Strd.Bs) (k:Nat) (r:Strd.Rd) (n:Nat),(∀t∈ts,t.length≤n)→LabR r n→LabR (Strd.addAll k r ts).1 n
 |[],_,_,_,_,h=>h
 |t::ts,k,r,n,ht,h=>by
  have h1:=add_labR r t n (ht t (by simp)) h
  unfold Strd.addAll
  simp only
  split
  ·exact addAll_labR ts _ _ n (fun x hx=>ht x (by simp[hx])) h1
  ·exact h1
theorem source_labR (s:Strd.Bs):LabR (Strd.QM s).1 4000:=by
 unfold Strd.QM
 split
 ·exact⟨List.Pairwise.nil,fun l hl=>by cases hl⟩
 ·rename_i hs
  have h:=split_len 10 s
  exact addAll_labR _ 0 _ _ (fun t ht=>by have:=h.2.1 t ht;omega) ⟨List.Pairwise.nil,fun l hl=>by cases hl⟩
def namesAns (s:Strd.Bs):List (Strd.Bs×Int):=if (ZM s).2.2≠0 then [] else namesOf (Strd.QM s).1.lines (ZM s).1.2
theorem Names_c (s:ByteArray) (w:World) (hs:s.size≤2^20) (h11:11≤w.heap.size) (hT:Tabs w) :
  Calls Tryz.prog 13 #[.string s] w fun e w'=>∃v,e=.returned (.tuple #[v,.int .i64 (ZM s.data.toList).2.1,.int .i64 (ZM s.data.toList).2.2])∧NamesAt w.heap.size w' v (namesAns s.data.toList)∧((ZM s.data.toList).2.2≠0→v=.slice none 0 0)∧Below w.heap.size w w':=by
 have hlab:=source_labR s.data.toList
 have hWr:=source_wfR s.data.toList
 have CL:=QB (layOut_c s w hs h11 hT)
 have Hln:Hid ((ZM s.data.toList).2.2=0→(ZM s.data.toList).2.1=0):=QB (fun h=>by rw[layOut_ok _ h])
 have HA:Hid (namesAns s.data.toList=if (ZM s.data.toList).2.2≠0 then [] else namesOf (Strd.QM s.data.toList).1.lines (ZM s.data.toList).1.2):=QB rfl
 generalize namesAns s.data.toList=NA at *
 generalize ZM s.data.toList=Y at *
 generalize (Strd.QM s.data.toList).1=r at *
 obtain⟨⟨fs,st⟩,ln,er⟩:=Y
 simp only at CL HA Hln ⊢
 go_enter Tryz.func13,Tryz.ntmps13
 go_wp2_with fail
 refine(QA CL).mono ?_
 rintro e w1 ⟨ps,rfl,⟨o3,p3,n3,c3,m3,p4,n4,c4,p5,n5,c5,rfl⟩,hpv,hb1⟩
 have hb2:=QF w1 (.cells #[.int .i64 o3,.slice p3 n3 c3,.map m3,.slice p4 n4 c4,.slice p5 n5 c5] 67)
 have Hg:=QB (QH w1 (.cells #[.int .i64 o3,.slice p3 n3 c3,.map m3,.slice p4 n4 c4,.slice p5 n5 c5] 67))
 have HPl:Hid (er=0→∃base,PlanAt base (w1.alloc (.cells #[.int .i64 o3,.slice p3 n3 c3,.map m3,.slice p4 n4 c4,.slice p5 n5 c5] 67)) w1.heap.size r fs st):=QB fun h=>by
  obtain⟨base,_,h2,p,cap,gm,qs,vf,vs,e,hL,hLab,hgm,hf,hs',h8,h9⟩:=hpv h
  rw[e]at hb2 Hg ⊢
  exact⟨base,⟨p,cap,gm,qs,vf,vs,QA Hg,hL.below hb2,hLab.below hb2,hgm,hf.below hb2,hs'.below hb2⟩,h2,h8,h9⟩
 clear hpv
 by_cases her:er=0
 ·subst her
  obtain⟨base,hPl⟩:=QA HPl rfl
  have HP:=QB hPl
  have Hna:Hid (namesOf r.lines st=NA):=QB (by rw[QA HA];simp)
  have hln:=QA Hln rfl
  subst hln
  have hB2:=QE hb1 hb2
  clear HPl HA hPl Hln
  go_upto_region 4 with fail
  generalize w1.alloc (.cells #[.int .i64 o3,.slice p3 n3 c3,.map m3,.slice p4 n4 c4,.slice p5 n5 c5] 67)=w2 at *
  generalize w1.heap.size=g at *
  go_wp2_with fail
  refine(PNames_c base g r fs st w2 (QA HP) hWr.len hlab.fresh (fun l hl=>Nat.le_trans (hlab.short l hl) (by omega))).mono ?_
  rintro e w3 ⟨v,rfl,hN,hb3⟩
  have hB3:=QE hB2 hb3
  have HN:Hid (NamesAt w.heap.size w3 v NA):=QB (by rw[←QA Hna];exact row_base hN hB2.size)
  clear hN
  go_wp2
  refine bodyPost_ret (v:=.tuple #[v,.int .i64 0,.int .i64 0]) (by simp[results,Tryz.results13]) rfl ?_
  exact⟨v,rfl,QA HN,fun h=>(h rfl).elim,hB3⟩
 ·have Hna:Hid (NA=[]):=QB (by rw[QA HA,if_pos her])
  clear HA HPl
  go_wp2
  refine bodyPost_ret (v:=.tuple #[.slice none 0 0,.int .i64 (ln:Int),.int .i64 er]) (by simp[results,Tryz.results13]) rfl ?_
  exact⟨_,rfl,by rw[QA Hna];exact World.ownsRow_nil _ _ _ _,fun _=>rfl,QE hb1 hb2⟩
end Go.Proofs.YtegiloiojloaoaaGreatDoor
namespace Go.Proofs.YtegiloiojloaoaaGreatDoor.Rf
open Strd
theorem labels_sel:∀(ks:List Bool) (ls:List Strd.Line),Out ks ls→labelsOf (sel ks ls)=labelsOf ls
 |[],[],_=>rfl
 |[],_::_,h=>h.elim
 |_::_,[],h=>h.elim
 |true::ks,l::ls,h=>by
  have ih:=labels_sel ks ls h.2
  unfold labelsOf at ih ⊢
  simp only[sel,List.map_cons,List.filter_cons]
  rw[ih]
 |false::ks,l::ls,h=>by
  have ih:=labels_sel ks ls h.2
  have e:=h.1 rfl
  subst e
  unfold labelsOf at ih ⊢
  simp only[sel,List.map_cons,List.filter_cons]
  rw[ih]
  rfl
theorem sel_sub {α:Type}:∀(ks:List Bool) (xs:List α),(sel ks xs).Sublist xs
 |[],xs=>by cases xs <;> exact List.nil_sublist _
 |_::_,[]=>by simp[sel]
 |true::ks,x::xs=>by simp only[sel];exact(sel_sub ks xs).cons_cons x
 |false::ks,x::xs=>by simp only[sel];exact(sel_sub ks xs).cons x
theorem place_at (L:List Line) (st:List Int) (hf:Fresh (L.map strd)) (i:Nat) (hi:i<L.length) (hne:L[i].label≠[]):placeOf (L.map strd) st L[i].label=st.getD i 0:=by
 unfold placeOf labelAt
 have:(L.map strd).findIdx? (fun l=>l.label==L[i].label)=some i:=by
  rw[List.findIdx?_eq_some_iff_getElem]
  refine⟨by simpa using hi,by simp[strd],fun j hj=>?_⟩
  have hp:=(List.pairwise_iff_getElem.1 hf) j i (by simp;omega) (by simpa using hi) hj
  simp only[List.getElem_map]at hp ⊢
  have e1:(strd L[i]).label=L[i].label:=rfl
  have e2:(strd (L[j]'(by omega))).label=(L[j]'(by omega)).label:=rfl
  rw[e1,e2]at hp
  rw[e2]
  by_cases e:(L[j]'(by omega)).label=L[i].label
  ·exact(hp (by rw[e];exact hne) e).elim
  ·simpa using e
 rw[this];rfl
theorem labsTo_names (L:List Line) (st:List Int) (hf:Fresh (L.map strd)):∀i,i≤L.length→labsTo L st i=(labelsOf ((L.take i).map strd)).map fun n=>(n,placeOf (L.map strd) st n)
 |0,_=>rfl
 |i+1,h=>by
  have hi:i<L.length:=by omega
  rw[labsTo_succ,labsTo_names L st hf i (by omega)]
  have hg:L.getD i dl=L[i]:=by rw[gD,gE hi];rfl
  rw[hg,List.take_add_one,gE hi]
  unfold labelsOf
  simp only[Option.toList_some,List.map_append,List.map_cons,List.map_nil,List.filter_append]
  congr 1
  have e:(strd L[i]).label=L[i].label:=rfl
  by_cases hl:L[i].label=[]
  ·rw[if_pos hl,e,hl];rfl
  ·rw[if_neg hl,e]
   have hb:(L[i].label != [])=true:=by simpa using hl
   rw[List.filter_cons,hb,if_pos rfl,List.filter_nil,List.map_cons,List.map_nil,place_at L st hf i hi hl]
theorem names_sorted (s:Bs) (r:Rd) (L:List Line) (n:Nat) (hr:QM s=(r,0,0)) (hR:Rel n r L) (hok:(ZM s).2.2=0):(namesAns s).Perm (labsTo L (stL r.org L) L.length)∧(namesAns s).Pairwise fun a b=>a.1<b.1:=by
 obtain⟨ks,ho,hs,_⟩:=hR.ks
 have hlo:=layOut_ok s hok
 have hlab:=source_labR s
 rw[hr]at hlo hlab
 have hfr:Fresh r.lines:=hlab.fresh
 have hfL:Fresh (L.map strd):=by
  rw[←hs]
  exact List.Pairwise.sublist (sel_sub ks r.lines) hfr
 have hz:Zero ks (QJ r.org r.lines)∧QJ r.org (L.map strd)=sel ks (QJ r.org r.lines):=by
  obtain⟨_,_,h3,h4⟩:=lay_sel r.org ks r.lines ho (rel_range hR) (L.map strd) hs (sel ks (List.range' 1 r.lines.length)) rfl
  exact⟨h4,h3⟩
 have hnum:=selO_number r.org ks r.lines _ ho hz.1
 rw[hs,←hz.2]at hnum
 have hpl:∀m,m≠[]→placeOf r.lines (starts r.org r.lines (QJ r.org r.lines)) m=placeOf (L.map strd) (stL r.org L) m:=by
  intro m hm
  have:=hnum ⟨m,0⟩
  unfold Q7 at this
  simp only at this
  rw[if_neg hm,if_neg hm]at this
  exact this.symm
 have hll:labelsOf (L.map strd)=labelsOf r.lines:=by rw[←hs];exact labels_sel ks r.lines ho
 have hans:namesAns s=((labelsOf r.lines).mergeSort leB).map fun m=>(m,placeOf (L.map strd) (stL r.org L) m):=by
  unfold namesAns
  rw[if_neg (by rw[hok];simp),hr,hlo]
  unfold namesOf
  refine List.map_congr_left (fun m hm=>?_)
  have hm':m∈labelsOf r.lines:=(List.mergeSort_perm _ _).mem_iff.1 hm
  rw[hpl m ((mem_labels _ _).1 hm').1]
 have hlt:=labsTo_names L (stL r.org L) hfL L.length (Nat.le_refl _)
 rw[List.take_length,hll]at hlt
 rw[hans,hlt]
 refine⟨(List.mergeSort_perm _ _).map _,?_⟩
 rw[List.pairwise_map]
 have tr:∀a b c:List UInt8,leB a b=true→leB b c=true→leB a c=true:=fun a b c h1 h2=>by simp only[leB,decide_eq_true_eq]at *;exact List.le_trans h1 h2
 have tot:∀a b:List UInt8,(leB a b||leB b a)=true:=fun a b=>by simp only[leB,Bool.or_eq_true,decide_eq_true_eq];exact List.le_total a b
 have hp:=List.pairwise_mergeSort tr tot (labelsOf r.lines)
 have hn:((labelsOf r.lines).mergeSort leB).Nodup:=(List.mergeSort_perm _ _).nodup_iff.2 (labels_nodup _ hfr)
 refine(hp.and hn).imp (fun {a b} h=>?_)
 have hle:a≤b:=by simpa [leB] using h.1
 rcases List.le_iff_lt_or_eq.1 hle with h1|h1
 ·exact h1
 ·exact(h.2 h1).elim
end Go.Proofs.YtegiloiojloaoaaGreatDoor.Rf
