/- The contract of layout.firstUnknown. -/
import Derived.Test.YtegiloiojloaoaaGreatDoorCSpec
import Derived.Test.YtegiloiojloaoaaGreatDoorCRd
set_option linter.unusedVariables false
set_option linter.unusedSimpArgs false
set_option maxHeartbeats 4000000
set_option maxRecDepth 1000000
namespace Go.Proofs.YtegiloiojloaoaaGreatDoor
open Go.RowKit Go.Shelf Go.Sort Go.Maps
theorem ZS.at {base:Nat} {w:World} {p:Option Addr} {n cap:Nat} {lines:List Strd.Line} {qs:List (Strd.Line×Sl)} (h:ZS base w (.slice p n cap) lines qs) (i:Nat) (hi:i<lines.length) :
  ∃(b:Nat) (pq:Option Addr) (nq cq:Nat),p=some ⟨b,0,none⟩∧n=lines.length∧b<w.heap.size∧QS w (.slice pq nq cq) lines[i].ins.oprs∧∀j u,(encLine lines[i] (pq,nq,cq))[j]? = some u→w.cell? ⟨b,i*7+j,none⟩=some u:=by
 have hl:=h.len
 have hq:i<qs.length:=by omega
 obtain⟨b,hp,hn,_,hb,hc⟩:=ownsRow_cell h.row (by omega)
 have he:qs[i].1=lines[i]:=by
  have h1:(qs.map (·.1))[i]? = lines[i]?:=by rw[h.fst]
  rw[List.getElem?_map,gE hq,gE hi]at h1
  exact Option.some.inj h1
 refine⟨b,qs[i].2.1,qs[i].2.2.1,qs[i].2.2.2,hp,by rw[hn,hl],hb,?_,?_⟩
 ·rw[←he];exact h.oprs _ (List.getElem_mem hq)
 ·intro j u hu
  refine hc _ _ ?_
  rw[←he]at hu
  have hj:j<7:=by
   have:=(List.getElem?_eq_some_iff.1 hu).1
   simpa [encLine] using this
  unfold encLines
  rw[flatMap_get (fun x:Strd.Line×Sl=>encLine x.1 x.2) 7 (fun _=>rfl) qs i j qs[i] (gE hq) hj]
  exact hu
def namesOk (r:Strd.Rd):Prop:=∀l∈r.lines,∀o∈l.ins.oprs,o.name.length≤2^20
def badLine (lines:List Strd.Line) (l:Strd.Line):Bool:=l.ins.oprs.any fun o=>!Strd.known lines o.name
theorem unk_none (lines:List Strd.Line) (h:∀i (hi:i<lines.length),badLine lines lines[i]=false):Strd.firstUnknown lines=0:=by
 unfold Strd.firstUnknown
 rw[List.findIdx?_eq_none_iff.2]
 intro x hx
 obtain⟨i,hi,rfl⟩:=List.getElem_of_mem hx
 exact h i hi
theorem unk_some (lines:List Strd.Line) (k:Nat) (hk:k<lines.length) (h:∀i (hi:i<lines.length),i<k→badLine lines lines[i]=false) (hb:badLine lines lines[k]=true):Strd.firstUnknown lines=k+1:=by
 unfold Strd.firstUnknown
 have e:lines.findIdx? (fun l=>l.ins.oprs.any fun o=>!Strd.known lines o.name)=some k:=List.findIdx?_eq_some_iff_getElem.2 ⟨hk,hb,fun j hj=>by
  have:=h j (by omega) hj
  unfold badLine at this
  simp[this]⟩
 rw[e]
theorem known_has (lines:List Strd.Line) (n:Strd.Bs) (h:n≠[]):Strd.known lines n=Strd.hasLabel lines n:=by
 unfold Strd.known Strd.hasLabel
 have h1:(n==[])=false:=by simpa using h
 have h2:(n != [])=true:=by simpa using h
 rw[h1,h2];rfl
theorem firstUnknown_c (base:Nat) (r:Strd.Rd) (cs:Array Value) (w:World) (hP:ProgAt base w cs r) (hn:r.lines.length≤2^20) (hN:namesOk r) (hO8:∀l∈r.lines,l.ins.oprs.length≤8) :
  Calls Tryz.prog 59 #[.agg cs] w fun e w'=>e=.returned (.int .i64 (Strd.firstUnknown r.lines))∧Below w.heap.size w w':=by
 obtain⟨p,cap,gm,qs,rfl,hL,hLab,_⟩:=hP
 obtain⟨D,hown,hhas,hat⟩:=hLab
 generalize hF:Strd.firstUnknown r.lines=F
 have HF:=QB hF
 have HL:=QB hL
 have Hown:=QB hown
 have Hhas:=QB hhas
 have HN:=QB hN
 have HO8:=QB hO8
 clear hF hL hown hhas hat hN hO8
 have hb1:=QF w (.cells #[.int .i64 r.org,.slice p r.lines.length cap,.map (some gm)] 64)
 have Hx1:=QB (QH w (.cells #[.int .i64 r.org,.slice p r.lines.length cap,.map (some gm)] 64))
 go_enter Tryz.func59,Tryz.ntmps59
 go_upto_region 1 with fail
 generalize w.alloc (.cells #[.int .i64 r.org,.slice p r.lines.length cap,.map (some gm)] 64)=w1 at hb1 Hx1 ⊢
 have x1:=QC (QA Hx1) 1
 simp only[gA,gZ,gS]at x1
 have hlx:=QD (QA Hx1)
 go_wp2_with fail
 go_loopw [12] (fun c wr=>∃(k:Nat),k≤r.lines.length∧c=.int .i64 k∧(∀i (hi:i<r.lines.length),i<k→badLine r.lines r.lines[i]=false)∧Below w1.heap.size w1 wr) (fun c _=>r.lines.length-(intOf c).toNat)
 case atStart=>exact⟨0,by omega,rfl,fun i _ h=>by omega,Below.refl _ _⟩
 case round=>
  obtain⟨k,hk,rfl,hall,hbl⟩:=hrel
  have Hall:=QB hall
  clear hall
  have hblw:Below w.heap.size w wr:=QE hb1 hbl
  by_cases hlt:k<r.lines.length
  ·obtain⟨b,pq,nq,cq,rfl,_,hb,hOq,hcl⟩:=((QA HL).below hblw).at k hlt
   have l0:=hcl 0 _ rfl
   have l1:=hcl 1 _ rfl
   have l2:=hcl 2 _ rfl
   have l3:=hcl 3 _ rfl
   have l4:=hcl 4 _ rfl
   have l5:=hcl 5 _ rfl
   have l6:=hcl 6 _ rfl
   simp only[Nat.add_zero]at l0
   have HOq:=QB hOq
   have hq8:=QA HO8 _ (List.getElem_mem hlt)
   have hnl:=QA HN _ (List.getElem_mem hlt)
   generalize hlk:r.lines[k]=l at *
   have Hlk:=QB hlk
   have Hnl:=QB hnl
   clear hcl hOq hlk hnl
   obtain⟨_,_,hsh⟩:=(QA HOq).shape
   cases hsh
   have hkn:(k:Int)<(r.lines.length:Int):=by omega
   obtain⟨wo,hwo⟩:∃wo,wo=wr:=⟨wr,rfl⟩
   subst hwo
   go_wp2_with fail
   go_loopw [21] (fun c w2=>∃(j:Nat),j≤l.ins.oprs.length∧c=.int .i64 j∧(∀i (hi:i<l.ins.oprs.length),i<j→Strd.known r.lines l.ins.oprs[i].name=true)∧Below wo.heap.size wo w2) (fun c _=>l.ins.oprs.length-(intOf c).toNat)
   case atStart=>exact⟨0,by omega,rfl,fun i _ h=>by omega,QF _ _⟩
   case round=>
    obtain⟨j,hj,rfl,hkn2,hb2⟩:=hrel
    have Hkn:=QB hkn2
    clear hkn2
    have hbw2:Below w1.heap.size w1 wr:=QE hbl hb2
    have hBw:Below w.heap.size w wr:=QE hb1 hbw2
    by_cases hjl:j<l.ins.oprs.length
    ·obtain⟨bo,rfl,_,hbo,hc0,hc1⟩:=QS.at (QS.below (QA HOq) hb2) j hjl
     have x2:=QC (bbox hbw2 (QA Hx1)) 2
     simp only[gA,gZ,gS]at x2
     have hlx2:=QD (bbox hbw2 (QA Hx1))
     have hnz:=QA Hnl _ (List.getElem_mem hjl)
     have hnext:Strd.known r.lines l.ins.oprs[j].name=true→∀i (hi:i<l.ins.oprs.length),i<j+1→Strd.known r.lines l.ins.oprs[i].name=true:=fun h i hi hij=>by
      by_cases e:i<j
      ·exact QA Hkn i hi e
      ·obtain rfl:i=j:=by omega
       exact h
     have hbad:Strd.known r.lines l.ins.oprs[j].name=false→badLine r.lines r.lines[k]=true:=fun h=>by
      rw[QA Hlk]
      unfold badLine
      rw[List.any_eq_true]
      exact⟨_,List.getElem_mem hjl,by rw[h];rfl⟩
     generalize l.ins.oprs[j]=o at hc0 hc1 hnz hnext hbad
     have Hnext:=QB hnext
     have Hbad:=QB hbad
     clear hnext hbad
     obtain⟨u,ps,hlook,_⟩:=((ownsMap_block (QA Hown) (hBw.block gm (QA Hown).lt)).alloc (.cells #[.string (bstr o.name),.int .i64 o.num] 136)).look_ok law9 Tryz.underlying62 (zero3 _) (plainElem_int Tryz.underlying3 (by decide)) (WideMaps.keyOf_string_mk Tryz.underlying9 (show (bstr o.name).size≤maxLen by rw[ZA];unfold maxLen;omega))
     rw[Q4,QA Hhas]at hlook
     have hjn:(j:Int)<(l.ins.oprs.length:Int):=by omega
     by_cases hnm:o.name=[]
     ·have Hk:=QB (QA Hnext (by rw[hnm];rfl))
      rw[hnm]at hlook hc0
      clear hnm
      go_wp2
      go_roundw
      case rel=>exact⟨j+1,by omega,by go_num,QA Hk,QE hb2 (QF _ _)⟩
      case measure=>simp[intOf];omega
     ·have hne:o.name.isEmpty=false:=by simpa using hnm
      have hkh:=known_has r.lines o.name hnm
      clear hnm
      cases hHL:Strd.hasLabel r.lines o.name
      ·have Hfin:Hid (F=k+1):=QB (by rw[←QA HF];exact unk_some _ k hlt (fun i hi h=>QA Hall i hi h) (QA Hbad (by rw[hkh,hHL])))
       rw[hHL]at hlook
       clear hkh hHL
       go_wp2
       go_ret
       exact⟨by rw[QA Hfin];rfl,QE hBw (QF _ _)⟩
      ·have Hk:=QB (QA Hnext (by rw[hkh,hHL]))
       rw[hHL]at hlook
       clear hkh hHL
       go_wp2
       go_roundw
       case rel=>exact⟨j+1,by omega,by go_num,QA Hk,QE hb2 (QF _ _)⟩
       case measure=>simp[intOf];omega
    ·obtain rfl:j=l.ins.oprs.length:=by omega
     have Hk:Hid (∀i (hi:i<r.lines.length),i<k+1→badLine r.lines r.lines[i]=false):=QB fun i hi h=>by
      by_cases e:i<k
      ·exact QA Hall i hi e
      ·obtain rfl:i=k:=by omega
       rw[QA Hlk]
       unfold badLine
       rw[List.any_eq_false]
       intro o ho
       obtain⟨x,hx,rfl⟩:=List.getElem_of_mem ho
       rw[QA Hkn x hx hx]
       decide
     go_wp2
     go_roundw
     case rel=>exact⟨k+1,by omega,by go_num,QA Hk,hbw2⟩
     case measure=>simp[intOf];omega
  ·obtain rfl:k=r.lines.length:=by omega
   have Hfin:Hid (F=0):=QB (by rw[←QA HF];exact unk_none _ fun i hi=>QA Hall i hi hi)
   go_wp2
   go_ret
   exact⟨by rw[QA Hfin];rfl,hblw⟩
structure PlanAt (base:Nat) (w:World) (gp:Nat) (r:Strd.Rd) (fs st:List Int):Prop where
 intro ::
 box:∃p cap gm qs vf vs,w.heap[gp]? = some (.cells #[.int .i64 r.org,.slice p r.lines.length cap,.map (some gm),vf,vs] 67 (0,0))∧ZS base w (.slice p r.lines.length cap) r.lines qs∧Z0 w gm r.lines.length r.lines∧base≤gm∧ZO 92 base w vf fs∧ZO 3 base w vs st
 gb:base≤gp
 flen:fs.length=r.lines.length
 slen:st.length=r.lines.length+1
theorem PlanAt.below {base:Nat} {w w':World} {gp:Nat} {r:Strd.Rd} {fs st:List Int} (h:PlanAt base w gp r fs st) (hb:Below w.heap.size w w'):PlanAt base w' gp r fs st:=by
 obtain⟨⟨p,cap,gm,qs,vf,vs,h1,h2,h3,h4,h5,h6⟩,h7,h8,h9⟩:=h
 exact⟨⟨p,cap,gm,qs,vf,vs,bbox hb h1,h2.below hb,h3.below hb,h4,h5.below hb,h6.below hb⟩,h7,h8,h9⟩
theorem labelAt_lt (lines:List Strd.Line) (n:Strd.Bs) (j:Nat) (h:Strd.labelAt lines n=some j):j<lines.length:=by
 unfold Strd.labelAt at h
 exact(List.findIdx?_eq_some_iff_getElem.1 h).1
theorem place_c (base gp:Nat) (r:Strd.Rd) (fs st:List Int) (n:ByteArray) (w:World) (hP:PlanAt base w gp r fs st) (hn:n.data.toList≠[]) (hz:n.size≤2^20) (hlen:r.lines.length≤2^20) :
  Calls Tryz.prog 47 #[.pointer (some ⟨gp,0,none⟩),.string n] w fun e w'=>e=.returned (.int .i64 (Strd.placeOf r.lines st n.data.toList))∧Below w.heap.size w w':=by
 obtain⟨⟨p,cap,gm,qs,vf,vs,hbx,_,hLab,_,hf,hs⟩,_,_,hsl⟩:=hP
 obtain⟨D,hown,hhas,hat⟩:=hLab
 obtain⟨c,hlook,hc,_⟩:=hown.drew.lookup_int law9 Tryz.underlying62 Tryz.underlying3 (zero3 _) (WideMaps.keyOf_string_mk Tryz.underlying9 (show n.size≤maxLen by unfold maxLen;omega))
 obtain⟨k,hk,hkl,hkc⟩:∃k:Nat,c=(k:Int)∧k<st.length∧Strd.placeOf r.lines st n.data.toList=st.getD k 0:=by
  unfold Strd.placeOf
  cases hL:Strd.labelAt r.lines n.data.toList with
  |some j=>
   rw[hat _ j hn hL]at hc
   cases hc
   exact⟨j,rfl,by have:=labelAt_lt _ _ _ hL;omega,rfl⟩
  |none=>
   have hh:Maps.has D (.string n.data.toList)=false:=by
    rw[hhas,←labelAt_has _ _ hn,hL];rfl
   rw[atKey_of_not_has hh]at hc
   cases hc
   exact⟨0,rfl,by omega,rfl⟩
 subst hk
 have hgd:st.getD k 0=st[k]:=by rw[gD,gE hkl];rfl
 rw[hkc,hgd]
 obtain⟨ps,cs,rfl⟩:=hs.shape
 obtain⟨bs,rfl,_,hbs,hcs⟩:=hs.at k hkl
 have c2:=QC hbx 2
 have c4:=QC hbx 4
 simp only[gA,gZ,gS]at c2 c4
 have hgl:=QD hbx
 generalize st[k]=v at *
 have hkl':(k:Int)<(st.length:Int):=by omega
 clear hc hat hhas hown hkc hgd hf hs hsl hlen hz hn
 go_enter Tryz.func47,Tryz.ntmps47
 go_wp2
 go_region
 all_goals go_wp2
 all_goals go_ret
 all_goals exact⟨rfl,QW (Below.refl _ _)⟩
theorem number_p (base gp:Nat) (r:Strd.Rd) (fs st:List Int) (o:Strd.Opr) (w:World) (hP:PlanAt base w gp r fs st) (hz:o.name.length≤2^20) (hlen:r.lines.length≤2^20) :
  Calls Tryz.prog 65 #[.pointer (some ⟨gp,0,none⟩),.agg #[.string (bstr o.name),.int .i64 o.num]] w fun e w'=>e=.returned (.int .i64 (Strd.Q7 r.lines st o))∧Below w.heap.size w w':=by
 generalize hN:Strd.Q7 r.lines st o=N
 unfold Strd.Q7 at hN
 have HN:=QB hN
 have HP:=QB hP
 clear hN hP
 by_cases hnm:o.name=[]
 ·have Hfin:Hid (N=o.num):=QB (by rw[←QA HN,if_pos hnm])
  rw[hnm]
  clear hnm
  go_enter Tryz.func65,Tryz.ntmps65
  go_wp2
  go_ret
  exact⟨by rw[QA Hfin];rfl,QF _ _⟩
 ·have Hfin:Hid (Strd.placeOf r.lines st o.name=N):=QB (by rw[←QA HN,if_neg hnm])
  have hne:o.name.isEmpty=false:=by simpa using hnm
  have Hnm:=QB hnm
  clear hnm
  go_enter Tryz.func65,Tryz.ntmps65
  go_wp2_with fail
  refine(place_c base gp r fs st _ _ ((QA HP).below (QF _ _)) (by rw[Q4];exact QA Hnm) (by rw[ZA];exact hz) hlen).mono ?_
  rintro e w2 ⟨rfl,hb2⟩
  rw[Q4,QA Hfin]
  go_wp2
  go_ret
  exact⟨rfl,QE (QF _ _) hb2⟩
structure WfR (r:Strd.Rd):Prop where
 len:r.lines.length≤2^20
 ins:∀l∈r.lines,WfI l.ins
 names:namesOk r
 pow:∀l∈r.lines,l.ins.op.kind=10→Strd.isPow (Strd.num l.ins 0)=true
 space:∀l∈r.lines,l.ins.op.kind=9→0≤Strd.num l.ins 0∧Strd.num l.ins 0≤1024
 org:0≤r.org∧r.org≤16777214
 forms:∀l∈r.lines,0≤l.ins.op.first∧l.ins.op.first≤2∧l.ins.op.last≤2
theorem headD_pos (l:List Strd.Opr) (h:0<l.length):l.headD ⟨[],0⟩=l[0]:=by
 cases l with
 |nil=>simp at h
 |cons a t=>rfl
theorem getD_small (st:List Int) (hst:∀a∈st,-2^40≤a∧a≤2^40) (k:Nat):-2^40≤st.getD k 0∧st.getD k 0≤2^40:=by
 by_cases h:k<st.length
 ·rw[gD,gE h];exact hst _ (List.getElem_mem h)
 ·rw[gD,List.getElem?_eq_none (by omega)];exact⟨by decide,by decide⟩
theorem numberOf_small (lines:List Strd.Line) (st:List Int) (o:Strd.Opr) (hst:∀a∈st,-2^40≤a∧a≤2^40) (ho:-2^32≤o.num∧o.num≤2^32):-2^40≤Strd.Q7 lines st o∧Strd.Q7 lines st o≤2^40:=by
 unfold Strd.Q7 Strd.placeOf
 split
 ·omega
 ·exact getD_small st hst _
theorem misses_c (base gp:Nat) (r:Strd.Rd) (fs st:List Int) (k:Nat) (w:World) (hP:PlanAt base w gp r fs st) (hW:WfR r) (hst:∀a∈st,-2^40≤a∧a≤2^40) (hk:k<r.lines.length) :
  Calls Tryz.prog 63 #[.pointer (some ⟨gp,0,none⟩),.int .i64 (k:Int)] w fun e w'=>e=.returned (.bool (Strd.misses r.lines st r.lines[k] (fs.getD k 0) (st.getD k 0)))∧Below w.heap.size w w':=by
 have HP:=QB hP
 obtain⟨⟨p,cap,gm,qs,vf,vs,hbx,hL,hLab,_,hf,hs⟩,hgb,hfl,hsl⟩:=hP
 have hsa:=getD_small st hst k
 obtain⟨pf,cf,rfl⟩:=hf.shape
 obtain⟨ps,cs,rfl⟩:=hs.shape
 have hkf:k<fs.length:=by omega
 have hks:k<st.length:=by omega
 obtain⟨bf,rfl,_,hbf,hcf⟩:=hf.at k hkf
 obtain⟨bs,rfl,_,hbs,hcs⟩:=hs.at k hks
 rw[show fs.getD k 0=fs[k] by rw[gD,gE hkf];rfl,show st.getD k 0=st[k] by rw[gD,gE hks];rfl]
 rw[show st.getD k 0=st[k] by rw[gD,gE hks];rfl]at hsa
 obtain⟨b,pq,nq,cq,rfl,_,hb,hOq,hcl⟩:=hL.at k hk
 have hwf:=hW.ins _ (List.getElem_mem hk)
 have hnm:=hW.names _ (List.getElem_mem hk)
 have l0:=hcl 0 _ rfl
 have l1:=hcl 1 _ rfl
 have l2:=hcl 2 _ rfl
 have l3:=hcl 3 _ rfl
 have l4:=hcl 4 _ rfl
 have l5:=hcl 5 _ rfl
 have l6:=hcl 6 _ rfl
 simp only[Nat.add_zero]at l0
 generalize r.lines[k]=l at *
 generalize fs[k]=f at *
 generalize st[k]=a at *
 have c1:=QC hbx 1
 have c3:=QC hbx 3
 have c4:=QC hbx 4
 simp only[gA,gZ,gS]at c1 c3 c4
 have hgl:=QD hbx
 have hkn:(k:Int)<(r.lines.length:Int):=by omega
 have hkn2:(k:Int)<(fs.length:Int):=by omega
 have hkn3:(k:Int)<(st.length:Int):=by omega
 generalize hM:Strd.misses r.lines st l f a=M
 have HM:=QB hM
 clear hM hcl hL hLab hf hs
 have hb1:=QF w (.cells #[.string (bstr l.label),.int .i64 l.ins.op.kind,.int .i64 l.ins.op.base,.int .i64 l.ins.op.number,.int .i64 l.ins.op.first,.int .i64 l.ins.op.last,.slice pq nq cq] 99)
 have Hx1:=QB (QH w (.cells #[.string (bstr l.label),.int .i64 l.ins.op.kind,.int .i64 l.ins.op.base,.int .i64 l.ins.op.number,.int .i64 l.ins.op.first,.int .i64 l.ins.op.last,.slice pq nq cq] 99))
 have HOq:=QB hOq
 have Hwf:=QB hwf
 have Hnm:=QB hnm
 clear hOq hwf hnm
 go_enter Tryz.func63,Tryz.ntmps63
 go_upto_region 2 with fail
 have HP1:=QB ((QA HP).below hb1)
 have HOq1:=QB (QS.below (QA HOq) hb1)
 have c3':=hb1.cell (p:=⟨gp,3,none⟩) hgl |>.trans c3
 have c4':=hb1.cell (p:=⟨gp,4,none⟩) hgl |>.trans c4
 have hcf':=hb1.cell (p:=⟨bf,k,none⟩) hbf |>.trans hcf
 have hcs':=hb1.cell (p:=⟨bs,k,none⟩) hbs |>.trans hcs
 clear c1 c3 c4 hcf hcs l0 l1 l2 l3 l4 l5 l6 HP HOq
 generalize w.alloc (.cells #[.string (bstr l.label),.int .i64 l.ins.op.kind,.int .i64 l.ins.op.base,.int .i64 l.ins.op.number,.int .i64 l.ins.op.first,.int .i64 l.ins.op.last,.slice pq nq cq] 99)=w1 at *
 have d1:=cell_regrown ((QC (QA Hx1) 1).trans rfl)
 have d2:=cell_regrown ((QC (QA Hx1) 2).trans rfl)
 have d3:=cell_regrown ((QC (QA Hx1) 3).trans rfl)
 have d4:=cell_regrown ((QC (QA Hx1) 4).trans rfl)
 have d5:=cell_regrown ((QC (QA Hx1) 5).trans rfl)
 have d6:=cell_regrown ((QC (QA Hx1) 6).trans rfl)
 have k3:=cell_regrown c3'
 have k4:=cell_regrown c4'
 have kf:=cell_regrown hcf'
 have ks:=cell_regrown hcs'
 clear c3' c4' hcf' hcs'
 have cJ:∀d os,Calls Tryz.prog 100 #[.agg #[.int .i64 l.ins.op.kind,.int .i64 l.ins.op.base,.int .i64 l.ins.op.number,.int .i64 l.ins.op.first,.int .i64 l.ins.op.last]] (grow (redrawn w1 d) os) fun e w''=>e=.returned (.bool (Strd.QN l.ins.op))∧∃p:Regrown,w''=grow (redrawn w1 p.d) p.os:=fun d os=>Calls.regrown_of (IsJump_c _ _)
 cases hJ:Strd.QN l.ins.op
 ·rw[hJ]at cJ
  have Hfin:Hid (M=false):=QB (by rw[←QA HM];unfold Strd.misses;rw[hJ];rfl)
  clear hJ
  refine wp_region_quiet_below (by kernel_rfl) (by kernel_rfl) ?_
  repeat (go_big_quiet_step (first|exact cJ _ _))
  refine wpQuiet_nil ?_
  intro _ hw'
  obtain⟨⟨dq,osq⟩,hw''⟩:=hw'
  subst hw''
  go_wp2
  go_ret
  exact⟨by rw[QA Hfin];rfl,QE hb1 (below_regrown w1 dq osq)⟩
 ·rw[hJ]at cJ
  have hon:0<l.ins.oprs.length:=by
   have h:=(QA Hwf).len
   have hk5:l.ins.op.kind=5∨l.ins.op.kind=6:=by simpa [Strd.QN] using hJ
   rcases hk5 with e|e <;> (rw[e]at h;simp[Strd.roles]at h;omega)
  obtain⟨bo,hpq,hnq,hbo,hn0,hn1⟩:=QS.at (QA HOq1) 0 hon
  subst hpq
  simp only[Nat.zero_mul,Nat.zero_add]at hn0 hn1
  have q0:=cell_regrown hn0
  have q1:=cell_regrown hn1
  have hz:=QA Hnm _ (List.getElem_mem hon)
  have hns:=numberOf_small r.lines st l.ins.oprs[0] hst ((QA Hwf).nums _ (List.getElem_mem hon))
  have hMe:M=!Strd.fits l.ins.op f a (Strd.Q7 r.lines st l.ins.oprs[0]):=by
   rw[←QA HM];unfold Strd.misses;rw[hJ,Bool.true_and]
   rw[headD_pos _ hon]
  have HMe:=QB hMe
  have cN:∀d os,Calls Tryz.prog 65 #[.pointer (some ⟨gp,0,none⟩),.agg #[.string (bstr l.ins.oprs[0].name),.int .i64 l.ins.oprs[0].num]] (grow (redrawn w1 d) os) fun e w''=>e=.returned (.int .i64 (Strd.Q7 r.lines st l.ins.oprs[0]))∧∃p:Regrown,w''=grow (redrawn w1 p.d) p.os:=fun d os=>Calls.regrown_of (number_p base gp r fs st _ _ ((QA HP1).below (below_regrown w1 d os)) hz hW.len)
  have cF:∀d os,Calls Tryz.prog 101 #[.agg #[.int .i64 l.ins.op.kind,.int .i64 l.ins.op.base,.int .i64 l.ins.op.number,.int .i64 l.ins.op.first,.int .i64 l.ins.op.last],.int .i64 f,.int .i64 a,.int .i64 (Strd.Q7 r.lines st l.ins.oprs[0])] (grow (redrawn w1 d) os) fun e w''=>e=.returned (.bool (Strd.fits l.ins.op f a (Strd.Q7 r.lines st l.ins.oprs[0])))∧∃p:Regrown,w''=grow (redrawn w1 p.d) p.os:=fun d os=>Calls.regrown_of (Fits_c _ _ _ _ _ (by omega) (by omega))
  have hnq0:(0:Int)<(nq:Int):=by omega
  clear hJ hMe hn0 hn1 hns hz
  generalize Strd.Q7 r.lines st l.ins.oprs[0]=N at *
  refine wp_region_quiet_below (by kernel_rfl) (by kernel_rfl) ?_
  repeat (go_big_quiet_step (first|exact cJ _ _|exact cN _ _|exact cF _ _))
  refine wpQuiet_nil ?_
  intro _ hw'
  obtain⟨⟨dq,osq⟩,hw''⟩:=hw'
  subst hw''
  go_wp2
  go_ret
  exact⟨by rw[QA HMe];rfl,QE hb1 (below_regrown w1 dq osq)⟩
end Go.Proofs.YtegiloiojloaoaaGreatDoor
