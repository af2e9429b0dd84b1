/- The contract of (*Plan).overflows. -/
import Derived.Test.YtegiloiojloaoaaGreatDoorCSpec
import Derived.Test.YtegiloiojloaoaaGreatDoorCUnk
set_option linter.unusedVariables false
set_option linter.unusedSimpArgs false
set_option maxHeartbeats 4000000
set_option maxRecDepth 1000000
namespace Go.Proofs.YtegiloiojloaoaaGreatDoor
open Go.RowKit Go.Shelf Go.Sort Go.Maps
def overAt (lines:List Strd.Line) (st:List Int) (k:Int) (o:Strd.Opr):Bool:=decide (o.name≠[])&&!Strd.allows k (Strd.Q7 lines st o)
theorem overflows_c (base gp:Nat) (r:Strd.Rd) (fs st:List Int) (k:Nat) (w:World) (hP:PlanAt base w gp r fs st) (hW:WfR r) (hst:∀a∈st,-2^40≤a∧a≤2^40) (hk:k<r.lines.length) :
  Calls Tryz.prog 64 #[.pointer (some ⟨gp,0,none⟩),.int .i64 (k:Int)] w fun e w'=>e=.returned (.bool (Strd.overflows r.lines st r.lines[k]))∧Below w.heap.size w w':=by
 have HP:=QB hP
 obtain⟨⟨p,cap,gm,qs,vf,vs,hbx,hL,hLab,_,hf,hs⟩,hgb,hfl,hsl⟩:=hP
 obtain⟨pf,cf,rfl⟩:=hf.shape
 obtain⟨ps,cs,rfl⟩:=hs.shape
 obtain⟨b,pq,nq,cq,rfl,_,hb,hOq,hcl⟩:=hL.at k hk
 have hwf:=hW.ins _ (List.getElem_mem hk)
 have hnm:=hW.names _ (List.getElem_mem hk)
 have l0:=hcl 0 _ rfl
 have l1:=hcl 1 _ rfl
 have l2:=hcl 2 _ rfl
 have l3:=hcl 3 _ rfl
 have l4:=hcl 4 _ rfl
 have l5:=hcl 5 _ rfl
 have l6:=hcl 6 _ rfl
 simp only[Nat.add_zero]at l0
 generalize r.lines[k]=l at *
 have c1:=QC hbx 1
 simp only[gA,gZ,gS]at c1
 have hgl:=QD hbx
 have hkn:(k:Int)<(r.lines.length:Int):=by omega
 generalize hM:Strd.overflows r.lines st l=M
 have hMe:M=l.ins.oprs.any (overAt r.lines st l.ins.op.kind):=hM.symm
 have HM:=QB hMe
 obtain⟨_,_,hsh⟩:=hOq.shape
 cases hsh
 have hq8:=hwf.le
 clear hM hMe hcl hL hLab hf hs
 have hb1:=QF w (.cells #[.string (bstr l.label),.int .i64 l.ins.op.kind,.int .i64 l.ins.op.base,.int .i64 l.ins.op.number,.int .i64 l.ins.op.first,.int .i64 l.ins.op.last,.slice pq l.ins.oprs.length cq] 99)
 have Hx1:=QB (QH w (.cells #[.string (bstr l.label),.int .i64 l.ins.op.kind,.int .i64 l.ins.op.base,.int .i64 l.ins.op.number,.int .i64 l.ins.op.first,.int .i64 l.ins.op.last,.slice pq l.ins.oprs.length cq] 99))
 have HOq:=QB hOq
 have Hwf:=QB hwf
 have Hnm:=QB hnm
 clear hOq hwf hnm
 go_enter Tryz.func64,Tryz.ntmps64
 go_upto_region 2 with fail
 have HP1:=QB ((QA HP).below hb1)
 have HOq1:=QB (QS.below (QA HOq) hb1)
 clear c1 l0 l1 l2 l3 l4 l5 l6 HP HOq
 generalize w.alloc (.cells #[.string (bstr l.label),.int .i64 l.ins.op.kind,.int .i64 l.ins.op.base,.int .i64 l.ins.op.number,.int .i64 l.ins.op.first,.int .i64 l.ins.op.last,.slice pq l.ins.oprs.length cq] 99)=w1 at *
 have d6:=QC (QA Hx1) 6
 simp only[gA,gZ,gS]at d6
 have hlx:=QD (QA Hx1)
 go_wp2_with fail
 go_loopw [20] (fun c wr=>∃(j:Nat),j≤l.ins.oprs.length∧c=.int .i64 j∧(∀i (hi:i<l.ins.oprs.length),i<j→overAt r.lines st l.ins.op.kind l.ins.oprs[i]=false)∧Below w1.heap.size w1 wr) (fun c _=>l.ins.oprs.length-(intOf c).toNat)
 case atStart=>exact⟨0,by omega,rfl,fun i _ h=>by omega,Below.refl _ _⟩
 case round=>
  obtain⟨j,hj,rfl,hall,hbl⟩:=hrel
  have Hall:=QB hall
  clear hall
  have hBw:Below w.heap.size w wr:=QE hb1 hbl
  by_cases hjl:j<l.ins.oprs.length
  ·obtain⟨bo,rfl,_,hbo,hc0,hc1⟩:=QS.at (QS.below (QA HOq1) hbl) j hjl
   have hnz:=QA Hnm _ (List.getElem_mem hjl)
   have hns:=numberOf_small r.lines st l.ins.oprs[j] hst ((QA Hwf).nums _ (List.getElem_mem hjl))
   have hnext:overAt r.lines st l.ins.op.kind l.ins.oprs[j]=false→∀i (hi:i<l.ins.oprs.length),i<j+1→overAt r.lines st l.ins.op.kind l.ins.oprs[i]=false:=fun h i hi hij=>by
    by_cases e:i<j
    ·exact QA Hall i hi e
    ·obtain rfl:i=j:=by omega
     exact h
   have hbad:overAt r.lines st l.ins.op.kind l.ins.oprs[j]=true→M=true:=fun h=>by
    rw[QA HM,List.any_eq_true]
    exact⟨_,List.getElem_mem hjl,h⟩
   generalize l.ins.oprs[j]=o at hc0 hc1 hnz hns hnext hbad
   have Hnext:=QB hnext
   have Hbad:=QB hbad
   clear hnext hbad
   have hjn:(j:Int)<(l.ins.oprs.length:Int):=by omega
   have hb2:=QF wr (.cells #[.string (bstr o.name),.int .i64 o.num] 136)
   have Hbo:=QB (QH wr (.cells #[.string (bstr o.name),.int .i64 o.num] 136))
   go_upto_region 5 with fail
   have HP2:=QB (((QA HP1).below hbl).below hb2)
   have Hx2:=QB (bbox hb2 (bbox hbl (QA Hx1)))
   clear hc0 hc1
   generalize wr.alloc (.cells #[.string (bstr o.name),.int .i64 o.num] 136)=w2 at *
   have d1:=cell_regrown ((QC (QA Hx2) 1).trans rfl)
   have o0:=cell_regrown ((QC (QA Hbo) 0).trans rfl)
   have o1:=cell_regrown ((QC (QA Hbo) 1).trans rfl)
   by_cases hnm:o.name=[]
   ·have Hk:=QB (QA Hnext (by simp[overAt,hnm]))
    rw[hnm]at o0
    clear hnm
    refine wp_region_quiet_below (by kernel_rfl) (by kernel_rfl) ?_
    repeat (go_big_quiet_step (fail))
    refine wpQuiet_nil ?_
    intro _ hw'
    obtain⟨⟨dq,osq⟩,hw''⟩:=hw'
    subst hw''
    go_wp2
    go_roundw
    case rel=>exact⟨j+1,by omega,by go_num,QA Hk,QE (QE hbl hb2) (below_regrown w2 dq osq)⟩
    case measure=>simp[intOf];omega
   ·have hne:o.name.isEmpty=false:=by simpa using hnm
    have cN:∀d os,Calls Tryz.prog 65 #[.pointer (some ⟨gp,0,none⟩),.agg #[.string (bstr o.name),.int .i64 o.num]] (grow (redrawn w2 d) os) fun e w''=>e=.returned (.int .i64 (Strd.Q7 r.lines st o))∧∃p:Regrown,w''=grow (redrawn w2 p.d) p.os:=fun d os=>Calls.regrown_of (number_p base gp r fs st _ _ ((QA HP2).below (below_regrown w2 d os)) hnz hW.len)
    cases hA:Strd.allows l.ins.op.kind (Strd.Q7 r.lines st o)
    ·have Hk:=QB (QA Hbad (by simp[overAt,hnm,hA]))
     have cA:∀d os,Calls Tryz.prog 84 #[.int .i64 l.ins.op.kind,.int .i64 (Strd.Q7 r.lines st o)] (grow (redrawn w2 d) os) fun e w''=>e=.returned (.bool false)∧∃p:Regrown,w''=grow (redrawn w2 p.d) p.os:=fun d os=>Calls.regrown_of ((Allows_c _ _ _ (by omega)).mono fun e w3 h=>⟨by rw[h.1,hA],by rw[h.2];exact Below.refl _ _⟩)
     clear hnm hA
     refine wp_region_quiet_below (by kernel_rfl) (by kernel_rfl) ?_
     repeat (go_big_quiet_step (first|exact cN _ _|exact cA _ _))
     refine wpQuiet_nil ?_
     intro _ hw'
     obtain⟨⟨dq,osq⟩,hw''⟩:=hw'
     subst hw''
     go_wp2
     go_ret
     exact⟨by rw[QA Hk];rfl,QE (QE hBw hb2) (below_regrown w2 dq osq)⟩
    ·have Hk:=QB (QA Hnext (by simp[overAt,hA]))
     have cA:∀d os,Calls Tryz.prog 84 #[.int .i64 l.ins.op.kind,.int .i64 (Strd.Q7 r.lines st o)] (grow (redrawn w2 d) os) fun e w''=>e=.returned (.bool true)∧∃p:Regrown,w''=grow (redrawn w2 p.d) p.os:=fun d os=>Calls.regrown_of ((Allows_c _ _ _ (by omega)).mono fun e w3 h=>⟨by rw[h.1,hA],by rw[h.2];exact Below.refl _ _⟩)
     clear hnm hA
     refine wp_region_quiet_below (by kernel_rfl) (by kernel_rfl) ?_
     repeat (go_big_quiet_step (first|exact cN _ _|exact cA _ _))
     refine wpQuiet_nil ?_
     intro _ hw'
     obtain⟨⟨dq,osq⟩,hw''⟩:=hw'
     subst hw''
     go_wp2
     go_roundw
     case rel=>exact⟨j+1,by omega,by go_num,QA Hk,QE (QE hbl hb2) (below_regrown w2 dq osq)⟩
     case measure=>simp[intOf];omega
  ·obtain rfl:j=l.ins.oprs.length:=by omega
   have Hfin:Hid (M=false):=QB (by
    rw[QA HM,List.any_eq_false]
    intro o ho
    obtain⟨x,hx,rfl⟩:=List.getElem_of_mem ho
    rw[QA Hall x hx hx]
    decide)
   go_wp2
   go_ret
   exact⟨by rw[QA Hfin];rfl,hBw⟩
theorem starts_len:∀(a:Int) (ls:List Strd.Line) (fs:List Int),fs.length=ls.length→(Strd.starts a ls fs).length=ls.length+1
 |_,[],[],_=>rfl
 |_,[],_::_,h=>by cases h
 |_,_::_,[],h=>by cases h
 |a,l::ls,f::fs,h=>by
  simp only[Strd.starts,List.length_cons]
  rw[starts_len _ ls fs (by simpa using h)]
theorem starts_zero (a:Int) (ls:List Strd.Line) (fs:List Int):(Strd.starts a ls fs).getD 0 0=a:=by
 cases ls <;> cases fs <;> rfl
theorem starts_step:∀(a:Int) (ls:List Strd.Line) (fs:List Int) (k:Nat) (h1:k<ls.length) (h2:k<fs.length),(Strd.starts a ls fs).getD (k+1) 0=(Strd.starts a ls fs).getD k 0+Strd.size ls[k].ins fs[k] ((Strd.starts a ls fs).getD k 0)
 |a,[],_,k,h1,_=>by simp at h1
 |a,_::_,[],k,_,h2=>by simp at h2
 |a,l::ls,f::fs,0,_,_=>by
  simp only[Strd.starts,List.getD_cons_succ,List.getD_cons_zero,List.getElem_cons_zero]
  exact starts_zero _ ls fs
 |a,l::ls,f::fs,k+1,h1,h2=>by
  simp only[Strd.starts,List.getD_cons_succ,List.getElem_cons_succ]
  exact starts_step _ ls fs k (by simpa using h1) (by simpa using h2)
theorem size_small (r:Strd.Rd) (hW:WfR r) (l:Strd.Line) (hl:l∈r.lines) (f a:Int):0≤Strd.size l.ins f a∧Strd.size l.ins f a≤1024:=by
 have h8:=(hW.ins l hl).le
 unfold Strd.size
 simp only
 split
 ·omega
 ·split
  ·split <;> omega
  ·split
   ·unfold Strd.jumpSize;repeat' split
    all_goals omega
   ·split
    ·omega
    ·split
     ·omega
     ·split
      ·rename_i h;exact hW.space l hl h
      ·split
       ·rename_i h
        have hp:=pows_of (hW.pow l hl h)
        rcases hp with e|e|e|e|e|e|e|e <;> rw[e] <;> omega
       ·omega
theorem starts_small (r:Strd.Rd) (hW:WfR r) (fs:List Int) (hf:fs.length=r.lines.length):∀k,k≤r.lines.length→0≤(Strd.starts r.org r.lines fs).getD k 0∧(Strd.starts r.org r.lines fs).getD k 0≤16777214+1024*k
 |0,_=>by rw[starts_zero];have:=hW.org;omega
 |k+1,h=>by
  have ih:=starts_small r hW fs hf k (by omega)
  have hs:=size_small r hW r.lines[k] (List.getElem_mem (by omega)) fs[k] ((Strd.starts r.org r.lines fs).getD k 0)
  rw[starts_step _ _ _ k (by omega) (by omega)]
  omega
theorem starts_mem (r:Strd.Rd) (hW:WfR r) (fs:List Int) (hf:fs.length=r.lines.length):∀a∈Strd.starts r.org r.lines fs,-2^40≤a∧a≤2^40:=by
 intro a ha
 obtain⟨k,hk,rfl⟩:=List.getElem_of_mem ha
 rw[starts_len _ _ _ hf]at hk
 have h:=starts_small r hW fs hf k (by omega)
 rw[gD,gE (by rw[starts_len _ _ _ hf];exact hk)]at h
 simp only[Option.getD_some]at h
 have:=hW.len
 omega
theorem ZO.setAt {e:TypeId} {base b n cap k:Nat} {w:World} {xs:List Int} (a:Int) (h:ZO e base w (.slice (some ⟨b,0,none⟩) n cap) xs) (hk:k<xs.length) :
  ZO e base (w.setCell ⟨b,k,none⟩ (.int .i64 a)) (.slice (some ⟨b,0,none⟩) n cap) (xs.set k a)∧Kept base (Tag e) w (w.setCell ⟨b,k,none⟩ (.int .i64 a))∧w.frozen? ⟨b,k,none⟩=false:=by
 rcases h.2 with ⟨h1,_⟩|⟨g,c,cur,hv,hb,hh,hc,hm,hs,ht⟩
 ·cases h1
 ·simp only[Value.slice.injEq,Option.some.injEq,Addr.mk.injEq]at hv
  obtain⟨⟨rfl,_⟩,hn,rfl⟩:=hv
  refine⟨⟨by simp,.inr ⟨b,cap,cur.set! k (.int .i64 a),by simp[hn],hb,?_,by simpa using hc,hm,by simpa using hs,?_⟩⟩,?_,?_⟩
  ·simp[World.setCell,Array.getElem?_modify,hh]
  ·simp only[List.length_set,Nat.mul_one]at ht ⊢
   rw[Array.set!,Array.toList_setIfInBounds,List.take_set,ht,List.map_set]
  ·refine⟨rfl,rfl,rfl,Nat.le_of_eq (ZF w b k _).symm,fun j _ hd=>Q0 w b k j _ ?_⟩
   rintro rfl
   rcases hd with hd|hd
   ·omega
   ·exact hd _ hh ⟨_,_,rfl⟩
  ·exact ZC hh k
theorem not_tag {e e':TypeId} (h:e'≠e):∀cur,¬Tag e (.cells cur e' (0,0)):=by
 rintro cur ⟨_,_,hc⟩
 cases hc
 exact h rfl
theorem ZS.tag {base:Nat} {e:TypeId} {w w':World} {v:Value} {lines:List Strd.Line} {qs:List (Strd.Line×Sl)} (h:ZS base w v lines qs) (hk:Kept base (Tag e) w w') (h1:99≠e) (h2:136≠e):ZS base w' v lines qs:=
 ⟨h.fst,ZN h.row hk (not_tag h1),fun x hx=>ZN (h.oprs x hx) hk (not_tag h2)⟩
theorem Z0.tag {base:Nat} {e:TypeId} {w w':World} {b n:Nat} {lines:List Strd.Line} (h:Z0 w b n lines) (hk:Kept base (Tag e) w w'):Z0 w' b n lines:=by
 obtain⟨D,⟨es,clk,hb,r⟩,rest⟩:=h
 have e1:w'.heap[b]? = w.heap[b]?:=hk.block b (QD hb) (.inr fun o ho hd=>by rw[hb]at ho;cases ho;obtain⟨_,_,hc⟩:=hd;cases hc)
 exact Z0.block ⟨D,⟨es,clk,hb,r⟩,rest⟩ e1
theorem ZO.tag {e e':TypeId} {base base':Nat} {w w':World} {v:Value} {xs:List Int} (h:ZO e' base' w v xs) (hk:Kept base (Tag e) w w') (h1:e'≠e):ZO e' base' w' v xs:=ZN h hk (not_tag h1)
theorem take_drop_set (S st:List Int) (k:Nat) (h1:k<S.length) (h2:S.length=st.length):(S.take k++st.drop k).set k (S.getD k 0)=S.take (k+1)++st.drop (k+1):=by
 have hk:(S.take k).length=k:=by rw[List.length_take];omega
 have ht:S.take (k+1)=S.take k++[S[k]]:=by rw[List.take_add_one,gE h1];rfl
 rw[List.set_append_right _ _ (by omega),hk,Nat.sub_self,List.drop_eq_getElem_cons (by omega:k<st.length),List.set_cons_zero,ht,gD,gE h1,List.append_assoc]
 rfl
theorem setStarts_c (base gp:Nat) (r:Strd.Rd) (fs st:List Int) (w:World) (hP:PlanAt base w gp r fs st) (hW:WfR r) (hbw:base≤w.heap.size) :
  Calls Tryz.prog 98 #[.pointer (some ⟨gp,0,none⟩)] w fun e w'=>e=.returned (.tuple #[])∧PlanAt base w' gp r fs (Strd.starts r.org r.lines fs)∧Kept base (Tag 3) w w':=by
 obtain⟨⟨p,cap,gm,qs,vf,vs,hbx,hL,hLab,hmb,hf,hs⟩,hgb,hfl,hsl⟩:=hP
 obtain⟨pf,cf,rfl⟩:=hf.shape
 obtain⟨ps,cs,rfl⟩:=hs.shape
 obtain⟨bs,rfl,_,_,_⟩:=hs.at 0 (by omega)
 have hSl:=starts_len r.org r.lines fs hfl
 have hSsm:=starts_small r hW fs hfl
 have hSst:=starts_step r.org r.lines fs
 have hS0:=starts_zero r.org r.lines fs
 have hpost:∀w',Kept base (Tag 3) w w'→ZO 3 base w' (.slice (some ⟨bs,0,none⟩) st.length cs) (Strd.starts r.org r.lines fs)→PlanAt base w' gp r fs (Strd.starts r.org r.lines fs):=fun w' hk hi=>
  ⟨⟨p,cap,gm,qs,_,_,kboxE hk hbx (by decide),hL.tag hk (by decide) (by decide),hLab.tag hk,hmb,hf.tag hk (by decide),hi⟩,hgb,hfl,hSl⟩
 generalize Strd.starts r.org r.lines fs=S at *
 have HL:=QB hL
 have Hf:=QB hf
 have Hs:=QB hs
 have Hbx:=QB hbx
 have Hpost:=QB hpost
 have HSsm:=QB hSsm
 have HSst:=QB hSst
 have HS0:=QB hS0
 have HSl:=QB hSl
 have hn:=hW.len
 have c0:=QC hbx 0
 have c1:=QC hbx 1
 simp only[gA,gZ,gS]at c0 c1
 have hgl:=QD hbx
 clear hL hf hs hbx hpost hSsm hSst hS0 hSl hLab
 go_enter Tryz.func98,Tryz.ntmps98
 go_wp2_with fail
 go_loopw [2,16] (fun x c wr=>∃(k:Nat),k≤r.lines.length∧c=.int .i64 k∧x=.int .i64 (S.getD k 0)∧ZO 3 base wr (.slice (some ⟨bs,0,none⟩) st.length cs) (S.take k++st.drop k)∧Kept base (Tag 3) w wr) (fun _ c _=>r.lines.length-(intOf c).toNat)
 case atStart=>exact⟨0,by omega,rfl,by rw[QA HS0],QA Hs,Kept.refl _ _ _⟩
 case round=>
  obtain⟨k,hk,rfl,rfl,hSk,hKk⟩:=hrel
  have hbxk:=kboxE hKk (QA Hbx) (by decide)
  have e0:=QC hbxk 4
  have e1:=QC hbxk 3
  have e2:=QC hbxk 1
  simp only[gA,gZ,gS]at e0 e1 e2
  have hgk:=QD hbxk
  have Hbxk:=QB hbxk
  have hlenk:(S.take k++st.drop k).length=st.length:=by
   rw[List.length_append,List.length_take,List.length_drop,QA HSl];omega
  have hbwk:base≤wr.heap.size:=Nat.le_trans hbw hKk.size
  by_cases hlt:k<r.lines.length
  ·obtain⟨b,pq,nq,cq,rfl,_,hb,hOq,hcl⟩:=((QA HL).tag hKk (by decide) (by decide)).at k hlt
   have l0:=hcl 0 _ rfl
   have l1:=hcl 1 _ rfl
   have l2:=hcl 2 _ rfl
   have l3:=hcl 3 _ rfl
   have l4:=hcl 4 _ rfl
   have l5:=hcl 5 _ rfl
   have l6:=hcl 6 _ rfl
   simp only[Nat.add_zero]at l0
   have hkf:k<fs.length:=by omega
   obtain⟨bf,rfl,_,hbf,hcf⟩:=((QA Hf).tag hKk (by decide)).at k hkf
   have hstep:=QA HSst k hlt hkf
   have hwf:=hW.ins _ (List.getElem_mem hlt)
   have hpw:=hW.pow _ (List.getElem_mem hlt)
   have hsz:=size_small r hW _ (List.getElem_mem hlt) fs[k] (S.getD k 0)
   have hsm:=QA HSsm k hk
   generalize r.lines[k]=l at *
   generalize hfk:fs[k]=f at *
   have hlk:k<(S.take k++st.drop k).length:=by rw[hlenk];omega
   obtain⟨bs',hbs',_,hbsl,hold⟩:=ZO.at hSk k hlk
   cases hbs'
   obtain⟨hS2,hK2,hfz⟩:=hSk.setAt (S.getD k 0) hlk
   rw[take_drop_set S st k (by rw[QA HSl];omega) (by rw[QA HSl];omega)]at hS2
   have hb1:=QF (wr.setCell ⟨bs,k,none⟩ (.int .i64 (S.getD k 0))) (.cells #[.string (bstr l.label),.int .i64 l.ins.op.kind,.int .i64 l.ins.op.base,.int .i64 l.ins.op.number,.int .i64 l.ins.op.first,.int .i64 l.ins.op.last,.slice pq nq cq] 99)
   have Hx3:=QB (QH (wr.setCell ⟨bs,k,none⟩ (.int .i64 (S.getD k 0))) (.cells #[.string (bstr l.label),.int .i64 l.ins.op.kind,.int .i64 l.ins.op.base,.int .i64 l.ins.op.number,.int .i64 l.ins.op.first,.int .i64 l.ins.op.last,.slice pq nq cq] 99))
   obtain⟨bf',hbf',_,hbf3,hcf3⟩:=((((QA Hf).tag hKk (by decide)).tag hK2 (by decide)).below hb1).at k hkf
   cases hbf'
   rw[hfk]at hcf3
   have HS2:=QB (hS2.below hb1)
   have Hbx3:=QB (bbox hb1 (kboxE hK2 (QA Hbxk) (by decide)))
   have HO3:Hid (QS _ (.slice pq nq cq) l.ins.oprs):=QB (QS.below (ZN hOq hK2 (not_tag (by decide))) hb1)
   have hK3:Kept base (Tag 3) w _:=hKk.trans (hK2.trans (Kept.of_below hb1))
   have hkS:(k:Int)<(st.length:Int):=by omega
   have hkn:(k:Int)<(r.lines.length:Int):=by omega
   have hkn2:(k:Int)<(fs.length:Int):=by omega
   rw[ZF]at Hx3
   generalize hak:S.getD k 0=a at *
   have Hstep:=QB hstep
   have Hcf3:=QB hcf3
   clear hS2 hOq hSk hcl hstep hcf3 hak hfk
   go_upto_region 5 with fail
   generalize (wr.setCell ⟨bs,k,none⟩ (.int .i64 a)).alloc (.cells #[.string (bstr l.label),.int .i64 l.ins.op.kind,.int .i64 l.ins.op.base,.int .i64 l.ins.op.number,.int .i64 l.ins.op.first,.int .i64 l.ins.op.last,.slice pq nq cq] 99)=w3 at *
   have d1:=cell_regrown ((QC (QA Hx3) 1).trans rfl)
   have d2:=cell_regrown ((QC (QA Hx3) 2).trans rfl)
   have d3:=cell_regrown ((QC (QA Hx3) 3).trans rfl)
   have d4:=cell_regrown ((QC (QA Hx3) 4).trans rfl)
   have d5:=cell_regrown ((QC (QA Hx3) 5).trans rfl)
   have d6:=cell_regrown ((QC (QA Hx3) 6).trans rfl)
   have k3:=cell_regrown ((QC (QA Hbx3) 3).trans rfl)
   have kf:=cell_regrown (QA Hcf3)
   have ew:IntKind.i64.wrap (a+Strd.size l.ins f a)=a+Strd.size l.ins f a:=IntWalk.i64_in _ (by omega)
   have cS:∀d os,Calls Tryz.prog 52 #[.agg #[.int .i64 l.ins.op.kind,.int .i64 l.ins.op.base,.int .i64 l.ins.op.number,.int .i64 l.ins.op.first,.int .i64 l.ins.op.last,.slice pq nq cq],.int .i64 f,.int .i64 a] (grow (redrawn w3 d) os) fun e w''=>e=.returned (.int .i64 (Strd.size l.ins f a))∧∃p:Regrown,w''=grow (redrawn w3 p.d) p.os:=fun d os=>Calls.regrown_of (Size_c l.ins _ f a _ (by omega) (QS.below (QA HO3) (below_regrown w3 d os)) (Nat.le_trans hwf.le (by omega)) (fun h=>by
    have hl:=hwf.len
    rcases h with e|e|e <;> (rw[e]at hl;simp[Strd.roles]at hl;omega)) hpw)
   generalize Strd.size l.ins f a=z at *
   clear l0 l1 l2 l3 l4 l5 l6 e0 e1 e2 hold hfz hpw
   refine wp_region_quiet_below (by kernel_rfl) (by kernel_rfl) ?_
   repeat (go_big_quiet_step (first|exact cS _ _))
   refine wpQuiet_nil ?_
   intro _ hw'
   obtain⟨⟨dq,osq⟩,hw''⟩:=hw'
   subst hw''
   go_wp2
   go_roundw
   case rel=>exact⟨k+1,by omega,by go_num,by rw[QA Hstep],(QA HS2).below (below_regrown w3 dq osq),hK3.trans (Kept.of_below (below_regrown w3 dq osq))⟩
   case measure=>simp[intOf];omega
  ·obtain rfl:k=r.lines.length:=by omega
   have hlk:r.lines.length<(S.take r.lines.length++st.drop r.lines.length).length:=by rw[hlenk];omega
   obtain⟨bs',hbs',_,hbsl,hold⟩:=ZO.at hSk r.lines.length hlk
   cases hbs'
   obtain⟨hS2,hK2,hfz⟩:=hSk.setAt (S.getD r.lines.length 0) hlk
   rw[take_drop_set S st r.lines.length (by rw[QA HSl];omega) (by rw[QA HSl];omega),List.take_of_length_le (by rw[QA HSl];exact Nat.le_refl _),List.drop_eq_nil_of_le (by rw[hsl];exact Nat.le_refl _),List.append_nil]at hS2
   have hkS:(r.lines.length:Int)<(st.length:Int):=by omega
   have HS2:=QB hS2
   have Hend:=QB (QA Hpost _ (hKk.trans hK2) hS2)
   have hKe:=hKk.trans hK2
   clear hS2 hSk
   generalize S.getD r.lines.length 0=a at *
   go_upto_region 7 with fail
   go_region
   all_goals go_wp2
   all_goals go_end0
   all_goals exact⟨rfl,(QA Hend).below (QW (Below.refl _ _)),hKe.drew⟩
theorem PlanAt.form {base:Nat} {w:World} {gp:Nat} {r:Strd.Rd} {fs st:List Int} (h:PlanAt base w gp r fs st) (k:Nat) (hk:k<fs.length) :
  ∃bf cf,w.cell? ⟨gp,3,none⟩=some (.slice (some ⟨bf,0,none⟩) fs.length cf)∧gp<w.heap.size∧bf<w.heap.size∧w.cell? ⟨bf,k,none⟩=some (.int .i64 fs[k])∧w.frozen? ⟨bf,k,none⟩=false ∧
   ∀v,PlanAt base (w.setCell ⟨bf,k,none⟩ (.int .i64 v)) gp r (fs.set k v) st∧Kept base (Tag 92) w (w.setCell ⟨bf,k,none⟩ (.int .i64 v)):=by
 obtain⟨⟨p,cap,gm,qs,vf,vs,hbx,hL,hLab,hmb,hf,hs⟩,hgb,hfl,hsl⟩:=h
 obtain⟨pf,cf,rfl⟩:=hf.shape
 obtain⟨bf,rfl,_,hbf,hcf⟩:=hf.at k hk
 have c3:=QC hbx 3
 simp only[gA,gZ,gS]at c3
 refine⟨bf,cf,c3,QD hbx,hbf,hcf,(hf.setAt 0 hk).2.2,fun v=>?_⟩
 obtain⟨h1,h2,_⟩:=hf.setAt v hk
 refine⟨⟨⟨p,cap,gm,qs,_,vs,kboxE h2 hbx (by decide),hL.tag h2 (by decide) (by decide),hLab.tag h2,hmb,h1,hs.tag h2 (by decide)⟩,hgb,by rw[List.length_set];exact hfl,hsl⟩,h2⟩
theorem longer_len (lines:List Strd.Line) (st:List Int):∀(ls:List Strd.Line) (fs bs:List Int),fs.length=ls.length→ls.length≤bs.length→(Strd.longer lines st ls fs bs).length=ls.length
 |[],[],_,_,_=>rfl
 |[],_::_,_,h,_=>by cases h
 |_::_,[],_,h,_=>by cases h
 |_::_,_::_,[],_,h=>by simp at h
 |l::ls,f::fs,a::bs,h1,h2=>by
  simp only[Strd.longer,List.length_cons]
  rw[longer_len lines st ls fs bs (by simpa using h1) (by simpa using h2)]
theorem longer_at (lines:List Strd.Line) (st:List Int):∀(ls:List Strd.Line) (fs bs:List Int) (k:Nat) (h1:k<ls.length) (h2:k<fs.length) (_:k<bs.length),(Strd.longer lines st ls fs bs).getD k 0=if fs[k]<ls[k].ins.op.last∧Strd.misses lines st ls[k] fs[k] (bs.getD k 0)=true then fs[k]+1 else fs[k]
 |[],_,_,k,h1,_,_=>by simp at h1
 |_::_,[],_,k,_,h2,_=>by simp at h2
 |_::_,_::_,[],k,_,_,h3=>by simp at h3
 |l::ls,f::fs,a::bs,0,_,_,_=>by
  simp only[Strd.longer,List.getD_cons_zero,List.getElem_cons_zero]
 |l::ls,f::fs,a::bs,k+1,h1,h2,h3=>by
  simp only[Strd.longer,List.getD_cons_succ,List.getElem_cons_succ]
  exact longer_at lines st ls fs bs k (by simpa using h1) (by simpa using h2) (by simpa using h3)
theorem decide_or_ne {p q:Prop} [Decidable p] [Decidable q]:decide (p∨q)=(decide p||decide q):=by
 by_cases p <;> by_cases q <;> simp[*]
theorem take_snoc_ne (G fs:List Int) (k:Nat) (h1:k<G.length) (h2:k<fs.length):decide (G.take (k+1)≠fs.take (k+1))=(decide (G.take k≠fs.take k)||decide (G.getD k 0≠fs[k])):=by
 have e1:G.take (k+1)=G.take k++[G[k]]:=by rw[List.take_add_one,gE h1];rfl
 have e2:fs.take (k+1)=fs.take k++[fs[k]]:=by rw[List.take_add_one,gE h2];rfl
 have e3:G.getD k 0=G[k]:=by rw[gD,gE h1];rfl
 have hl:(G.take k).length=(fs.take k).length:=by rw[List.length_take,List.length_take];omega
 rw[e1,e2,e3,←decide_or_ne]
 congr 1
 apply propext
 constructor
 ·intro h
  by_cases a:G.take k=fs.take k
  ·right;intro b;exact h (by rw[a,b])
  ·exact .inl a
 ·rintro (h|h) e
  ·exact h (List.append_inj_left e hl)
  ·exact h (by have:=List.append_inj_right e hl;exact List.cons.inj this |>.1)
theorem mixed_at (G fs:List Int) (k:Nat) (h1:G.length=fs.length) (h2:k<fs.length) (h3:k<(G.take k++fs.drop k).length):(G.take k++fs.drop k)[k]=fs[k]:=by
 rw[List.getElem_append_right (by rw[List.length_take];omega)]
 simp only[List.length_take,List.getElem_drop]
 congr 1
 omega
theorem mixed_same (G fs:List Int) (k:Nat) (h1:G.length=fs.length) (h2:k<fs.length) (h:G.getD k 0=fs[k]):G.take k++fs.drop k=G.take (k+1)++fs.drop (k+1):=by
 rw[←take_drop_set G fs k (by omega) h1,h]
 have h3:k<(G.take k++fs.drop k).length:=by rw[List.length_append,List.length_take,List.length_drop];omega
 have:=mixed_at G fs k h1 h2 h3
 rw[←this,List.set_getElem_self]
theorem lengthen_c (base gp:Nat) (r:Strd.Rd) (fs st:List Int) (w:World) (hP:PlanAt base w gp r fs st) (hW:WfR r) (hst:∀a∈st,-2^40≤a∧a≤2^40) (hfs:∀f∈fs,-2^40≤f∧f≤2^40) :
  Calls Tryz.prog 99 #[.pointer (some ⟨gp,0,none⟩)] w fun e w'=>e=.returned (.bool (decide (Strd.longer r.lines st r.lines fs st≠fs)))∧PlanAt base w' gp r (Strd.longer r.lines st r.lines fs st) st∧Kept base (Tag 92) w w':=by
 have HP:=QB hP
 obtain⟨⟨p,cap,gm,qs,vf,vs,hbx,hL,_,_,_,_⟩,_,hfl,hsl⟩:=hP
 have hGl:=longer_len r.lines st r.lines fs st hfl (by omega)
 have hGa:=longer_at r.lines st r.lines fs st
 generalize Strd.longer r.lines st r.lines fs st=G at *
 have hGf:G.length=fs.length:=by omega
 have HL:=QB hL
 have HGa:=QB hGa
 have Hfs:=QB hfs
 have c1:=QC hbx 1
 simp only[gA,gZ,gS]at c1
 have hgl:=QD hbx
 have hn:=hW.len
 clear hbx hL hGa hfs
 go_enter Tryz.func99,Tryz.ntmps99
 go_wp2_with fail
 go_loopw [3,12] (fun x c wr=>∃(k:Nat),k≤r.lines.length∧c=.int .i64 k∧x=.bool (decide (G.take k≠fs.take k))∧PlanAt base wr gp r (G.take k++fs.drop k) st∧Kept base (Tag 92) w wr) (fun _ c _=>r.lines.length-(intOf c).toNat)
 case atStart=>exact⟨0,by omega,rfl,by simp,QA HP,Kept.refl _ _ _⟩
 case round=>
  obtain⟨k,hk,rfl,rfl,hPk,hKk⟩:=hrel
  have HPk:=QB hPk
  by_cases hlt:k<r.lines.length
  ·obtain⟨b,pq,nq,cq,rfl,_,hb,_,hcl⟩:=((QA HL).tag hKk (by decide) (by decide)).at k hlt
   have l0:=hcl 0 _ rfl
   have l1:=hcl 1 _ rfl
   have l2:=hcl 2 _ rfl
   have l3:=hcl 3 _ rfl
   have l4:=hcl 4 _ rfl
   have l5:=hcl 5 _ rfl
   have l6:=hcl 6 _ rfl
   simp only[Nat.add_zero]at l0
   have hkf:k<fs.length:=by omega
   have hFl:(G.take k++fs.drop k).length=fs.length:=by
    rw[List.length_append,List.length_take,List.length_drop];omega
   have hkF:k<(G.take k++fs.drop k).length:=by omega
   have hFk:=mixed_at G fs k hGf hkf hkF
   have hFd:(G.take k++fs.drop k).getD k 0=fs[k]:=by rw[gD,gE hkF,hFk];rfl
   have hga:=QA HGa k hlt hkf (by omega)
   have hfb:=QA Hfs _ (List.getElem_mem hkf)
   have hsn:=take_snoc_ne G fs k (by omega) hkf
   have hsame:=mixed_same G fs k hGf hkf
   have hset:=take_drop_set G fs k (by omega) hGf
   have cM0:=fun W (h:Below wr.heap.size wr W)=>misses_c base gp r (G.take k++fs.drop k) st k W (hPk.below h) hW hst hlt
   rw[hFd]at cM0
   generalize r.lines[k]=l at *
   generalize fs[k]=f at *
   generalize hMM:Strd.misses r.lines st l f (st.getD k 0)=M at *
   have hb1:=QF wr (.cells #[.string (bstr l.label),.int .i64 l.ins.op.kind,.int .i64 l.ins.op.base,.int .i64 l.ins.op.number,.int .i64 l.ins.op.first,.int .i64 l.ins.op.last,.slice pq nq cq] 99)
   have Hx1:=QB (QH wr (.cells #[.string (bstr l.label),.int .i64 l.ins.op.kind,.int .i64 l.ins.op.base,.int .i64 l.ins.op.number,.int .i64 l.ins.op.first,.int .i64 l.ins.op.last,.slice pq nq cq] 99))
   have hkn:(k:Int)<(r.lines.length:Int):=by omega
   have hkn2:(k:Int)<((G.take k++fs.drop k).length:Int):=by omega
   have HcM:=QB cM0
   have Hsn:=QB hsn
   have Hsame:=QB hsame
   have Hset:=QB hset
   have Hga:=QB hga
   clear hcl cM0 hsn hsame hset hga hPk hFd
   go_upto_region 5 with fail
   clear l0 l1 l2 l3 l4 l5 l6
   have HPa:=QB ((QA HPk).below hb1)
   have hKa:Kept base (Tag 92) w _:=hKk.trans (.of_below hb1)
   have cM:∀d os,Calls Tryz.prog 63 #[.pointer (some ⟨gp,0,none⟩),.int .i64 (k:Int)] (grow (redrawn (wr.alloc (.cells #[.string (bstr l.label),.int .i64 l.ins.op.kind,.int .i64 l.ins.op.base,.int .i64 l.ins.op.number,.int .i64 l.ins.op.first,.int .i64 l.ins.op.last,.slice pq nq cq] 99)) d) os) fun e w''=>e=.returned (.bool M)∧∃p:Regrown,w''=grow (redrawn (wr.alloc (.cells #[.string (bstr l.label),.int .i64 l.ins.op.kind,.int .i64 l.ins.op.base,.int .i64 l.ins.op.number,.int .i64 l.ins.op.first,.int .i64 l.ins.op.last,.slice pq nq cq] 99)) p.d) p.os:=fun d os=>Calls.regrown_of (QA HcM _ (QE hb1 (below_regrown _ d os)))
   generalize wr.alloc (.cells #[.string (bstr l.label),.int .i64 l.ins.op.kind,.int .i64 l.ins.op.base,.int .i64 l.ins.op.number,.int .i64 l.ins.op.first,.int .i64 l.ins.op.last,.slice pq nq cq] 99)=wa at *
   obtain⟨bf,cf,g3,hga',hbf,gf,gz,_⟩:=(QA HPa).form k hkF
   rw[hFk]at gf
   have d5:=cell_regrown ((QC (QA Hx1) 5).trans rfl)
   have k3:=cell_regrown g3
   have kf:=cell_regrown gf
   clear g3 gf gz
   by_cases hfl2:f<l.ins.op.last
   ·cases M
    ·have HgF:Hid (G.getD k 0=f):=QB (by rw[QA Hga,if_neg (fun h=>by cases h.2)])
     refine wp_region_quiet_below (by kernel_rfl) (by kernel_rfl) ?_
     repeat (go_big_quiet_step (first|exact cM _ _))
     refine wpQuiet_nil ?_
     intro _ hw'
     obtain⟨⟨dq,osq⟩,hw''⟩:=hw'
     subst hw''
     go_wp2
     go_roundw
     case rel=>exact⟨k+1,by omega,by go_num,by rw[QA Hsn,QA HgF];simp,by rw[←QA Hsame (QA HgF)];exact(QA HPa).below (below_regrown wa dq osq),hKa.trans (.of_below (below_regrown wa dq osq))⟩
     case measure=>simp[intOf];omega
    ·have HgF:Hid (G.getD k 0=f+1):=QB (by rw[QA Hga,if_pos ⟨hfl2,rfl⟩])
     refine wp_region_quiet_below (by kernel_rfl) (by kernel_rfl) ?_
     repeat (go_big_quiet_step (first|exact cM _ _))
     refine wpQuiet_nil ?_
     intro _ hw'
     obtain⟨⟨dq,osq⟩,hw''⟩:=hw'
     subst hw''
     have hb5:=below_regrown wa dq osq
     generalize grow (redrawn wa dq) osq=w5 at *
     have HP5:=QB ((QA HPa).below hb5)
     obtain⟨bf5,cf5,g3,hg5,hbf5,gf,gz,hset5⟩:=(QA HP5).form k hkF
     rw[hFk]at gf
     obtain⟨hp5,hk5⟩:=hset5 (f+1)
     rw[show f+1=G.getD k 0 from (QA HgF).symm,QA Hset]at hp5
     rw[QA HgF]at hp5
     have Hp5:=QB hp5
     have ew:IntKind.i64.wrap (f+1)=f+1:=IntWalk.i64_in _ (by omega)
     clear hp5 hset5 k3 kf d5
     go_wp2
     go_roundw
     case rel=>exact⟨k+1,by omega,by go_num,by rw[QA Hsn,QA HgF,show decide (f+1≠f)=true from decide_eq_true (by omega),Bool.or_true],QA Hp5,(hKa.trans (.of_below hb5)).trans hk5⟩
     case measure=>simp[intOf];omega
   ·have HgF:Hid (G.getD k 0=f):=QB (by rw[QA Hga,if_neg (fun h=>hfl2 h.1)])
    refine wp_region_quiet_below (by kernel_rfl) (by kernel_rfl) ?_
    repeat (go_big_quiet_step (first|exact cM _ _))
    refine wpQuiet_nil ?_
    intro _ hw'
    obtain⟨⟨dq,osq⟩,hw''⟩:=hw'
    subst hw''
    go_wp2
    go_roundw
    case rel=>exact⟨k+1,by omega,by go_num,by rw[QA Hsn,QA HgF];simp,by rw[←QA Hsame (QA HgF)];exact(QA HPa).below (below_regrown wa dq osq),hKa.trans (.of_below (below_regrown wa dq osq))⟩
    case measure=>simp[intOf];omega
  ·obtain rfl:k=r.lines.length:=by omega
   have e1:G.take r.lines.length=G:=List.take_of_length_le (by omega)
   have e2:fs.take r.lines.length=fs:=List.take_of_length_le (by omega)
   have e3:fs.drop r.lines.length=[]:=List.drop_eq_nil_of_le (by omega)
   have Hend:Hid (PlanAt base wr gp r G st):=QB (by have:=hPk;rw[e1,e3,List.append_nil]at this;exact this)
   rw[e1,e2]
   clear hPk HPk e1 e2 e3
   obtain⟨d,hd⟩:∃d,d=decide (G≠fs):=⟨_,rfl⟩
   rw[←hd]
   have Hd:=QB hd
   clear hd
   go_wp2
   go_ret
   exact⟨by rw[←QA Hd];rfl,QA Hend,hKk⟩
def pot:List Strd.Line→List Int→Nat
 |l::ls,f::fs=>(l.ins.op.last-f).toNat+pot ls fs
 |_,_=>0
theorem longer_pot (lines:List Strd.Line) (st:List Int):∀(ls:List Strd.Line) (fs bs:List Int),fs.length=ls.length→ls.length≤bs.length→pot ls (Strd.longer lines st ls fs bs)≤pot ls fs∧(Strd.longer lines st ls fs bs≠fs→pot ls (Strd.longer lines st ls fs bs)<pot ls fs)
 |[],[],_,_,_=>⟨Nat.le_refl _,fun h=>absurd rfl h⟩
 |[],_::_,_,h,_=>by cases h
 |_::_,[],_,h,_=>by cases h
 |_::_,_::_,[],_,h=>by simp at h
 |l::ls,f::fs,a::bs,h1,h2=>by
  obtain⟨i1,i2⟩:=longer_pot lines st ls fs bs (by simpa using h1) (by simpa using h2)
  simp only[Strd.longer]
  by_cases hc:f<l.ins.op.last∧Strd.misses lines st l f a=true
  ·rw[if_pos hc]
   simp only[pot]
   have:(l.ins.op.last-(f+1)).toNat+1=(l.ins.op.last-f).toNat:=by omega
   exact⟨by omega,fun _=>by omega⟩
  ·rw[if_neg hc]
   simp only[pot]
   refine⟨by omega,fun h=>?_⟩
   have:Strd.longer lines st ls fs bs≠fs:=fun e=>h (by rw[e])
   have:=i2 this
   omega
theorem longer_bound (lines:List Strd.Line) (st:List Int):∀(ls:List Strd.Line) (fs bs:List Int),(∀l∈ls,l.ins.op.last≤2)→(∀f∈fs,0≤f∧f≤2)→∀g∈Strd.longer lines st ls fs bs,0≤g∧g≤2
 |l::ls,f::fs,a::bs,hl,hf=>by
  intro g hg
  simp only[Strd.longer,List.mem_cons]at hg
  rcases hg with rfl|hg
  ·have h1:=hf f (by simp)
   have h2:=hl l (by simp)
   split
   ·rename_i h;omega
   ·exact h1
  ·exact longer_bound lines st ls fs bs (fun x hx=>hl x (by simp[hx])) (fun x hx=>hf x (by simp[hx])) g hg
 |[],_,_,_,_=>fun g hg=>by simp[Strd.longer]at hg
 |_::_,[],_,_,_=>fun g hg=>by simp[Strd.longer]at hg
 |_::_,_::_,[],_,_=>fun g hg=>by simp[Strd.longer]at hg
theorem first_pot:∀(ls:List Strd.Line),(∀l∈ls,0≤l.ins.op.first∧l.ins.op.last≤2)→pot ls (ls.map (·.ins.op.first))≤2*ls.length
 |[],_=>by simp[pot]
 |l::ls,h=>by
  have ih:=first_pot ls fun x hx=>h x (by simp[hx])
  have h1:=h l (by simp)
  simp only[List.map_cons,pot,List.length_cons]
  omega
def formsIn (w:World) (gp:Nat):List Int:=
 match w.cell? ⟨gp,3,none⟩ with
 |some (.slice (some a) n _)=>(List.range n).map fun i=>match w.cell? ⟨a.block,i,none⟩ with|some (.int _ v)=>v|_=>0
 |_=>[]
theorem PlanAt.formsIn {base:Nat} {w:World} {gp:Nat} {r:Strd.Rd} {fs st:List Int} (h:PlanAt base w gp r fs st):formsIn w gp=fs:=by
 obtain⟨⟨p,cap,gm,qs,vf,vs,hbx,_,_,_,hf,_⟩,_,_,_⟩:=h
 obtain⟨pf,cf,rfl⟩:=hf.shape
 have c3:=QC hbx 3
 simp only[gA,gZ,gS]at c3
 unfold Go.Proofs.YtegiloiojloaoaaGreatDoor.formsIn
 rw[c3]
 cases pf with
 |none=>
  rcases hf.2 with ⟨_,h0⟩|⟨g,c,cur,hv,_⟩
  ·exact(List.eq_nil_of_length_eq_zero h0).symm
  ·cases hv
 |some a=>
  simp only
  apply List.ext_getElem
  ·simp
  ·intro i h1 h2
   obtain⟨b,hb,_,_,hc⟩:=hf.at i h2
   cases hb
   simp[hc]
def Tag2 (o:Obj):Prop:=Tag 3 o∨Tag 92 o
theorem forms_mem (fs:List Int) (h:∀f∈fs,0≤f∧f≤2):∀f∈fs,-2^40≤f∧f≤2^40:=fun f hf=>by have:=h f hf;omega
theorem settle_c (base gp:Nat) (r:Strd.Rd) (fs st:List Int) (w:World) (m:Nat) (hP:PlanAt base w gp r fs st) (hW:WfR r) (hbw:base≤w.heap.size) (hfs:∀f∈fs,0≤f∧f≤2) (hm:pot r.lines fs<m) :
  Calls Tryz.prog 61 #[.pointer (some ⟨gp,0,none⟩)] w fun e w'=>e=.returned (.tuple #[])∧PlanAt base w' gp r (Strd.settle r.org r.lines m fs) (Strd.starts r.org r.lines (Strd.settle r.org r.lines m fs))∧Kept base Tag2 w w':=by
 generalize hX:Strd.settle r.org r.lines m fs=X
 have HX:=QB hX
 have HP:=QB hP
 have Hfs:=QB hfs
 clear hX hP hfs
 go_enter Tryz.func61,Tryz.ntmps61
 go_wp2_with fail
 refine(setStarts_c base gp r fs st w (QA HP) hW hbw).mono ?_
 rintro e w1 ⟨rfl,hP1,hK1⟩
 have HP1:=QB hP1
 have hK1':Kept base Tag2 w w1:=hK1.mono (Nat.le_refl _) (fun o h=>.inl h)
 clear hP1 hK1
 go_wp2_with fail
 go_loopw [] (fun wr=>∃(n:Nat) (gs:List Int),Strd.settle r.org r.lines n gs=X∧pot r.lines gs<n∧(∀f∈gs,0≤f∧f≤2)∧PlanAt base wr gp r gs (Strd.starts r.org r.lines gs)∧Kept base Tag2 w wr) (fun wr=>pot r.lines (formsIn wr gp))
 case atStart=>exact⟨m,fs,QA HX,hm,QA Hfs,QA HP1,hK1'⟩
 case round=>
  obtain⟨n,gs,hXn,hpn,hgs,hPg,hKg⟩:=hrel
  have hfl:=hPg.flen
  have hfi:=hPg.formsIn
  have hbwr:base≤wr.heap.size:=Nat.le_trans hbw hKg.size
  have hpot:=longer_pot r.lines (Strd.starts r.org r.lines gs) r.lines gs (Strd.starts r.org r.lines gs) hfl (by rw[starts_len _ _ _ hfl];omega)
  have hbd:=longer_bound r.lines (Strd.starts r.org r.lines gs) r.lines gs (Strd.starts r.org r.lines gs) (fun l hl=>(hW.forms l hl).2.2) hgs
  obtain⟨n',rfl⟩:∃n',n=n'+1:=⟨n-1,by omega⟩
  have hXs:X=if Strd.longer r.lines (Strd.starts r.org r.lines gs) r.lines gs (Strd.starts r.org r.lines gs)=gs then gs else Strd.settle r.org r.lines n' (Strd.longer r.lines (Strd.starts r.org r.lines gs) r.lines gs (Strd.starts r.org r.lines gs)):=hXn.symm
  have hcL:=lengthen_c base gp r gs (Strd.starts r.org r.lines gs) wr hPg hW (starts_mem r hW gs hfl) (forms_mem gs hgs)
  generalize Strd.longer r.lines (Strd.starts r.org r.lines gs) r.lines gs (Strd.starts r.org r.lines gs)=G at *
  have HXs:=QB hXs
  have Hpot:=QB hpot
  have Hbd:=QB hbd
  have HcL:=QB hcL
  have Hfi:=QB hfi
  clear hXn hXs hpot hbd hcL hfi hPg hgs
  go_wp2_with fail
  refine(QA HcL).mono ?_
  rintro e w2 ⟨rfl,hP2,hK2⟩
  have HP2:=QB hP2
  have hK2':Kept base Tag2 w w2:=hKg.trans (hK2.mono (Nat.le_refl _) (fun o h=>.inr h))
  have hbw2:base≤w2.heap.size:=Nat.le_trans hbwr hK2.size
  clear hP2 hK2
  by_cases hG:G=gs
  ·have hd:decide (G≠gs)=false:=by simp[hG]
   have Hend:Hid (PlanAt base w2 gp r X (Strd.starts r.org r.lines X)):=QB (by
    have h1:X=gs:=by rw[QA HXs,if_pos hG]
    rw[h1]
    have h2:=QA HP2
    rw[hG]at h2
    exact h2)
   rw[hd]
   clear hd hG
   go_wp2
   go_end0
   exact⟨rfl,QA Hend,hK2'⟩
  ·have hd:decide (G≠gs)=true:=by simp[hG]
   have HXn:Hid (Strd.settle r.org r.lines n' G=X):=QB (by rw[QA HXs,if_neg hG])
   have hlt:=(QA Hpot).2 hG
   rw[hd]
   clear hd hG
   go_wp2_with fail
   refine(setStarts_c base gp r G _ w2 (QA HP2) hW hbw2).mono ?_
   rintro e w3 ⟨rfl,hP3,hK3⟩
   have HP3:=QB hP3
   have hfi3:=hP3.formsIn
   have hK3':Kept base Tag2 w w3:=hK2'.trans (hK3.mono (Nat.le_refl _) (fun o h=>.inl h))
   clear hP3 hK3
   have Hfi3:=QB hfi3
   clear hfi3
   go_wp2
   go_roundw
   case rel=>exact⟨n',G,QA HXn,by omega,QA Hbd,QA HP3,hK3'⟩
   case measure=>rw[QA Hfi3,QA Hfi];exact hlt
theorem end_c (base gp:Nat) (r:Strd.Rd) (fs st:List Int) (w:World) (hP:PlanAt base w gp r fs st) (hW:WfR r) :
  Calls Tryz.prog 39 #[.pointer (some ⟨gp,0,none⟩)] w fun e w'=>e=.returned (.int .i64 (st.getD r.lines.length 0))∧Below w.heap.size w w':=by
 obtain⟨⟨p,cap,gm,qs,vf,vs,hbx,_,_,_,hf,hs⟩,_,_,hsl⟩:=hP
 have hkl:r.lines.length<st.length:=by omega
 rw[show st.getD r.lines.length 0=st[r.lines.length] by rw[gD,gE hkl];rfl]
 obtain⟨ps,cs,rfl⟩:=hs.shape
 obtain⟨bs,rfl,_,hbs,hcs⟩:=hs.at r.lines.length hkl
 generalize st[r.lines.length]=v at *
 have c4:=QC hbx 4
 simp only[gA,gZ,gS]at c4
 rw[hsl]at c4
 have hgl:=QD hbx
 have hn:=hW.len
 have ew:IntKind.i64.wrap (((r.lines.length+1:Nat):Int)-1)=(r.lines.length:Int):=by rw[IntWalk.i64_in _ (by omega)];omega
 have ew2:IntKind.i64.wrap ((r.lines.length:Int)+1-1)=(r.lines.length:Int):=by rw[IntWalk.i64_in _ (by omega)];omega
 have hlt:(r.lines.length:Int)<(r.lines.length:Int)+1:=by omega
 clear hs hsl hkl hf
 go_enter Tryz.func39,Tryz.ntmps39
 go_wp2
 go_region
 all_goals go_wp2
 all_goals go_ret
 all_goals exact⟨rfl,QW (Below.refl _ _)⟩
def firstIdx (h:Nat→Bool) (n:Nat):Nat:=match (List.range n).find? h with|some k=>k+1|none=>0
theorem firstIdx_none (h:Nat→Bool) (n:Nat) (hh:∀i,i<n→h i=false):firstIdx h n=0:=by
 unfold firstIdx
 rw[List.find?_eq_none.2 (fun x hx=>by rw[hh x (List.mem_range.1 hx)];decide)]
theorem firstIdx_some (h:Nat→Bool) (n k:Nat) (hk:k<n) (hh:∀i,i<k→h i=false) (ht:h k=true):firstIdx h n=k+1:=by
 unfold firstIdx
 have e:(List.range n).find? h=some k:=by
  rw[List.find?_range_eq_some]
  exact⟨ht,List.mem_range.2 hk,fun j hj=>by rw[hh j hj];rfl⟩
 rw[e]
theorem firstThat_63 (base gp:Nat) (r:Strd.Rd) (fs st:List Int) (h:Nat→Bool) (w:World) (hP:PlanAt base w gp r fs st) (hW:WfR r)
  (hold:∀k W,k<r.lines.length→Below w.heap.size w W→Calls Tryz.prog 63 #[.pointer (some ⟨gp,0,none⟩),.int .i64 (k:Int)] W fun e w'=>e=.returned (.bool (h k))∧Below W.heap.size W w') :
  Calls Tryz.prog 62 #[.pointer (some ⟨gp,0,none⟩),.func (.func 63) #[.pointer (some ⟨gp,0,none⟩)] #[]] w fun e w'=>e=.returned (.int .i64 (firstIdx h r.lines.length))∧Below w.heap.size w w':=by
 obtain⟨⟨p,cap,gm,qs,vf,vs,hbx,_,_,_,_,_⟩,_,_,_⟩:=hP
 have c1:=QC hbx 1
 simp only[gA,gZ,gS]at c1
 have hgl:=QD hbx
 have hn:=hW.len
 generalize hX:firstIdx h r.lines.length=X
 have HX:=QB hX
 have Hold:=QB hold
 clear hbx hX hold
 go_enter Tryz.func62,Tryz.ntmps62
 go_wp2_with fail
 go_loopw [12] (fun c wr=>∃k:Nat,k≤r.lines.length∧c=.int .i64 k∧(∀i,i<k→h i=false)∧Below w.heap.size w wr) (fun c _=>r.lines.length-(intOf c).toNat)
 case atStart=>exact⟨0,by omega,rfl,fun i hi=>by omega,Below.refl _ _⟩
 case round=>
  obtain⟨k,hk,rfl,hall,hbl⟩:=hrel
  have Hall:=QB hall
  clear hall
  by_cases hlt:k<r.lines.length
  ·have hkn:(k:Int)<(r.lines.length:Int):=by omega
   go_wp2_with fail
   refine(QA Hold k wr hlt hbl).mono ?_
   rintro e w2 ⟨rfl,hb2⟩
   cases hh:h k
   ·go_wp2
    go_roundw
    case rel=>
     refine⟨k+1,by omega,by go_num,fun i hi=>?_,QE hbl hb2⟩
     by_cases e:i<k
     ·exact QA Hall i e
     ·obtain rfl:i=k:=by omega
      exact hh
    case measure=>simp[intOf];omega
   ·have Hfin:Hid (X=k+1):=QB (by rw[←QA HX];exact firstIdx_some h _ k hlt (QA Hall) hh)
    go_wp2
    go_ret
    exact⟨by rw[QA Hfin];rfl,QE hbl hb2⟩
  ·obtain rfl:k=r.lines.length:=by omega
   have Hfin:Hid (X=0):=QB (by rw[←QA HX];exact firstIdx_none h _ (QA Hall))
   go_wp2
   go_ret
   exact⟨by rw[QA Hfin];rfl,hbl⟩
theorem firstThat_64 (base gp:Nat) (r:Strd.Rd) (fs st:List Int) (h:Nat→Bool) (w:World) (hP:PlanAt base w gp r fs st) (hW:WfR r)
  (hold:∀k W,k<r.lines.length→Below w.heap.size w W→Calls Tryz.prog 64 #[.pointer (some ⟨gp,0,none⟩),.int .i64 (k:Int)] W fun e w'=>e=.returned (.bool (h k))∧Below W.heap.size W w') :
  Calls Tryz.prog 62 #[.pointer (some ⟨gp,0,none⟩),.func (.func 64) #[.pointer (some ⟨gp,0,none⟩)] #[]] w fun e w'=>e=.returned (.int .i64 (firstIdx h r.lines.length))∧Below w.heap.size w w':=by
 obtain⟨⟨p,cap,gm,qs,vf,vs,hbx,_,_,_,_,_⟩,_,_,_⟩:=hP
 have c1:=QC hbx 1
 simp only[gA,gZ,gS]at c1
 have hgl:=QD hbx
 have hn:=hW.len
 generalize hX:firstIdx h r.lines.length=X
 have HX:=QB hX
 have Hold:=QB hold
 clear hbx hX hold
 go_enter Tryz.func62,Tryz.ntmps62
 go_wp2_with fail
 go_loopw [12] (fun c wr=>∃k:Nat,k≤r.lines.length∧c=.int .i64 k∧(∀i,i<k→h i=false)∧Below w.heap.size w wr) (fun c _=>r.lines.length-(intOf c).toNat)
 case atStart=>exact⟨0,by omega,rfl,fun i hi=>by omega,Below.refl _ _⟩
 case round=>
  obtain⟨k,hk,rfl,hall,hbl⟩:=hrel
  have Hall:=QB hall
  clear hall
  by_cases hlt:k<r.lines.length
  ·have hkn:(k:Int)<(r.lines.length:Int):=by omega
   go_wp2_with fail
   refine(QA Hold k wr hlt hbl).mono ?_
   rintro e w2 ⟨rfl,hb2⟩
   cases hh:h k
   ·go_wp2
    go_roundw
    case rel=>
     refine⟨k+1,by omega,by go_num,fun i hi=>?_,QE hbl hb2⟩
     by_cases e:i<k
     ·exact QA Hall i e
     ·obtain rfl:i=k:=by omega
      exact hh
    case measure=>simp[intOf];omega
   ·have Hfin:Hid (X=k+1):=QB (by rw[←QA HX];exact firstIdx_some h _ k hlt (QA Hall) hh)
    go_wp2
    go_ret
    exact⟨by rw[QA Hfin];rfl,QE hbl hb2⟩
  ·obtain rfl:k=r.lines.length:=by omega
   have Hfin:Hid (X=0):=QB (by rw[←QA HX];exact firstIdx_none h _ (QA Hall))
   go_wp2
   go_ret
   exact⟨by rw[QA Hfin];rfl,hbl⟩
end Go.Proofs.YtegiloiojloaoaaGreatDoor
