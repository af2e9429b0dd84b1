/- The reference's Disassemble. -/
import Derived.Test.YtegiloiojloaoaaGreatDoorCSpec
import Derived.Test.YtegiloiojloaoaaGreatDoorCRef41
import Derived.Test.YtegiloiojloaoaaGreatDoorCBsrc
import Derived.Deep.RegionHeld3
set_option linter.unusedVariables false
set_option linter.unusedSimpArgs false
set_option maxHeartbeats 8000000
set_option maxRecDepth 1000000
namespace Go.Proofs.YtegiloiojloaoaaGreatDoor
open Go.RowKit Go.Shelf Go.Sort Go.Maps
namespace Rf
theorem org_text (n:Int):Strd.Q8 (Strd.QQ Strd.orgOp [n])=[111,114,103,32]++Strd.itoa n:=by
 have hw:Strd.Q2 Strd.orgOp=[111,114,103]:=by decide +kernel
 show Strd.Q2 Strd.orgOp++Strd.joined (List.zipWith _ (Strd.roles Strd.orgOp.kind 1) _)=_
 rw[hw,show Strd.roles Strd.orgOp.kind 1=[2] from rfl]
 simp[Strd.joined,Strd.ZE,Strd.mark,Strd.QQ]
theorem told_short {i:Strd.Ins} {o:Strd.Op} {ns:List Int} (h:Strd.Told i o ns) (hk:o.kind≠11) (a:Int):(Strd.bytes i i.op.first a).length≤2^40:=by
 obtain⟨r1,r2,r3,r4,r5⟩:=Strd.told_rng h
 rw[Strd.bytes_len i i.op.first a ⟨r2,r3⟩ r4]
 have ho:i.op=o:=by rw[h.ins];rfl
 have hop:i.oprs.length=ns.length:=by rw[h.ins];simp[Strd.QQ]
 have htw:=h.two
 have hkinds:o.kind=0∨o.kind=1∨o.kind=2∨o.kind=3∨o.kind=4∨o.kind=5∨o.kind=6∨o.kind=7∨o.kind=8:=by
  have:∀o∈Strd.toldOps,o.kind=1∨o.kind=2∨o.kind=3∨o.kind=4∨o.kind=5∨o.kind=6∨o.kind=7∨o.kind=8∨o.kind=11:=by decide +kernel
  have:=this o h.op
  omega
 have hjs:=jumpSize_rng i.op i.op.first
 have:Strd.size i i.op.first a≤1000:=by
  unfold Strd.size
  simp only[ho,hop]
  rw[ho]at hjs
  rcases hkinds with e|e|e|e|e|e|e|e|e <;> simp only[e]
  ·simp
  ·simp
  ·simp
  ·simp
  ·simp;split <;> omega
  ·simp;omega
  ·simp;omega
  ·simp;omega
  ·simp;omega
 omega
theorem cand_short (b:Strd.Bs) (a:Int) (ha:0≤a∧a≤20000000) (i:Strd.Ins) (hi:i∈cands b a) (m:Strd.Bs) (h:aloneB (Strd.Q8 i) a=some m):m.length≤2^40:=by
 rcases cand_told b a ha i hi with ⟨o,ns,ht,hk,hk0⟩|⟨h1,h2,_⟩
 ·rw[alone_told ht hk (cand_len b a ha i o ns ht) a]at h
  split at h
  ·cases h
  ·cases h
   exact told_short ht hk a
 ·rw[alone_none h2]at h;cases h
theorem no_pre (m b:Strd.Bs) (h:m.isPrefixOf b=false):(b.take m.length==m)=false:=by
 cases hb:(b.take m.length==m) with
 |false=>rfl
 |true=>
  have e:=eq_of_beq hb
  have:m <+: b:=List.prefix_iff_eq_take.2 e.symm
  rw[List.isPrefixOf_iff_prefix.2 this]at h
  cases h
theorem ext_mid (S:Strd.Bs) (k n:Nat):(bstr S).extract k (k+n)=bstr ((S.drop k).take n):=QZ (by
 rw[ZV,Q4,Q4,List.drop_take,Nat.add_sub_cancel_left])
end Rf
theorem Dis_ref_no (org:Int) (s:Strd.Bs) (hM:Strd.mayBe org s=false) (w:World) (hl:s.length≤9223372036854775807) :
  Calls Tryz.prog 36 #[.agg #[.int .i64 org,.string (bstr s)]] w fun e w'=>e=.returned (.tuple #[.string (bstr []),.int .i64 8])∧Below w.heap.size w w':=by
 have Hbx:=QB (QH w (.cells #[.int .i64 org,.string (bstr s)] 23))
 have hba:=QF w (.cells #[.int .i64 org,.string (bstr s)] 23)
 have z0:=QC (QA Hbx) 0
 have z1:=QC (QA Hbx) 1
 simp only[gA,gZ,gS]at z0 z1
 have hlt:=QD (QA Hbx)
 unfold Strd.mayBe Strd.isPlace at hM
 by_cases h1:org<0
 ·clear hM
  go_enter Tryz.func36,Tryz.ntmps36
  go_wp2
  refine bodyPost_ret (v:=.tuple #[.string ⟨#[]⟩,.int .i64 8]) (by simp[results,Tryz.results36]) rfl ?_
  exact⟨rfl,hba⟩
 ·by_cases h2:16777214<org
  ·clear hM
   go_enter Tryz.func36,Tryz.ntmps36
   go_wp2
   refine bodyPost_ret (v:=.tuple #[.string ⟨#[]⟩,.int .i64 8]) (by simp[results,Tryz.results36]) rfl ?_
   exact⟨rfl,hba⟩
  ·cases h3:(org % 2 != 0) with
   |true=>
    clear hM
    go_enter Tryz.func36,Tryz.ntmps36
    go_wp2
    refine bodyPost_ret (v:=.tuple #[.string ⟨#[]⟩,.int .i64 8]) (by simp[results,Tryz.results36]) rfl ?_
    exact⟨rfl,hba⟩
   |false=>
    by_cases h4:400<s.length
    ·have h4I:(400:Int)<(s.length:Int):=by omega
     clear hM
     go_enter Tryz.func36,Tryz.ntmps36
     go_wp2
     refine bodyPost_ret (v:=.tuple #[.string ⟨#[]⟩,.int .i64 8]) (by simp[results,Tryz.results36]) rfl ?_
     exact⟨rfl,hba⟩
    ·have h4I:¬(400:Int)<(s.length:Int):=by omega
     have q1:IntKind.i64.wrap (org+(s.length:Int))=org+(s.length:Int):=IntWalk.i64_in _ (by omega)
     have q2:IntKind.i64.wrap (org+(s.length:Int)-1)=org+(s.length:Int)-1:=IntWalk.i64_in _ (by omega)
     have h5:16777214<org+(s.length:Int)-1:=by
      refine Decidable.byContradiction (fun h=>?_)
      simp only[bne_eq_false_iff_eq]at h3
      have e1:(Strd.within org 0 0xfffffe&&!Strd.isOdd org)=true:=by
       unfold Strd.within Strd.isOdd
       simp
       omega
      rw[e1,decide_eq_true (by omega),decide_eq_true (by omega)]at hM
      cases hM
     clear hM
     go_enter Tryz.func36,Tryz.ntmps36
     go_wp2
     refine bodyPost_ret (v:=.tuple #[.string ⟨#[]⟩,.int .i64 8]) (by simp[results,Tryz.results36]) rfl ?_
     exact⟨rfl,hba⟩
theorem Dis_ref_yes (org:Int) (s:Strd.Bs) (hM:Strd.mayBe org s=true) (w:World) :
  Calls Tryz.prog 36 #[.agg #[.int .i64 org,.string (bstr s)]] w fun e w'=>e=.returned (.tuple #[.string (bstr (Strd.disText (Strd.disLines org s))),.int .i64 0])∧Below w.heap.size w w':=by
 unfold Strd.mayBe at hM
 simp only[Bool.and_eq_true,decide_eq_true_eq]at hM
 obtain⟨⟨hpl,h400⟩,htop⟩:=hM
 have hpr:=Strd.place_rng hpl
 have hfull:Strd.disText (Strd.disLines org s)=(([111,114,103,32]++Strd.itoa org)++[10])++Strd.disText (Strd.disAll org s):=by rw[←Rf.org_text];exact Strd.disText_cons _ _
 have Hfull:=QB hfull
 generalize Strd.disText (Strd.disLines org s)=FULL at *
 clear hfull
 have Hbx:=QB (QH w (.cells #[.int .i64 org,.string (bstr s)] 23))
 have hba:=QF w (.cells #[.int .i64 org,.string (bstr s)] 23)
 have z0:=QC (QA Hbx) 0
 have z1:=QC (QA Hbx) 1
 simp only[gA,gZ,gS]at z0 z1
 have hlt0:=QD (QA Hbx)
 have h1:¬org<0:=by omega
 have h2:¬16777214<org:=by omega
 have h3:(org % 2 != 0)=false:=by
  unfold Strd.isPlace Strd.within Strd.isOdd at hpl
  simp at hpl
  simp only[bne_eq_false_iff_eq]
  omega
 have h4I:¬(400:Int)<(s.length:Int):=by omega
 have q1:IntKind.i64.wrap (org+(s.length:Int))=org+(s.length:Int):=IntWalk.i64_in _ (by omega)
 have q2:IntKind.i64.wrap (org+(s.length:Int)-1)=org+(s.length:Int)-1:=IntWalk.i64_in _ (by omega)
 have h5:¬16777214<org+(s.length:Int)-1:=by omega
 have l0:=Rf.itoa_small org (by omega)
 have CD:=QB (fun V=>digits_ref org V (by omega))
 clear hpl htop
 go_enter Tryz.func36,Tryz.ntmps36
 go_upto_region 3 with fail
 go_wp2_with (go_at_call 54;refine(QA CD _).mono ?_;rintro e wz ⟨rfl,hwz⟩;have hwz':=hwz.symm;subst hwz')
 obtain⟨g,hg⟩:∃g,w.heap.size=g:=⟨_,rfl⟩
 rw[hg]at Hbx hba z0 z1 hlt0 ⊢
 clear h1 h2 h3 h4I q1 q2 h5 CD z0 z1
 generalize w.alloc (.cells #[.int .i64 org,.string (bstr s)] 23)=W1 at *
 go_loopw [4,5] (fun c4 c5 wr=>∃(k:Nat) (T:Strd.Bs),k≤s.length∧c4=.string (bstr T)∧c5=.int .i64 k∧T++Strd.disText (Strd.disAll (org+k) (s.drop k))=FULL∧T.length≤2000000*k+100∧Below W1.heap.size W1 wr) (fun _ c _=>s.length-(intOf c).toNat)
 case atStart=>
  refine⟨0,[111,114,103,32]++Strd.itoa org++[10],by omega,?_,rfl,?_,?_,Below.refl _ _⟩
  ·exact congrArg Value.string (QZ (by simp))
  ·rw[QA Hfull];simp
  ·simp only[List.length_append,List.length_cons,List.length_nil];omega
 case round=>
  obtain⟨k,T,hk,rfl,rfl,hT,hTl,hbr⟩:=hrel
  have HT:=QB hT
  have Hbr:=QB (bbox hbr (QA Hbx))
  have z0:=QC (QA Hbr) 0
  have z1:=QC (QA Hbr) 1
  simp only[gA,gZ,gS]at z0 z1
  have hltr:=QD (QA Hbr)
  clear hT
  by_cases hlt:k<s.length
  ·have hltI:(k:Int)<(s.length:Int):=by omega
   have hkl:(k:Int)≤(s.length:Int):=by omega
   have hw1:IntKind.i64.wrap (org+(k:Int))=org+(k:Int):=IntWalk.i64_in _ (by omega)
   have hsub:=sub_from s k
   have hne:s.drop k≠[]:=by intro h;have:=congrArg List.length h;rw[List.length_drop]at this;simp at this;omega
   have hdl:(s.drop k).length=s.length-k:=List.length_drop
   have ha:0≤org+(k:Int)∧org+(k:Int)≤20000000:=by omega
   have Hfc:=QB (Rf.find_cand (s.drop k) hne (org+k) ha)
   have CT:=QB (fun V=>tries_ref (s.drop k) (org+k) V (by omega) (by omega) ha)
   generalize hL:Rf.triesB (s.drop k) (org+k)=L at CT
   have HL:=QB hL
   have Hstep:=QB (Strd.dis_step (org+k) (s.drop k) hne)
   have Hgd:=QB (Strd.good_first (s.drop k) hne (org+k))
   clear hL hne hdl
   go_upto_region 6 with fail
   go_cut [6] (fun v wq=>∃p c,v=.slice p L.length c∧ZR wr.heap.size wq (.slice p L.length c) L∧Below wr.heap.size wr wq)
   case first=>
    go_region_held3 (fun W=>W.cell? ⟨g,0,none⟩=some (.int .i64 org)∧W.cell? ⟨g,1,none⟩=some (.string (bstr s))) (first|go_keep|exact hk1) (first
     |(go_at_call 55;refine(QA CT _).mono ?_;rintro e w6 ⟨v,rfl,hS6,hb6⟩;have hB6:Below wr.heap.size wr w6:=(by first|exact hb6|exact QE (QW (Below.refl _ _)) hb6);have hk1:w6.cell? ⟨g,0,none⟩=some (.int .i64 org)∧w6.cell? ⟨g,1,none⟩=some (.string (bstr s)):=⟨(hB6.cell (p:=⟨g,0,none⟩) hltr).trans z0,(hB6.cell (p:=⟨g,1,none⟩) hltr).trans z1⟩))
    all_goals go_wp2_with fail
    all_goals go_meet
    all_goals (obtain⟨p,c,rfl⟩:=Rf.strs_shape hS6;exact⟨p,c,rfl,hS6,hB6⟩)
   case rest=>
    obtain⟨p6,n6,rfl,hS6,hB6⟩:=hcut
    obtain⟨j,hj,hcj,hmj,haj,hbef⟩:=QA Hfc
    have hLc:L=(Rf.cands (s.drop k) (org+k)).map Strd.Q8:=by rw[←QA HL];exact Rf.tries_cands _ _
    have hLl:L.length=(Rf.cands (s.drop k) (org+k)).length:=by rw[hLc,List.length_map]
    have hLat:∀i (h:i<L.length),L[i]=Strd.Q8 ((Rf.cands (s.drop k) (org+k))[i]'(by omega)):=by intro i h;simp[hLc]
    have hfm:∀i (h:i<L.length),Rf.Formed L[i]∧L[i].length≤2^20:=by intro i h;rw[hLat i h];exact Rf.cand_formed _ _ ha _ (List.getElem_mem _)
    have hjm:∀h:j<L.length,L[j]=Strd.Q8 (Strd.ZH (s.drop k) (org+k)):=by intro h;rw[hLat j h,hcj]
    have hjl:j<L.length:=by omega
    have hno:∀i (h:i<L.length),i<j→Rf.matchesB L[i] (s.drop k) (org+k)=false:=by intro i h hi;rw[hLat i h];exact hbef i (by omega) hi
    have Hfm:=QB hfm
    have Hjm:=QB (hjm hjl)
    have Hno:=QB hno
    have Hal:Hid (∀i (h:i<L.length) m,Rf.aloneB L[i] (org+(k:Int))=some m→m.length≤2^40):=QB (by intro i h m hm;rw[hLat i h]at hm;exact Rf.cand_short _ _ ha _ (List.getElem_mem _) m hm)
    have Haj:=QB haj
    have hLn:L.length≤9223372036854775807:=by
     rcases hS6.2 with ⟨_,h0⟩|⟨_,cap,_,_,_,_,h1,h2,_⟩
     ·omega
     ·unfold maxLen at h2;omega
    have hgs:=(Strd.good_size (QA Hgd)).2
    have hgz:=(QA Hgd).size
    rw[List.length_drop]at hgs
    obtain⟨z,hz⟩:∃z:Nat,Strd.size (Strd.ZH (s.drop k) (org+k)) (Strd.ZH (s.drop k) (org+k)).op.first (org+k)=(z:Int):=⟨(Strd.size (Strd.ZH (s.drop k) (org+k)) (Strd.ZH (s.drop k) (org+k)).op.first (org+k)).toNat,by omega⟩
    have Hz:=QB hz
    rw[hz]at hgs hgz
    rw[Int.toNat_natCast]at hgs
    have hz1:1≤z:=by omega
    have hzk:k+z≤s.length:=by omega
    have hB1:=QE hbr hB6
    have HS6:=QB hS6
    have Hb6:=QB (bbox hB6 (QA Hbr))
    clear hLc hLl hLat hfm hjm hno hcj hmj haj hbef hgs hgz hz hS6 hB6 hj Hfc HL z0 z1 hltr CT Hbr
    go_wp2
    go_loopw [4,5,7] (fun c4 c5 c7 wi=>∃i:Nat,i≤j∧c4=.string (bstr T)∧c5=.int .i64 (k:Int)∧c7=.int .i64 i∧Below wc.heap.size wc wi) (fun _ _ c _=>L.length-(intOf c).toNat)
    case atStart=>exact⟨0,by omega,rfl,rfl,rfl,Below.refl _ _⟩
    case round=>
     obtain⟨i,hi,rfl,rfl,rfl,hBi⟩:=hrel
     rename World=>wi
     have hiL:i<L.length:=by omega
     have hiI:(i:Int)<(L.length:Int):=by omega
     have z0i:=QC (bbox hBi (QA Hb6)) 0
     have z1i:=QC (bbox hBi (QA Hb6)) 1
     simp only[gA,gZ,gS]at z0i z1i
     have hlti:=QD (bbox hBi (QA Hb6))
     obtain⟨bi,hpi,_,hbi,hci⟩:=(ZR.below (QA HS6) hBi).at i hiL
     subst hpi
     obtain⟨hfi,hfl⟩:=QA Hfm i hiL
     have hw2:IntKind.i64.wrap ((i:Int)+1)=(i:Int)+1:=IntWalk.i64_in _ (by omega)
     have CA:∀V,Calls Tryz.prog 56 #[.string (bstr L[i]),.int .i64 (org+(k:Int))] V fun e w'=>e=.returned (.tuple #[.string (bstr ((Rf.aloneB L[i] (org+(k:Int))).getD [])),.bool (Rf.aloneB L[i] (org+(k:Int))).isSome])∧Below V.heap.size V w':=fun V=>alone_ref L[i] (org+(k:Int)) V hfl (by omega) hfi
     have Hml:Hid (∀m,Rf.aloneB L[i] (org+(k:Int))=some m→m.length≤2^40):=QB (QA Hal i hiL)
     generalize hA:Rf.aloneB L[i] (org+(k:Int))=A at CA Hml
     have HA:=QB hA
     clear hA
     go_upto_region 10 with fail
     have d0:=cell_regrown z0i
     have dl:=cell_regrown hci
     have cA:∀d os,Calls Tryz.prog 56 #[.string (bstr L[i]),.int .i64 (org+(k:Int))] (grow (redrawn wi d) os) fun e w''=>e=.returned (.tuple #[.string (bstr (A.getD [])),.bool A.isSome])∧∃p:Regrown,w''=grow (redrawn wi p.d) p.os:=fun d os=>Calls.regrown_of (CA _)
     clear CA
     refine wp_region_quiet_below (by kernel_rfl) (by kernel_rfl) ?_
     repeat (go_big_quiet_step (first|exact cA _ _))
     refine wpQuiet_nil ?_
     intro _ hw'
     obtain⟨⟨dq,osq⟩,hw''⟩:=hw'
     subst hw''
     have hbx:=below_regrown wi dq osq
     generalize grow (redrawn wi dq) osq=wx at *
     have y1:=(hbx.cell (p:=⟨g,1,none⟩) hlti).trans z1i
     have hltx:g<wx.heap.size:=Nat.lt_of_lt_of_le hlti hbx.size
     have hBx:=QE hBi hbx
     clear d0 dl cA z0i z1i hci
     by_cases hij:i<j
     ·have hm:=QA Hno i hiL hij
      unfold Rf.matchesB at hm
      rw[QA HA]at hm
      cases A with
      |none=>
       simp only[Option.getD_none,Option.isSome_none]
       clear hm Hml HA
       go_wp2
       go_roundw
       case rel=>exact⟨i+1,by omega,rfl,rfl,by go_num,hBx⟩
       case measure=>simp[intOf];omega
      |some m=>
       simp only[Option.getD_some,Option.isSome_some]
       have hml:=QA Hml m rfl
       have hwm:IntKind.i64.wrap ((k:Int)+(m.length:Int))=(k:Int)+(m.length:Int):=IntWalk.i64_in _ (by omega)
       simp only at hm
       by_cases hm0:0<m.length
       ·have hm0I:(0:Int)<(m.length:Int):=by omega
        rw[decide_eq_true hm0,Bool.true_and]at hm
        by_cases hmk:k+m.length≤s.length
        ·have hmkI:(k:Int)+(m.length:Int)≤(s.length:Int):=by omega
         have hkm:(k:Int)≤(k:Int)+(m.length:Int):=by omega
         have hcm:=Rf.no_pre m (s.drop k) hm
         have hex:=Rf.ext_mid s k m.length
         clear hm Hml HA
         go_wp2
         go_roundw
         case rel=>exact⟨i+1,by omega,rfl,rfl,by go_num,hBx⟩
         case measure=>simp[intOf];omega
        ·have hmkI:¬(k:Int)+(m.length:Int)≤(s.length:Int):=by omega
         clear hm Hml HA
         go_wp2
         go_roundw
         case rel=>exact⟨i+1,by omega,rfl,rfl,by go_num,hBx⟩
         case measure=>simp[intOf];omega
       ·have hm0I:¬(0:Int)<(m.length:Int):=by omega
        clear hm Hml HA
        go_wp2
        go_roundw
        case rel=>exact⟨i+1,by omega,rfl,rfl,by go_num,hBx⟩
        case measure=>simp[intOf];omega
     ·obtain rfl:i=j:=by omega
      have hAe:A=some ((s.drop k).take z):=by rw[←QA HA,QA Hjm,QA Haj,QA Hz,Int.toNat_natCast]
      subst hAe
      simp only[Option.getD_some,Option.isSome_some]
      have hmlen:((s.drop k).take z).length=z:=by rw[List.length_take,List.length_drop];omega
      have hcm:((s.drop k).take z==(s.drop k).take z)=true:=by simp
      have hex:=Rf.ext_mid s k z
      generalize (s.drop k).take z=m at *
      subst hmlen
      have hwm:IntKind.i64.wrap ((k:Int)+(m.length:Int))=(k:Int)+(m.length:Int):=IntWalk.i64_in _ (by omega)
      have hm0I:(0:Int)<(m.length:Int):=by omega
      have hmkI:(k:Int)+(m.length:Int)≤(s.length:Int):=by omega
      have hkm:(k:Int)≤(k:Int)+(m.length:Int):=by omega
      obtain⟨bx,hpx,_,hbxl,hcx⟩:=(ZR.below (QA HS6) hBx).at i hiL
      cases hpx
      have HN:Hid ((T++L[i]++[10])++Strd.disText (Strd.disAll (org+((k+m.length:Nat):Int)) (s.drop (k+m.length)))=FULL):=QB (by
       rw[←QA HT,QA Hstep,QA Hz,Int.toNat_natCast,Strd.disText_cons,List.drop_drop,QA Hjm,show org+((k+m.length:Nat):Int)=org+(k:Int)+(m.length:Int) by omega]
       simp only[List.append_assoc])
      have hLi:L[i].length≤2^20:=hfl
      generalize L[i]=ti at *
      clear HA Hml Hjm Haj Hno Hal Hfm Hz Hstep Hgd HT hfi hfl hij hzk
      go_wp2
      go_roundw
      case rel=>
       refine⟨k+m.length,T++ti++[10],by omega,?_,by go_num,QA HN,?_,QE hB1 hBx⟩
       ·exact congrArg Value.string (QZ (by simp))
       ·simp only[List.length_append,List.length_cons,List.length_nil];omega
      case measure=>simp[intOf];omega
  ·have hke:k=s.length:=by omega
   have hltI:¬(k:Int)<(s.length:Int):=by omega
   have hTF:T=FULL:=by
    have:=QA HT
    rw[hke,List.drop_length,Strd.dis_nil]at this
    rw[←this]
    simp[Strd.disText]
   clear HT Hfull hke
   subst hTF
   go_wp2
   refine bodyPost_ret (v:=.tuple #[.string (bstr T),.int .i64 0]) (by simp[results,Tryz.results36]) rfl ?_
   exact⟨rfl,by first|exact hba.trans (hbr.mono (by omega))|(rw[hg];exact hba.trans (hbr.mono (by omega)))⟩
theorem Dis_ref (org:Int) (s:Strd.Bs) (w:World) (hl:s.length≤9223372036854775807) :
  Calls Tryz.prog 36 #[.agg #[.int .i64 org,.string (bstr s)]] w fun e w'=>e=.returned (.tuple #[.string (bstr (Strd.disassemble org s).1),.int .i64 (Strd.disassemble org s).2])∧Below w.heap.size w w':=by
 unfold Strd.disassemble
 cases hM:Strd.mayBe org s with
 |true=>rw[if_pos rfl];exact Dis_ref_yes org s hM w
 |false=>rw[if_neg (by decide)];exact Dis_ref_no org s hM w hl
theorem num_b (n:Int) (w:World):Calls Tryz.prog 28 #[.int .i64 n] w fun e w'=>e=.returned (.int .i64 n)∧w'=w:=by
 go_enter Tryz.func28,Tryz.ntmps28
 go_wp2
 go_ret
 exact⟨rfl,rfl⟩
theorem Dis_yes (org:Int) (s:Strd.Bs) (hM:Strd.mayBe org s=true) (w:World) {tu:Bool} (hT:TabsX tu w) (hP:P10 w) (h11:11≤w.heap.size) :
  Calls Tryz.prog 23 #[.agg #[.int .i64 org,.string (bstr s)]] w fun e w'=>e=.returned (.tuple #[.string (bstr (Strd.disassemble org s).1),.int .i64 (Strd.disassemble org s).2])∧Below w.heap.size w w':=by
 have hba:=QF w (.cells #[.int .i64 org,.string (bstr s)] 23)
 have HS:=QB (Src_true org s hM (w.alloc (.cells #[.int .i64 org,.string (bstr s)] 23)) (hT.below hba) (hP.below hba h11) (Nat.le_trans h11 hba.size))
 have z0:=QC (QH w (.cells #[.int .i64 org,.string (bstr s)] 23)) 0
 have z1:=QC (QH w (.cells #[.int .i64 org,.string (bstr s)] 23)) 1
 simp only[gA,gZ,gS]at z0 z1
 generalize Strd.disassemble org s=D at *
 clear hT hP hM
 go_enter Tryz.func23,Tryz.ntmps23
 go_wp2_with (go_at_call 35;refine(QA HS).mono ?_;rintro e w2 ⟨rfl,hb2⟩)
 refine bodyPost_ret (v:=.tuple #[.string (bstr D.1),.int .i64 D.2]) (by simp[results,Tryz.results23]) rfl ?_
 exact⟨rfl,QE hba hb2⟩
theorem allows_place (n:Int) (w:World):Calls Tryz.prog 84 #[.int .i64 11,.int .i64 n] w fun e w'=>e=.returned (.bool (Strd.isPlace n))∧w'=w:=by
 go_enter Tryz.func84,Tryz.ntmps84
 go_wp2_with (first|(go_at_call 122;refine(isPlace_c _ _).mono ?_;rintro e w' ⟨rfl,rfl⟩))
 go_ret
 exact⟨rfl,rfl⟩
theorem mayBe_no (org:Int) (s:Strd.Bs) (w:World) (hM:Strd.mayBe org s=false) (hl:s.length≤9223372036854775807) :
  Calls Tryz.prog 48 #[.agg #[.int .i64 org,.string (bstr s)]] w fun e w'=>e=.returned (.bool false)∧Below w.heap.size w w':=by
 have HA:=QB (fun W=>allows_place org W)
 have hba:=QF w (.cells #[.int .i64 org,.string (bstr s)] 23)
 have z0:=QC (QH w (.cells #[.int .i64 org,.string (bstr s)] 23)) 0
 have z1:=QC (QH w (.cells #[.int .i64 org,.string (bstr s)] 23)) 1
 simp only[gA,gZ,gS]at z0 z1
 cases hp:Strd.isPlace org with
 |false=>
  rw[hp]at HA
  clear hM
  go_enter Tryz.func48,Tryz.ntmps48
  go_wp2_with (go_at_call 84;refine(QA HA _).mono ?_;rintro e w' ⟨rfl,rfl⟩)
  go_ret
  exact⟨rfl,hba⟩
 |true=>
  by_cases h4:s.length≤400
  ·have hpr:=Strd.place_rng hp
   have:=mayBe_c org s w (by omega) (by omega)
   rw[hM]at this
   exact this
  ·have h4I:(400:Int)<(s.length:Int):=by omega
   rw[hp]at HA
   clear hM
   go_enter Tryz.func48,Tryz.ntmps48
   go_wp2_with (go_at_call 84;refine(QA HA _).mono ?_;rintro e w' ⟨rfl,rfl⟩)
   go_ret
   exact⟨rfl,hba⟩
theorem Src_no (org:Int) (s:Strd.Bs) (w:World) (hM:Strd.mayBe org s=false) (hl:s.length≤9223372036854775807) :
  Calls Tryz.prog 35 #[.agg #[.int .i64 org,.string (bstr s)]] w fun e w'=>e=.returned (.tuple #[.string (bstr []),.int .i64 8])∧Below w.heap.size w w':=by
 have HM:=QB (fun W=>mayBe_no org s W hM hl)
 have hba:=QF w (.cells #[.int .i64 org,.string (bstr s)] 23)
 have z0:=QC (QH w (.cells #[.int .i64 org,.string (bstr s)] 23)) 0
 have z1:=QC (QH w (.cells #[.int .i64 org,.string (bstr s)] 23)) 1
 simp only[gA,gZ,gS]at z0 z1
 clear hM
 go_enter Tryz.func35,Tryz.ntmps35
 go_wp2_with (go_at_call 48;refine(QA HM _).mono ?_;rintro e w2 ⟨rfl,hb2⟩)
 refine bodyPost_ret (v:=.tuple #[.string ⟨#[]⟩,.int .i64 8]) (by simp[results,Tryz.results35]) rfl ?_
 exact⟨rfl,QE hba hb2⟩
theorem Dis_c (org:Int) (s:Strd.Bs) (w:World) (hl:s.length≤9223372036854775807) {tu:Bool} (hT:TabsX tu w) (hP:P10 w) (h11:11≤w.heap.size) :
  Calls Tryz.prog 23 #[.agg #[.int .i64 org,.string (bstr s)]] w fun e w'=>e=.returned (.tuple #[.string (bstr (Strd.disassemble org s).1),.int .i64 (Strd.disassemble org s).2])∧Below w.heap.size w w':=by
 cases hM:Strd.mayBe org s with
 |true=>exact Dis_yes org s hM w hT hP h11
 |false=>
  have hD:Strd.disassemble org s=([],8):=by unfold Strd.disassemble;rw[hM,if_neg (by decide)]
  rw[hD]
  have hba:=QF w (.cells #[.int .i64 org,.string (bstr s)] 23)
  have HS:=QB (Src_no org s (w.alloc (.cells #[.int .i64 org,.string (bstr s)] 23)) hM hl)
  have z0:=QC (QH w (.cells #[.int .i64 org,.string (bstr s)] 23)) 0
  have z1:=QC (QH w (.cells #[.int .i64 org,.string (bstr s)] 23)) 1
  simp only[gA,gZ,gS]at z0 z1
  clear hT hP hM hD
  go_enter Tryz.func23,Tryz.ntmps23
  go_wp2_with (go_at_call 35;refine(QA HS).mono ?_;rintro e w2 ⟨rfl,hb2⟩)
  refine bodyPost_ret (v:=.tuple #[.string (bstr []),.int .i64 8]) (by simp[results,Tryz.results23]) rfl ?_
  exact⟨rfl,QE hba hb2⟩
theorem back_l (org:Int) (s:Strd.Bs) (w:World) (hl:s.length≤9223372036854775807) {tu:Bool} (hT:TabsX tu w) (hP:P10 w) (h11:11≤w.heap.size) :
  Calls Tryz.prog 24 #[.agg #[.int .i64 org,.string (bstr s)]] w fun e w'=>e=.returned (.bool true)∧Below w.heap.size w w':=by
 have hba:=QF w (.cells #[.int .i64 org,.string (bstr s)] 23)
 have Hbx:=QB (QH w (.cells #[.int .i64 org,.string (bstr s)] 23))
 have z0:=QC (QA Hbx) 0
 have z1:=QC (QA Hbx) 1
 simp only[gA,gZ,gS]at z0 z1
 have C1:=QB (Dis_c org s (w.alloc (.cells #[.int .i64 org,.string (bstr s)] 23)) hl (hT.below hba) (hP.below hba h11) (Nat.le_trans h11 hba.size))
 have C2:=QB (fun V=>Dis_ref org s V hl)
 have CN:=QB (fun n V=>num_b n V)
 generalize Strd.disassemble org s=D at *
 clear hT hP
 go_enter Tryz.func24,Tryz.ntmps24
 go_upto_region 2 with (go_at_call 23;refine(QA C1).mono ?_;rintro e w2 ⟨rfl,hb2⟩)
 have Hbx2:=QB (bbox hb2 (QA Hbx))
 have hB2:=QE hba hb2
 have y0:=QC (QA Hbx2) 0
 have y1:=QC (QA Hbx2) 1
 simp only[gA,gZ,gS]at y0 y1
 clear z0 z1 C1 hba hb2 Hbx
 go_wp2_with (first|(go_at_call 36;refine(QA C2 _).mono ?_;rintro e w3 ⟨rfl,hb3⟩)|(go_at_call 28;refine(QA CN _ _).mono ?_;rintro e w4 ⟨rfl,hw4⟩;have hw4':=hw4.symm;subst hw4'))
 go_ret
 exact⟨by simp,QE hB2 hb3⟩
end Go.Proofs.YtegiloiojloaoaaGreatDoor
