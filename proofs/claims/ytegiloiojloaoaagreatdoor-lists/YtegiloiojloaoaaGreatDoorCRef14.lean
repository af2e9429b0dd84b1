/- The reference's Read. -/
import Derived.Test.YtegiloiojloaoaaGreatDoorCSpec
import Derived.Test.YtegiloiojloaoaaGreatDoorCRef11
import Derived.Deep.QuietTactic
import Derived.BigQuiet
set_option linter.unusedVariables false
set_option linter.unusedSimpArgs false
set_option maxHeartbeats 8000000
set_option maxRecDepth 1000000
namespace Go.Proofs.YtegiloiojloaoaaGreatDoor
open Go.RowKit Go.Shelf Go.Sort Go.Maps
theorem Read_ref (s:Strd.Bs) (no:Int) (w:World) (hl:s.length≤2^20):Calls Tryz.prog 72 #[.string (bstr s),.int .i64 no] w fun e w'=>∃(l':Rf.Line) (p:Option Addr) (n c:Nat),e=.returned (.tuple #[.agg (Rf.lineCells l' p n c),.bool (Rf.read s no).isSome])∧(∀l,Rf.read s no=some l→l'=l∧Rf.LineAt w' p n c l)∧Below w.heap.size w w':=by
 generalize hR:Rf.read s no=R
 unfold Rf.read at hR
 have CF1:=QB (fun W=>find_r s 59 W (by omega))
 have hu:(Rf.upTo 59 s).length≤s.length:=by
  unfold Rf.upTo
  split
  ·rw[List.length_take];omega
  ·exact Nat.le_refl _
 have hUdef:Rf.upTo 59 s=if 0≤Rf.find s 59 then s.take (Rf.find s 59).toNat else s:=rfl
 generalize Rf.upTo 59 s=U at *
 have hfs:=Rf.find_spec s 59
 have hfl:Rf.find s 59<(s.length:Int):=by
  rcases hfs with ⟨h,_⟩|⟨a,b,rfl,_,h⟩
  ·omega
  ·rw[h];simp;omega
 clear hfs
 have hxt:=ext_to s (Rf.find s 59).toNat
 generalize Rf.find s 59=k1 at *
 have HU:=QB hUdef
 have HR:=QB hR
 have hbw:Below w.heap.size w ((w.alloc (.cells Rf.zLine 144)).alloc (.cells Rf.zLine 144)):=QE (QF _ _) (QF _ _)
 have Hx6:=QB (QH (w.alloc (.cells Rf.zLine 144)) (.cells Rf.zLine 144))
 have Hx4:=QB (bbox (QF (w.alloc (.cells Rf.zLine 144)) (.cells Rf.zLine 144)) (QH w (.cells Rf.zLine 144)))
 rw[World.size_alloc]at Hx6
 clear hUdef hR
 go_enter Tryz.func72,Tryz.ntmps72
 go_upto_if 26 with (first
  |(refine wpList_store_row rfl 144 (.tmp 6) (.tmp 22) (by rfl) (w.heap.size+1) #[.int .i64 no,.string ⟨#[]⟩,.string ⟨#[]⟩,.int .i64 0,.slice none 0 0] (by rfl) (by rfl) 144 Rf.zLine (by exact QA Hx6) (by kernel_rfl) rfl (Rf.line_one _ _ _ _ _ _ _) ?_)
  |(go_at_call 106;refine(QA CF1 _).mono ?_;rintro e w1 ⟨rfl,hw1⟩;have hw1':=hw1.symm;subst hw1'))
 go_cut [0] (fun c0 wc=>c0=.string (bstr U)∧wc.heap[w.heap.size]? = some (.cells Rf.zLine 144 (0,0))∧wc.heap[w.heap.size+1]? = some (.cells #[.int .i64 no,.string ⟨#[]⟩,.string ⟨#[]⟩,.int .i64 0,.slice none 0 0] 144 (0,0))∧Below w.heap.size w wc)
 case first=>
  as_aux_lemma=>
   have Hw6:=QB (ZJ (cs:=#[.int .i64 no,.string ⟨#[]⟩,.string ⟨#[]⟩,.int .i64 0,.slice none 0 0]) (QA Hx6))
   have Hw4:Hid ((((w.alloc (.cells Rf.zLine 144)).alloc (.cells Rf.zLine 144)).setRow (w.heap.size+1) #[.int .i64 no,.string ⟨#[]⟩,.string ⟨#[]⟩,.int .i64 0,.slice none 0 0]).heap[w.heap.size]? = some (.cells Rf.zLine 144 (0,0))):=QB (by rw[setRow_other _ _ _ _ (by omega)];exact QA Hx4)
   have Hwb:=QB (QT hbw (g:=w.heap.size+1) (by omega) #[.int .i64 no,.string ⟨#[]⟩,.string ⟨#[]⟩,.int .i64 0,.slice none 0 0])
   by_cases hk:0≤k1
   ·have He:=QB ((QA HU).trans (if_pos hk))
    have hkl:k1≤(s.length:Int):=by omega
    clear HU HR
    go_wp2
    go_meet
    exact⟨by rw[QA He] <;> first|rfl|exact congrArg Value.string hxt|simp,QA Hw4,QA Hw6,QA Hwb⟩
   ·have He:=QB ((QA HU).trans (if_neg hk))
    clear HU HR
    go_wp2
    go_meet
    exact⟨by rw[QA He],QA Hw4,QA Hw6,QA Hwb⟩
 case rest=>
  obtain⟨rfl,hx4,hx6,hB⟩:=hcut
  clear Hx4 Hx6 hbw HU CF1 hxt hfl
  have htl:=Rf.trim_lenR U
  have CT1:=QB (fun W=>trim_r U W (by omega))
  generalize Strd.trim U=V at *
  have CF2:=QB (fun W=>find_r V 58 W (by omega))
  have Hx4:=QB hx4
  have Hx6:=QB hx6
  have hbs:=QD hx6
  clear hx4 hx6
  have hfs:=Rf.find_spec V 58
  have hR2:=QA HR
  unfold Rf.readT at hR2
  have hfl:Rf.find V 58<(V.length:Int):=by
   rcases hfs with ⟨h,_⟩|⟨a,b,rfl,_,h⟩
   ·omega
   ·rw[h];simp;omega
  clear hfs HR
  have hxt:=ext_to V (Rf.find V 58).toNat
  have hxf:=ext_from V ((Rf.find V 58).toNat+1)
  have CN:=QB (fun W=>IsName_ref (V.take (Rf.find V 58).toNat) W (by rw[List.length_take];omega))
  have htl2:=Rf.trim_lenR (V.drop ((Rf.find V 58).toNat+1))
  rw[List.length_drop]at htl2
  have CT2:=QB (fun W=>trim_r (V.drop ((Rf.find V 58).toNat+1)) W (by rw[List.length_drop];omega))
  have hLl:(V.take (Rf.find V 58).toNat).length≤V.length:=by rw[List.length_take];omega
  generalize Strd.trim (V.drop ((Rf.find V 58).toNat+1))=V2 at *
  generalize hLdef:V.take (Rf.find V 58).toNat=LB at *
  have HLdef:=QB hLdef
  generalize hVd:V.drop ((Rf.find V 58).toNat+1)=VD at *
  have HVd:=QB hVd
  generalize Rf.find V 58=k2 at *
  have HR:=QB hR2
  clear hR2 hLdef hVd
  go_upto_if 35 with (first
   |(go_at_call 107;refine(QA CT1 _).mono ?_;rintro e w1 ⟨rfl,hw1⟩;have hw1':=hw1.symm;subst hw1')
   |(go_at_call 106;refine(QA CF2 _).mono ?_;rintro e w1 ⟨rfl,hw1⟩;have hw1':=hw1.symm;subst hw1'))
  clear CT1 CF2
  by_cases hbad:0≤k2∧Strd.ZT LB=false
  ·
   as_aux_lemma=>
    have HF:Hid (R=none):=QB (by rw[←QA HR,if_pos hbad.1,if_neg (by rw[hbad.2];decide)])
    have hk0:=hbad.1
    have hkl:k2≤(V.length:Int):=by omega
    have hw1:IntKind.i64.wrap (k2+1)=k2+1:=IntWalk.i64_in _ (by omega)
    have hw2:(k2+1).toNat=k2.toNat+1:=by omega
    have hw3:k2+1≤(V.length:Int):=by omega
    have hw4:(0:Int)≤k2+1:=by omega
    rw[hbad.2]at CN
    have c1:=QC (QA Hx6) 1
    have f1:=ZC (QA Hx6) 1
    simp only[gA,gZ,gS]at c1
    have Hy6:=QB (Rf.box_set (i:=1) (x:=.string (bstr LB)) (QA Hx6))
    have Hy4:=QB (Rf.box_other (g:=w.heap.size+1) (i:=1) (x:=.string (bstr LB)) (QA Hx4) (by omega))
    have HyB:=QB (hB.setCell (p:=⟨w.heap.size+1,1,none⟩) (by show w.heap.size≤w.heap.size+1;omega) (.string (bstr LB)))
    clear hbad HR
    go_wp2_with (first
     |(go_at_call 107;refine(QA CT2 _).mono ?_;rintro e w1 ⟨rfl,hw1⟩;have hw1':=hw1.symm;subst hw1')
     |(go_at_call 108;refine(QA CN _).mono ?_;rintro e w1 ⟨rfl,hw1⟩;have hw1':=hw1.symm;subst hw1')
     |(refine wpList_load_row rfl 144 _ rfl (w.heap.size+1) rfl 144 _ (0,0) _ (by exact QA Hy6) Tryz.underlying144 rfl (by kernel_rfl) ?_)
     |(refine wpList_store_row rfl 144 (.tmp 4) (.tmp 50) (by rfl) w.heap.size #[.int .i64 no,.string (bstr LB),.string ⟨#[]⟩,.int .i64 0,.slice none 0 0] (by rfl) (by rfl) 144 Rf.zLine (by exact QA Hy4) (by kernel_rfl) rfl (Rf.line_one _ _ _ _ _ _ _) ?_))
    refine bodyPost_ret (v:=.tuple #[.agg #[.int .i64 no,.string (bstr LB),.string ⟨#[]⟩,.int .i64 0,.slice none 0 0],.bool false]) (by exact QP Tryz.results72 _ _ w.heap.size 144 _ _ _ rfl (by exact ZJ (QA Hy4)) Tryz.underlying144 rfl (by kernel_rfl)) rfl ?_
    exact⟨⟨no,LB,[],0,[]⟩,none,0,0,by rw[QA HF];rfl,fun l h=>(by rw[QA HF]at h;cases h),QT (QA HyB) (Nat.le_refl _) _⟩
  ·obtain⟨lab,s2,hR3,hcase,hlab,hs2⟩:∃lab s2,Rf.body no lab s2=R∧((0≤k2∧Strd.ZT LB=true∧lab=LB∧s2=V2)∨(¬0≤k2∧lab=[]∧s2=V))∧lab.length≤2^20∧s2.length≤2^20:=by
    by_cases h:0≤k2
    ·have hn:Strd.ZT LB=true:=by
      cases e:Strd.ZT LB with
      |true=>rfl
      |false=>exact(hbad ⟨h,e⟩).elim
     exact⟨LB,V2,by rw[←QA HR,if_pos h,if_pos hn],.inl ⟨h,hn,rfl,rfl⟩,by omega,by omega⟩
    ·exact⟨[],V,by rw[←QA HR,if_neg h],.inr ⟨h,rfl,rfl⟩,by simp,by omega⟩
   have HR3:=QB hR3
   clear hR3 hbad HR
   go_cut [0] (fun c0 wc=>c0=.string (bstr s2)∧wc.heap[w.heap.size]? = some (.cells Rf.zLine 144 (0,0))∧wc.heap[w.heap.size+1]? = some (.cells #[.int .i64 no,.string (bstr lab),.string ⟨#[]⟩,.int .i64 0,.slice none 0 0] 144 (0,0))∧Below w.heap.size w wc)
   case first=>
    as_aux_lemma=>
     clear HR3
     rcases hcase with ⟨hk0,hn,rfl,rfl⟩|⟨hk0,rfl,rfl⟩
     ·have hkl:k2≤(V.length:Int):=by omega
      have hw1:IntKind.i64.wrap (k2+1)=k2+1:=IntWalk.i64_in _ (by omega)
      have hw2:(k2+1).toNat=k2.toNat+1:=by omega
      have hw3:k2+1≤(V.length:Int):=by omega
      have hw4:(0:Int)≤k2+1:=by omega
      rw[hn]at CN
      have c1:=QC (QA Hx6) 1
      have f1:=ZC (QA Hx6) 1
      simp only[gA,gZ,gS]at c1
      have Hy6:=QB (Rf.box_set (i:=1) (x:=.string (bstr lab)) (QA Hx6))
      have Hy4:=QB (Rf.box_other (g:=w.heap.size+1) (i:=1) (x:=.string (bstr lab)) (QA Hx4) (by omega))
      have HyB:=QB (hB.setCell (p:=⟨w.heap.size+1,1,none⟩) (by show w.heap.size≤w.heap.size+1;omega) (.string (bstr lab)))
      clear hn
      go_wp2_with (first
       |(go_at_call 107;refine(QA CT2 _).mono ?_;rintro e w1 ⟨rfl,hw1⟩;have hw1':=hw1.symm;subst hw1')
       |(go_at_call 108;refine(QA CN _).mono ?_;rintro e w1 ⟨rfl,hw1⟩;have hw1':=hw1.symm;subst hw1'))
      go_meet
      exact⟨rfl,QA Hy4,QA Hy6,QA HyB⟩
     ·go_wp2
      go_meet
      exact⟨rfl,QA Hx4,QA Hx6,hB⟩
   case rest=>
    obtain⟨rfl,hx4,hx6,hB1⟩:=hcut
    clear hcase CN CT2 hxt hxf HLdef HVd hB Hx4 Hx6
    have Hx4:=QB hx4
    have Hx6:=QB hx6
    have hbs1:=QD hx6
    clear hx4 hx6
    by_cases h20:s2=[]
    ·
     as_aux_lemma=>
      subst h20
      have HF:Hid (R=some ⟨no,lab,[],0,[]⟩):=QB (by rw[←QA HR3];rfl)
      clear HR3
      go_wp2_with (first
       |(refine wpList_load_row rfl 144 _ rfl (w.heap.size+1) rfl 144 _ (0,0) _ (by exact QA Hx6) Tryz.underlying144 rfl (by kernel_rfl) ?_)
       |(refine wpList_store_row rfl 144 (.tmp 4) (.tmp 53) (by rfl) w.heap.size #[.int .i64 no,.string (bstr lab),.string ⟨#[]⟩,.int .i64 0,.slice none 0 0] (by rfl) (by rfl) 144 Rf.zLine (by exact QA Hx4) (by kernel_rfl) rfl (Rf.line_one _ _ _ _ _ _ _) ?_))
      refine bodyPost_ret (v:=.tuple #[.agg #[.int .i64 no,.string (bstr lab),.string ⟨#[]⟩,.int .i64 0,.slice none 0 0],.bool true]) (by exact QP Tryz.results72 _ _ w.heap.size 144 _ _ _ rfl (by exact ZJ (QA Hx4)) Tryz.underlying144 rfl (by kernel_rfl)) rfl ?_
      exact⟨⟨no,lab,[],0,[]⟩,none,0,0,by rw[QA HF];rfl,fun l h=>(by rw[QA HF]at h;cases h;exact⟨rfl,rfl,World.ownsRow_nil _ _ _ _⟩),QT hB1 (Nat.le_refl _) _⟩
    ·have b52:(s2==[])=false:=by rw[list_beq];simp[h20]
     have hR4:=QA HR3
     unfold Rf.body at hR4
     rw[if_neg h20]at hR4
     obtain⟨wf1,wf2,wf3⟩:=Rf.word_fact s2
     have Hwf1:=QB wf1
     have Hwf3:=QB wf3
     have hrl:=Rf.trim_lenR (s2.drop (Rf.wordLen s2))
     rw[List.length_drop]at hrl
     have hwl:(s2.take (Rf.wordLen s2)).length≤s2.length:=by rw[List.length_take];omega
     have CT3:=QB (fun W=>trim_r (s2.drop (Rf.wordLen s2)) W (by rw[List.length_drop];omega))
     have hxt:=ext_to s2 (Rf.wordLen s2)
     have hxf:=ext_from s2 (Rf.wordLen s2)
     generalize Strd.trim (s2.drop (Rf.wordLen s2))=rest at *
     generalize s2.take (Rf.wordLen s2)=wd at *
     generalize s2.drop (Rf.wordLen s2)=sd at *
     generalize Rf.wordLen s2=wl at *
     have HR4:=QB hR4
     clear hR4 HR3 wf1 wf3 h20
     go_wp2
     go_loopw [7] (fun c7 wr=>∃k:Nat,k≤wl∧c7=.int .i64 k∧wr=wc) (fun c _=>wl-(intOf c).toNat)
     case atStart=>exact⟨0,by omega,rfl,rfl⟩
     case round=>
      obtain⟨k,hk,rfl,hwr⟩:=hrel
      have hwr':=hwr.symm
      subst hwr'
      go_upto_region 16 with fail
      go_cut [69] (fun c69 wq=>c69=.bool (decide (k<wl))∧wq=wc)
      case first=>
       as_aux_lemma=>
        clear HR4 CT3 hxt hxf
        by_cases hlt:k<wl
        ·obtain⟨c,hc,hcb⟩:=QA Hwf1 k hlt
         have e0:=Rf.ZQ hc
         have hkI:(k:Int)<(s2.length:Int):=by omega
         unfold Strd.blank at hcb
         have d1:((c.toNat:Int)==32)=false:=Rf.beq_u8 c 32 (by rintro rfl;exact absurd hcb (by decide))
         have d2:((c.toNat:Int)==9)=false:=Rf.beq_u8 c 9 (by rintro rfl;exact absurd hcb (by decide))
         have c1:((c.toNat:Int) != 32)=true:=by rw[bne,d1];rfl
         have c2:((c.toNat:Int) != 9)=true:=by rw[bne,d2];rfl
         have HD:Hid (decide (k<wl)=true):=QB (by simp[hlt])
         clear hc hcb d1 d2
         go_wp2
         go_meet
         exact⟨by rw[QA HD],rfl⟩
        ·obtain rfl:k=wl:=by omega
         have HD:Hid (decide (k<k)=false):=QB (by simp)
         by_cases hkl:k<s2.length
         ·have g0:s2[k]? = some s2[k]:=gE hkl
          have hcb:=QA Hwf3 _ g0
          have e0:=Rf.ZQ g0
          generalize s2[k]=c at *
          have hkI:(k:Int)<(s2.length:Int):=by omega
          have hcc:c=32∨c=9:=by unfold Strd.blank at hcb;simpa using hcb
          clear g0 hcb
          rcases hcc with rfl|rfl
          ·go_wp2
           go_meet
           exact⟨by rw[QA HD],rfl⟩
          ·go_wp2
           go_meet
           exact⟨by rw[QA HD],rfl⟩
         ·have hkI:¬(k:Int)<(s2.length:Int):=by omega
          go_wp2
          go_meet
          exact⟨by rw[QA HD],rfl⟩
      case rest=>
       obtain⟨rfl,hwq⟩:=hcut
       have hwq':=hwq.symm
       subst hwq'
       by_cases hlt:k<wl
       ·
        as_aux_lemma=>
         have hD:decide (k<wl)=true:=by simp[hlt]
         rw[hD]
         have hw1:IntKind.i64.wrap ((k:Int)+1)=(k:Int)+1:=IntWalk.i64_in _ (by omega)
         clear HR4 CT3 hxt hxf Hwf1 Hwf3 hD
         go_wp2
         go_roundw
         case rel=>exact⟨k+1,by omega,by go_num,trivial⟩
         case measure=>simp[intOf];omega
       ·have hD:decide (k<wl)=false:=by simp[hlt]
        rw[hD]
        obtain rfl:k=wl:=by omega
        clear hD hlt Hwf1 Hwf3
        have hkl:(k:Int)≤(s2.length:Int):=by omega
        have c1:=QC (QA Hx6) 2
        have f1:=ZC (QA Hx6) 2
        simp only[gA,gZ,gS]at c1
        have Hy6:=QB (Rf.box_set (i:=2) (x:=.string (bstr wd)) (QA Hx6))
        have Hy4:=QB (Rf.box_other (g:=w.heap.size+1) (i:=2) (x:=.string (bstr wd)) (QA Hx4) (by omega))
        have HyB:=QB (hB1.setCell (p:=⟨w.heap.size+1,2,none⟩) (by show w.heap.size≤w.heap.size+1;omega) (.string (bstr wd)))
        go_upto_if 81 with (go_at_call 107;refine(QA CT3 _).mono ?_;rintro e w1 ⟨rfl,hw1⟩;have hw1':=hw1.symm;subst hw1')
        clear CT3 hxt hxf c1 f1
        go_cut [] (fun wq=>∃(p:Option Addr) (c:Nat),wq.heap[w.heap.size+1]? = some (.cells #[.int .i64 no,.string (bstr lab),.string (bstr wd),.int .i64 0,.slice p (Rf.textsOf rest).length c] 144 (0,0))∧ZR w.heap.size wq (.slice p (Rf.textsOf rest).length c) (Rf.textsOf rest)∧wq.heap[w.heap.size]? = some (.cells Rf.zLine 144 (0,0))∧Below w.heap.size w wq)
        case first=>
         as_aux_lemma=>
          clear HR4
          by_cases hr0:rest=[]
          ·subst hr0
           go_wp2
           go_meet
           exact⟨none,0,QA Hy6,World.ownsRow_nil _ _ _ _,QA Hy4,QA HyB⟩
          ·have hb0:(!List.isEmpty rest)=true:=by cases rest with|nil=>exact(hr0 rfl).elim|cons x y=>rfl
           have hb1:List.isEmpty rest=false:=by cases rest with|nil=>exact(hr0 rfl).elim|cons x y=>rfl
           have hT:Rf.textsOf rest=(Strd.split 44 rest).map Strd.trim:=by unfold Rf.textsOf;rw[if_neg hr0]
           have CS:=QB (fun W=>split_ref rest 44 W (by omega))
           have hsl:=Rf.split_lens 44 rest
           have hsn:=(split_len 44 rest).1
           rw[hb0]
           clear hb0 hb1
           have HT:=QB hT
           clear hT hr0
           generalize Strd.split 44 rest=parts at *
           have Hsl:=QB hsl
           clear hsl
           obtain⟨i0,hi,hz0,hz1,hz2⟩:=info_parts Tryz.info9
           generalize wc.setCell ⟨w.heap.size+1,2,none⟩ (.string (bstr wd))=W1 at *
           go_wp2_with (go_at_call 71;refine(QA CS _).mono ?_;rintro e ws ⟨v1,rfl,hv1,hb1⟩;obtain⟨p1,cap1,rfl⟩:=Rf.strs_shape hv1;have Hv1:=QB hv1;have Hz6:=QB (bbox hb1 (QA Hy6));have Hz4:=QB (bbox hb1 (QA Hy4));have HzB:=QB (QE (QA HyB) hb1);clear hv1)
           go_loopw [11] (fun c11 wr=>∃(i:Nat) (p:Option Addr) (c:Nat),i≤parts.length∧c11=.int .i64 i∧wr.heap[w.heap.size+1]? = some (.cells #[.int .i64 no,.string (bstr lab),.string (bstr wd),.int .i64 0,.slice p i c] 144 (0,0))∧ZR ws.heap.size wr (.slice p i c) ((parts.map Strd.trim).take i)∧(∀k,k<ws.heap.size→k≠w.heap.size+1→wr.heap[k]? = ws.heap[k]?)∧Below w.heap.size w wr∧ws.heap.size≤wr.heap.size) (fun c _=>parts.length-(intOf c).toNat)
           case atStart=>exact⟨0,none,0,by omega,rfl,QA Hz6,World.ownsRow_nil _ _ _ _,fun k _ _=>rfl,QA HzB,Nat.le_refl _⟩
           case round=>
            obtain⟨i,p,c,hi1,rfl,hb6,hrow,hsame,hBr,hsz⟩:=hrel
            have hw6:=QD (QA Hz6)
            by_cases hlt:i<parts.length
            ·obtain⟨gp,rfl,_,hgl,hgc⟩:=(QA Hv1).at i hlt
             have hgne:gp≠w.heap.size+1:=by
              intro e
              have h1:=QA Hv1
              rcases h1.2 with ⟨h0,_⟩|⟨g,cap,cur,hv,_,hh,_⟩
              ·cases h0
              ·cases hv
               rw[e,QA Hz6]at hh
               cases hh
             have hgc':wr.cell? ⟨gp,i,none⟩=some (.string (bstr parts[i])):=by
              rw[World.cell?_of_block (w:=ws) (a:=⟨gp,i,none⟩) (hsame gp hgl hgne)];exact hgc
             have hpl:=QA Hsl _ (List.getElem_mem hlt)
             have CT:=QB (fun W=>trim_r parts[i] W (by omega))
             have htk:(parts.map Strd.trim).take (i+1)=(parts.map Strd.trim).take i++[Strd.trim parts[i]]:=by
              rw[List.take_add_one,List.getElem?_map,gE hlt];rfl
             have Htk:=QB htk
             have htl1:((parts.map Strd.trim).take i).length=i:=by rw[List.length_take,List.length_map];omega
             generalize parts[i]=pt at *
             generalize Strd.trim pt=tt at *
             generalize hDn:(parts.map Strd.trim).take i=dn at *
             have hltI:(i:Int)<(parts.length:Int):=by omega
             have hw1:IntKind.i64.wrap ((i:Int)+1)=(i:Int)+1:=IntWalk.i64_in _ (by omega)
             have hgl2:gp<wr.heap.size:=by omega
             have c4:=QC hb6 4
             have f4:=ZC hb6 4
             simp only[gA,gZ,gS]at c4
             have hb6l:=QD hb6
             have Hb6:=QB hb6
             have Hsame:=QB hsame
             have Hrow:=QB hrow
             clear htk hDn hgc hsame hrow hb6
             have hba:=QF wr (.cells #[.string (bstr tt)] 9)
             have c4a:=(hba.cell (p:=⟨w.heap.size+1,4,none⟩) hb6l).trans c4
             go_wp2_with (first
              |(go_at_call 107;refine(QA CT _).mono ?_;rintro e w1 ⟨rfl,hw1⟩;have hw1':=hw1.symm;subst hw1')
              |(at_builtin;refine wpList_append_own _ rfl _ _ 38 rfl ws.heap.size 9 i0 (.string ⟨#[]⟩) 1 16 Tryz.underlying38 hi hz0 hz1 hz2 rfl (by decide) _ _ _ rfl ((QA Hrow).alloc _) ⟨wr.heap.size,0,none⟩ 1 1 [.string (bstr tt)] rfl rfl (cell_one_new _ _ _) (strs_one [tt]) (by unfold maxLen;omega) (by omega) (by rw[World.size_alloc];omega) ?_;intro v2 w2 hown hgrow _;obtain⟨p2,cap2,rfl⟩:=Rf.row_shape hown;have hg6:w2.heap[w.heap.size+1]? = some (.cells #[.int .i64 no,.string (bstr lab),.string (bstr wd),.int .i64 0,.slice p i c] 144 (0,0)):=(by rw[hgrow.block _ (by rw[World.size_alloc];omega) (by intro e;have:=((QA Hrow).lt _ e.symm).1;omega)];exact bbox hba (QA Hb6));have c4b:=QC hg6 4;have f4b:=ZC hg6 4;simp only[gA,gZ,gS]at c4b;have hg6l:=QD hg6;have Hg6:=QB hg6;have Hgrow:=QB hgrow;have Hown:=QB hown;clear hg6 hgrow hown))
             go_roundw
             case rel=>
              have hown:=QA Hown
              have hgrow:=QA Hgrow
              have hds:∀cur,¬Tag 144 (.cells cur 9 (0,0)):=fun cur h=>by obtain⟨_,_,h⟩:=h;cases h
              refine⟨i+1,p2,cap2,by omega,by go_num,Rf.box_set (QA Hg6),?_,?_,?_,?_⟩
              ·rw[QA Htk]
               show World.ownsRow _ _ _ _ _ _ _
               have e2:(dn++[tt]).length=dn.length+1:=by simp
               rw[e2,List.map_append]
               rw[htl1]at hown ⊢
               exact Rf.own_set hown (QA Hg6) (by decide)
              ·intro k hk hne
               rw[Below.heap_setCell _ _ _ _ hne,hgrow.block _ (by rw[World.size_alloc];omega) (by intro e;have:=((QA Hrow).lt _ e.symm).1;omega),Below.heap_alloc _ _ _ (by omega)]
               exact QA Hsame k hk hne
              ·exact((Below.grown (hBr.alloc (by have:=hBr.size;omega) _) hgrow (by rw[World.size_alloc];have:=hBr.size;omega) (fun k e=>by have:=((QA Hrow).lt _ e).1;have:=(QA HzB).size;omega)).setCell (p:=⟨w.heap.size+1,4,none⟩) (by show w.heap.size≤w.heap.size+1;omega) _)
              ·rw[Rf.ZF]
               have:=hgrow.size
               rw[World.size_alloc]at this
               omega
             case measure=>simp[intOf];omega
            ·obtain rfl:i=parts.length:=by omega
             have htl1:(parts.map Strd.trim).take parts.length=parts.map Strd.trim:=List.take_of_length_le (by simp)
             rw[htl1]at hrow
             have Hrow:=QB hrow
             have Hb6:=QB hb6
             have c4:=QC hb6 4
             have h4w:wr.heap[w.heap.size]? = some (.cells Rf.zLine 144 (0,0)):=by
              rw[hsame _ (by omega) (by omega)];exact QA Hz4
             have H4w:=QB h4w
             clear hrow hb6 hsame h4w htl1 hlt
             go_wp2
             go_meet
             rw[QA HT,List.length_map]
             exact⟨p,c,QA Hb6,Rf.row_base (QA Hrow) (by have:=(QA HzB).size;omega),QA H4w,hBr⟩
        case rest=>
         obtain⟨p,c,hz6,hrow,hz4,hBz⟩:=hcut
         clear Hx6 Hx4 Hy6 Hy4 HyB hB1 hbs1
         have Hz6:=QB hz6
         have Hz4:=QB hz4
         have Hrow:=QB hrow
         have hbz:=QD hz6
         clear hz6 hz4 hrow
         have hTl0:∀t∈Rf.textsOf rest,t.length≤2^20:=by
          intro t ht
          unfold Rf.textsOf at ht
          split at ht
          ·cases ht
          ·obtain⟨q,hq,rfl⟩:=List.mem_map.1 ht
           have h1:=Rf.trim_lenR q
           have h2:=Rf.split_lens 44 rest q hq
           omega
         have hTn:(Rf.textsOf rest).length≤rest.length+1:=by
          unfold Rf.textsOf
          split
          ·simp
          ·rw[List.length_map];exact(split_len 44 rest).1
         have HTl:=QB hTl0
         clear hTl0
         generalize Rf.textsOf rest=T at *
         have x2:=QC (QA Hz6) 2
         have x4:=QC (QA Hz6) 4
         simp only[gA,gZ,gS]at x2 x4
         have hwdl:wd.length≤2^20:=by omega
         go_upto_region 28 with fail
         go_cut [113] (fun c113 wq'=>c113=.bool (decide (2<wd.length∧wd.getD (wd.length-2) 0=46))∧wq'=wc)
         case first=>
          as_aux_lemma=>
           clear HR4
           by_cases hg:2<wd.length
           ·have hgI:(2:Int)<(wd.length:Int):=by omega
            have hw1:IntKind.i64.wrap ((wd.length:Int)-2)=(wd.length:Int)-2:=IntWalk.i64_in _ (by omega)
            have hw2:((wd.length:Int)-2).toNat=wd.length-2:=by omega
            have hw3:(wd.length:Int)-2<(wd.length:Int):=by omega
            have hw4:(0:Int)≤(wd.length:Int)-2:=by omega
            have g0:wd[wd.length-2]? = some (wd.getD (wd.length-2) 0):=by rw[gD,gE (by omega)];rfl
            have e0:=Rf.ZQ g0
            generalize wd.getD (wd.length-2) 0=ch at *
            have HD:Hid (decide (2<wd.length∧ch=46)=((ch.toNat:Int)==46)):=QB (by
             rw[Bool.eq_iff_iff]
             simp only[decide_eq_true_eq,beq_iff_eq]
             constructor
             ·rintro ⟨_,rfl⟩;rfl
             ·intro h;exact⟨hg,UInt8.toNat_inj.1 (by show ch.toNat=46;omega)⟩)
            clear g0
            go_wp2
            go_meet
            exact⟨by rw[QA HD],rfl⟩
           ·have hgI:¬(2:Int)<(wd.length:Int):=by omega
            have HD:Hid (decide (2<wd.length∧wd.getD (wd.length-2) 0=46)=false):=QB (by simp;intro h;omega)
            go_wp2
            go_meet
            exact⟨by rw[QA HD],rfl⟩
         case rest=>
          obtain⟨rfl,hwq⟩:=hcut
          have hwq':=hwq.symm
          subst hwq'
          obtain⟨cw,cf,hcw⟩:∃cw cf,Rf.cutF wd=(cw,cf):=⟨_,_,rfl⟩
          have hR4b:=QA HR4
          rw[hcw]at hR4b
          have hcfl:=(Rf.cutF_form wd).2.2.2.2
          rw[hcw]at hcfl
          have Hcw:=QB hcw
          have hcfl2:cw.length≤wd.length:=hcfl
          have HR4b:Hid (Rf.ending no lab cw cf T=R):=QB hR4b
          clear hcw hR4b HR4 hcfl
          go_upto_if 113 with fail
          go_cut [] (fun wq=>wq.heap[w.heap.size+1]? = some (.cells #[.int .i64 no,.string (bstr lab),.string (bstr cw),.int .i64 cf,.slice p T.length c] 144 (0,0))∧ZR w.heap.size wq (.slice p T.length c) T∧wq.heap[w.heap.size]? = some (.cells Rf.zLine 144 (0,0))∧Below w.heap.size w wq)
          case first=>
           as_aux_lemma=>
            clear HR4b
            by_cases hcd:2<wd.length∧wd.getD (wd.length-2) 0=46
            ·have hcut:=(QA Hcw).symm.trans (Rf.cutF_pos wd hcd)
             clear Hcw
             have hD:decide (2<wd.length∧wd.getD (wd.length-2) 0=46)=true:=by simp only[hcd,and_self,decide_true]
             rw[hD]
             clear hD
             have h2:=hcd.1
             have hw1:IntKind.i64.wrap ((wd.length:Int)-2)=(wd.length:Int)-2:=IntWalk.i64_in _ (by omega)
             have hw2:((wd.length:Int)-2).toNat=wd.length-2:=by omega
             have hw3:(wd.length:Int)-2≤(wd.length:Int):=by omega
             have hw4:(0:Int)≤(wd.length:Int)-2:=by omega
             have hw5:IntKind.i64.wrap ((wd.length:Int)-1)=(wd.length:Int)-1:=IntWalk.i64_in _ (by omega)
             have hw6:((wd.length:Int)-1).toNat=wd.length-1:=by omega
             have hw7:(wd.length:Int)-1<(wd.length:Int):=by omega
             have hw8:(0:Int)≤(wd.length:Int)-1:=by omega
             have g0:wd[wd.length-1]? = some (wd.getD (wd.length-1) 0):=by rw[gD,gE (by omega)];rfl
             have e0:=Rf.ZQ g0
             have hxs:=ext_to wd (wd.length-2)
             have hstl:(wd.take (wd.length-2)).length≤2^40:=by rw[List.length_take];omega
             have CC:=QB (fun W=>condition_ref (wd.take (wd.length-2)) W hstl)
             generalize wd.getD (wd.length-1) 0=ch at *
             have CF:=QB (fun W=>find_r [115,119,108] ch W (by decide))
             have hfw:=Rf.find_swl_le ch
             have hfw2:-1≤Rf.find [115,119,108] ch:=by
              rcases Rf.find_spec [115,119,108] ch with ⟨h,_⟩|⟨a,b,_,_,h⟩ <;> omega
             generalize Rf.find [115,119,108] ch=ff at *
             generalize wd.take (wd.length-2)=stem at *
             generalize hFR:Rf.far stem=FR at *
             have HFR:=QB hFR
             generalize Rf.condition stem=cc at *
             have HCut:=QB hcut
             clear hcut hcd g0 hFR
             go_upto_region 31 with (first
              |(go_at_call 106;refine(QA CF _).mono ?_;rintro e w1 ⟨rfl,hw1⟩;have hw1':=hw1.symm;subst hw1')
              |(go_at_call 109;refine(QA CC _).mono ?_;rintro e wd1 ⟨rfl,hbd⟩;have Hd6:=QB (bbox hbd (QA Hz6));have Hd4:=QB (bbox hbd (QA Hz4));have HdR:=QB ((QA Hrow).below hbd);have hBd:=QE hBz hbd;have d2:=QC (QA Hd6) 2;simp only[gA,gZ,gS]at d2;have hd6l:=QD (QA Hd6)))
             go_cut [16] (fun c16 wq=>c16=.bool FR∧wq=wd1)
             case first=>
              have hfr:=QA HFR
              unfold Rf.far at hfr
              clear HCut
              cases q1:(stem==[106,109,112]) with
              |true=>
               have HG:Hid (FR=true):=QB (by rw[←hfr,q1];rfl)
               clear hfr HFR
               go_wp2
               go_meet
               exact⟨by rw[QA HG],rfl⟩
              |false=>
               have HG:Hid (FR=(stem==[106,115,114])):=QB (by rw[←hfr,q1];rfl)
               clear hfr HFR
               go_wp2
               go_meet
               exact⟨by rw[QA HG],rfl⟩
             case rest=>
              obtain⟨rfl,hwq⟩:=hcut
              have hwq':=hwq.symm
              subst hwq'
              clear HFR
              have f2:=ZC (QA Hd6) 2
              have f3:=ZC (QA Hd6) 3
              have d3:=QC (QA Hd6) 3
              simp only[gA,gZ,gS]at d3
              have hwf:IntKind.i64.wrap (ff+1)=ff+1:=IntWalk.i64_in _ (by omega)
              have He6:=QB (Rf.box_set (i:=2) (x:=.string (bstr stem)) (Rf.box_set (i:=3) (x:=.int .i64 (ff+1)) (QA Hd6)))
              have He4:=QB (Rf.box_other (g:=w.heap.size+1) (i:=2) (x:=.string (bstr stem)) (Rf.box_other (g:=w.heap.size+1) (i:=3) (x:=.int .i64 (ff+1)) (QA Hd4) (by omega)) (by omega))
              have HeR:=QB (Rf.own_set (i:=2) (x:=.string (bstr stem)) (Rf.own_set (i:=3) (x:=.int .i64 (ff+1)) (QA HdR) (QA Hd6) (by decide)) (Rf.box_set (QA Hd6)) (by decide))
              have HeB:=QB ((hBd.setCell (p:=⟨w.heap.size+1,3,none⟩) (by show w.heap.size≤w.heap.size+1;omega) (.int .i64 (ff+1))).setCell (p:=⟨w.heap.size+1,2,none⟩) (by show w.heap.size≤w.heap.size+1;omega) (.string (bstr stem)))
              have k2a:(wd1.setCell ⟨w.heap.size+1,3,none⟩ (.int .i64 (ff+1))).cell? ⟨w.heap.size+1,2,none⟩=some (.string (bstr wd)):=by
               have:=QC (Rf.box_set (i:=3) (x:=.int .i64 (ff+1)) (QA Hd6)) 2
               simpa using this
              have k2f:=ZC (Rf.box_set (i:=3) (x:=.int .i64 (ff+1)) (QA Hd6)) 2
              by_cases q1:0≤ff
              ·by_cases q2:0≤cc
               ·have HG:Hid ((cw,cf)=(stem,ff+1)):=QB ((QA HCut).trans (if_pos ⟨q1,.inl q2⟩))
                clear HCut
                go_wp2
                go_meet
                rw[(Prod.mk.inj (QA HG)).1,(Prod.mk.inj (QA HG)).2]
                exact⟨QA He6,QA HeR,QA He4,QA HeB⟩
               ·cases FR with
                |true=>
                 by_cases q3:0<ff
                 ·have HG:Hid ((cw,cf)=(stem,ff+1)):=QB ((QA HCut).trans (if_pos ⟨q1,.inr ⟨rfl,q3⟩⟩))
                  clear HCut
                  go_wp2
                  go_meet
                  rw[(Prod.mk.inj (QA HG)).1,(Prod.mk.inj (QA HG)).2]
                  exact⟨QA He6,QA HeR,QA He4,QA HeB⟩
                 ·have HG:Hid ((cw,cf)=(wd,0)):=QB ((QA HCut).trans (if_neg (by rintro ⟨_,h|⟨_,h⟩⟩;exact q2 h;exact q3 h)))
                  clear HCut
                  go_wp2
                  go_meet
                  rw[(Prod.mk.inj (QA HG)).1,(Prod.mk.inj (QA HG)).2]
                  exact⟨QA Hd6,QA HdR,QA Hd4,hBd⟩
                |false=>
                 have HG:Hid ((cw,cf)=(wd,0)):=QB ((QA HCut).trans (if_neg (by rintro ⟨_,h|⟨h,_⟩⟩;exact q2 h;cases h)))
                 clear HCut
                 go_wp2
                 go_meet
                 rw[(Prod.mk.inj (QA HG)).1,(Prod.mk.inj (QA HG)).2]
                 exact⟨QA Hd6,QA HdR,QA Hd4,hBd⟩
              ·have HG:Hid ((cw,cf)=(wd,0)):=QB ((QA HCut).trans (if_neg (fun h=>q1 h.1)))
               clear HCut
               go_wp2
               go_meet
               rw[(Prod.mk.inj (QA HG)).1,(Prod.mk.inj (QA HG)).2]
               exact⟨QA Hd6,QA HdR,QA Hd4,hBd⟩
            ·have HG:=QB ((QA Hcw).symm.trans (Rf.cutF_neg wd hcd))
             clear Hcw
             have hD:decide (2<wd.length∧wd.getD (wd.length-2) 0=46)=false:=by simp only[hcd,decide_false]
             rw[hD]
             clear hD hcd
             go_wp2
             go_meet
             rw[(Prod.mk.inj (QA HG)).1,(Prod.mk.inj (QA HG)).2]
             exact⟨QA Hz6,QA Hrow,QA Hz4,hBz⟩
          case rest=>
           obtain⟨hz6,hrow,hz4,hBz1⟩:=hcut
           clear Hz6 Hz4 Hrow x2 x4 hbz hBz
           have Hz6:=QB hz6
           have Hz4:=QB hz4
           have Hrow:=QB hrow
           have hbz:=QD hz6
           clear hz6 hz4 hrow Hcw
           have hcwl:cw.length≤2^20:=by omega
           have CS:=QB (fun W=>shape_ref cw W (by omega))
           have x2:=QC (QA Hz6) 2
           simp only[gA,gZ,gS]at x2
           have hR5:=QA HR4b
           unfold Rf.ending Rf.kinds at hR5
           generalize Rf.shape cw=SH at *
           have HR5:=QB hR5
           clear hR5 HR4b
           have htl8:T.length≤2^21:=by omega
           go_upto_if 169 with (go_at_call 110;refine(QA CS _).mono ?_;rintro e we ⟨rfl,hbe⟩;have He6:=QB (bbox hbe (QA Hz6));have He4:=QB (bbox hbe (QA Hz4));have HeR:=QB ((QA Hrow).below hbe);have hBe:=QE hBz1 hbe;have y4:=QC (QA He6) 4;simp only[gA,gZ,gS]at y4;have he6l:=QD (QA He6);clear hbe)
           cases SH with
           |none=>
            as_aux_lemma=>
             have HF:Hid (R=none):=QB (by rw[←QA HR5];rfl)
             clear HR5
             go_upto_region 37 with fail
             go_cut [5] (fun c5 wq=>c5=.bool false∧wq.heap[w.heap.size]? = some (.cells #[.int .i64 no,.string (bstr lab),.string (bstr cw),.int .i64 cf,.slice p T.length c] 144 (0,0))∧Below w.heap.size w wq)
             case first=>
              go_wp2_with (first|(refine wpList_load_row rfl 144 _ rfl (w.heap.size+1) rfl 144 _ (0,0) _ (by exact QA He6) Tryz.underlying144 rfl (by kernel_rfl) ?_)|(refine wpList_store_row rfl 144 (.tmp 4) (.tmp 170) (by rfl) w.heap.size #[.int .i64 no,.string (bstr lab),.string (bstr cw),.int .i64 cf,.slice p T.length c] (by rfl) (by rfl) 144 Rf.zLine (by exact QA He4) (by kernel_rfl) rfl (Rf.line_one _ _ _ _ _ _ _) ?_))
              go_meet
              exact⟨rfl,ZJ (by exact QA He4),QT hBe (Nat.le_refl _) _⟩
             case rest=>
              obtain⟨rfl,h4,hBq⟩:=hcut
              have H4:=QB h4
              rename_i hK
              refine hK _ _ ?_
              refine wp_ret ?_
              try simp only[Exit.noGoto_ret,Exit.inBlock,Exit.then]
              first|change bodyPost Tryz.prog Tryz.f72 _ _ _ _|(simp (config:={ zetaDelta:=true }) only[Exit.noGoto_ret,Exit.inBlock,Exit.then])
              refine bodyPost_ret (v:=.tuple #[.agg #[.int .i64 no,.string (bstr lab),.string (bstr cw),.int .i64 cf,.slice p T.length c],.bool false]) (by exact QP Tryz.results72 _ _ w.heap.size 144 _ _ _ rfl (by exact(QA H4)) Tryz.underlying144 rfl (by kernel_rfl)) rfl ?_
              exact⟨⟨no,lab,cw,cf,T⟩,p,T.length,c,by rw[QA HF];rfl,fun l h=>(by rw[QA HF]at h;cases h),hBq⟩
           |some ks=>
            have hR6:=QA HR5
            simp only[Option.map_some]at hR6
            generalize hks:(if ks=[80]∧1≤T.length∧T.length≤8 then List.replicate T.length 112 else ks)=ks' at hR6
            have HR6:=QB hR6
            have Hks:=QB hks
            clear hR6 hks HR5 Hz6 Hz4 Hrow x2 hbz CS
            simp only[Option.getD_some,Option.isSome_some]
            go_upto_region 38 with fail
            go_cut [184] (fun c184 wq=>c184=.bool (decide (ks=[80]∧1≤T.length∧T.length≤8))∧wq=we)
            case first=>
             as_aux_lemma=>
              clear HR6 Hks
              by_cases g1:ks=[80]
              ·subst g1
               by_cases g2:1≤T.length
               ·have g2I:(1:Int)≤(T.length:Int):=by omega
                have HD:Hid (decide (([80]:Strd.Bs)=[80]∧1≤T.length∧T.length≤8)=decide ((T.length:Int)≤8)):=QB (by rw[Bool.eq_iff_iff];simp only[decide_eq_true_eq,eq_self_iff_true,true_and];omega)
                go_wp2
                go_meet
                exact⟨by rw[QA HD],rfl⟩
               ·have g2I:¬(1:Int)≤(T.length:Int):=by omega
                have HD:Hid (decide (([80]:Strd.Bs)=[80]∧1≤T.length∧T.length≤8)=false):=QB (by simp only[decide_eq_false_iff_not,eq_self_iff_true,true_and];omega)
                go_wp2
                go_meet
                exact⟨by rw[QA HD],rfl⟩
              ·have gb:(ks==[80])=false:=by rw[list_beq];simp[g1]
               have HD:Hid (decide (ks=[80]∧1≤T.length∧T.length≤8)=false):=QB (by simp[g1])
               clear g1
               go_wp2
               go_meet
               exact⟨by rw[QA HD],rfl⟩
            case rest=>
             obtain⟨rfl,hwq⟩:=hcut
             have hwq':=hwq.symm
             subst hwq'
             go_upto_if 184 with fail
             go_cut [17] (fun c17 wq=>c17=.string (bstr ks')∧wq=we)
             case first=>
              as_aux_lemma=>
               clear HR6
               by_cases g1:ks=[80]∧1≤T.length∧T.length≤8
               ·have HD:decide (ks=[80]∧1≤T.length∧T.length≤8)=true:=by simp only[g1,and_self,decide_true]
                rw[HD]
                clear HD
                have HK:Hid (ks'=List.replicate T.length 112):=QB (by rw[←QA Hks,if_pos g1])
                have g8:(T.length:Int)≤8:=by omega
                have hxe:(⟨#[112,112,112,112,112,112,112,112]⟩:ByteArray).extract 0 T.length=bstr (List.replicate T.length 112):=Rf.eight_p T.length (by omega)
                clear Hks g1
                go_wp2
                go_meet
                exact⟨by rw[QA HK] <;> first|rfl|exact congrArg Value.string hxe,rfl⟩
               ·have HD:decide (ks=[80]∧1≤T.length∧T.length≤8)=false:=by simp only[g1,decide_false]
                rw[HD]
                clear HD
                have HK:Hid (ks'=ks):=QB (by rw[←QA Hks,if_neg g1])
                clear Hks g1
                go_wp2
                go_meet
                exact⟨by rw[QA HK],rfl⟩
             case rest=>
              obtain⟨rfl,hwq⟩:=hcut
              have hwq':=hwq.symm
              subst hwq'
              clear Hks
              by_cases hln:ks'.length=T.length
              ·have hlb:((ks'.length:Int) != (T.length:Int))=false:=by rw[hln];simp
               have Hln:=QB hln
               go_wp2
               go_loopw [19] (fun c19 wr=>∃i:Nat,i≤T.length∧c19=.int .i64 i∧(∀j,j<i→Rf.fine (ks'.getD j 0) (T.getD j [])=true)∧wr.heap[w.heap.size+1]? = some (.cells #[.int .i64 no,.string (bstr lab),.string (bstr cw),.int .i64 cf,.slice p T.length c] 144 (0,0))∧wr.heap[w.heap.size]? = some (.cells Rf.zLine 144 (0,0))∧ZR w.heap.size wr (.slice p T.length c) T∧Below w.heap.size w wr) (fun c _=>T.length-(intOf c).toNat)
               case atStart=>exact⟨0,by omega,rfl,fun j hj=>by omega,QA He6,QA He4,QA HeR,hBe⟩
               case round=>
                clear He6 He4 HeR hBe y4 he6l
                obtain⟨i,hi,rfl,hall,hb6,hb4,hrow,hBr⟩:=hrel
                have Hall:=QB hall
                have Hb6:=QB hb6
                have Hb4:=QB hb4
                have Hrow:=QB hrow
                have hb6l:=QD hb6
                clear hall hb6 hb4 hrow
                by_cases hlt:i<T.length
                ·
                 as_aux_lemma=>
                  have hltI:(i:Int)<(ks'.length:Int):=by omega
                  have hltT:(i:Int)<(T.length:Int):=by omega
                  obtain⟨gp,rfl,_,hgl,hgc⟩:=(QA Hrow).at i hlt
                  have z4:=QC (QA Hb6) 4
                  simp only[gA,gZ,gS]at z4
                  have g0:ks'[i]? = some (ks'.getD i 0):=by rw[gD,gE (by omega)];rfl
                  have e0:=Rf.ZQ g0
                  have hgt:T.getD i []=T[i]:=by rw[gD,gE hlt];rfl
                  have hTl:=QA HTl T[i] (List.getElem_mem hlt)
                  have CFi:=QB (fun W=>fine_ref (ks'.getD i 0) T[i] W (by omega))
                  have Hnext:Hid (Rf.fine (ks'.getD i 0) T[i]=true→∀j,j<i+1→Rf.fine (ks'.getD j 0) (T.getD j [])=true):=QB (fun hf j hj=>by
                   by_cases e:j=i
                   ·subst e;rw[hgt];exact hf
                   ·exact QA Hall j (by omega))
                  have Hbad:Hid (Rf.fine (ks'.getD i 0) T[i]=false→R=none):=QB (fun hf=>by
                   rw[←QA HR6,if_neg]
                   rw[Rf.allFine_bad ks' T i (by omega) hlt (by rw[hgt];exact hf)]
                   decide)
                  have hw1:IntKind.i64.wrap ((i:Int)+1)=(i:Int)+1:=IntWalk.i64_in _ (by omega)
                  generalize ks'.getD i 0=kc at *
                  generalize T[i]=tx at *
                  generalize Rf.fine kc tx=FB at *
                  clear g0 hgt HR6
                  go_upto_region 45 with fail
                  go_quiet (first|(go_at_call 111;exact Calls.quiet_of_same (QA CFi _)))
                  cases FB with
                  |true=>
                   have HN:=QB (QA Hnext rfl)
                   clear Hnext Hbad
                   go_wp2
                   go_roundw
                   case rel=>exact⟨i+1,by omega,by go_num,QA HN,QA Hb6,QA Hb4,QA Hrow,Rf.below_dn hBr _⟩
                   case measure=>simp[intOf];omega
                  |false=>
                   have HF:=QB (QA Hbad rfl)
                   clear Hnext Hbad
                   go_upto_region 47 with fail
                   go_cut [5] (fun c5 wq=>c5=.bool false∧wq.heap[w.heap.size]? = some (.cells #[.int .i64 no,.string (bstr lab),.string (bstr cw),.int .i64 cf,.slice (some ⟨gp,0,none⟩) T.length c] 144 (0,0))∧Below w.heap.size w wq)
                   case first=>
                    go_wp2_with (first|(refine wpList_load_row rfl 144 _ rfl (w.heap.size+1) rfl 144 _ (0,0) _ (by exact QA Hb6) Tryz.underlying144 rfl (by kernel_rfl) ?_)|(refine wpList_store_row rfl 144 (.tmp 4) (.tmp 213) (by rfl) w.heap.size #[.int .i64 no,.string (bstr lab),.string (bstr cw),.int .i64 cf,.slice (some ⟨gp,0,none⟩) T.length c] (by rfl) (by rfl) 144 Rf.zLine (by exact QA Hb4) (by kernel_rfl) rfl (Rf.line_one _ _ _ _ _ _ _) ?_))
                    go_meet
                    exact⟨rfl,ZJ (by exact QA Hb4),QT (Rf.below_dn hBr _) (Nat.le_refl _) _⟩
                   case rest=>
                    obtain⟨rfl,h4,hBq⟩:=hcut
                    have H4:=QB h4
                    rename_i hK
                    refine hK _ _ ?_
                    refine wp_ret ?_
                    try simp only[Exit.noGoto_ret,Exit.inBlock,Exit.then]
                    first|change bodyPost Tryz.prog Tryz.f72 _ _ _ _|(simp (config:={ zetaDelta:=true }) only[Exit.noGoto_ret,Exit.inBlock,Exit.then])
                    refine bodyPost_ret (v:=.tuple #[.agg #[.int .i64 no,.string (bstr lab),.string (bstr cw),.int .i64 cf,.slice (some ⟨gp,0,none⟩) T.length c],.bool false]) (by exact QP Tryz.results72 _ _ w.heap.size 144 _ _ _ rfl (by exact(QA H4)) Tryz.underlying144 rfl (by kernel_rfl)) rfl ?_
                    exact⟨⟨no,lab,cw,cf,T⟩,(some ⟨gp,0,none⟩),T.length,c,by rw[QA HF];rfl,fun l h=>(by rw[QA HF]at h;cases h),hBq⟩
                ·
                 as_aux_lemma=>
                  obtain rfl:i=T.length:=by omega
                  have HF:Hid (R=some ⟨no,lab,cw,cf,T⟩):=QB (by
                   rw[←QA HR6,if_pos (Rf.allFine_all ks' T (QA Hln) (QA Hall))])
                  have hltI:¬(T.length:Int)<(ks'.length:Int):=by have:=QA Hln;omega
                  clear HR6 Hall
                  go_upto_region 48 with fail
                  go_cut [5] (fun c5 wq=>c5=.bool true∧wq.heap[w.heap.size]? = some (.cells #[.int .i64 no,.string (bstr lab),.string (bstr cw),.int .i64 cf,.slice p T.length c] 144 (0,0))∧ZR w.heap.size wq (.slice p T.length c) T∧Below w.heap.size w wq)
                  case first=>
                   go_wp2_with (first|(refine wpList_load_row rfl 144 _ rfl (w.heap.size+1) rfl 144 _ (0,0) _ (by exact QA Hb6) Tryz.underlying144 rfl (by kernel_rfl) ?_)|(refine wpList_store_row rfl 144 (.tmp 4) (.tmp 214) (by rfl) w.heap.size #[.int .i64 no,.string (bstr lab),.string (bstr cw),.int .i64 cf,.slice p T.length c] (by rfl) (by rfl) 144 Rf.zLine (by exact QA Hb4) (by kernel_rfl) rfl (Rf.line_one _ _ _ _ _ _ _) ?_))
                   go_meet
                   exact⟨rfl,ZJ (by exact QA Hb4),ZP (QA Hrow) (QA Hb4) (by decide),QT hBr (Nat.le_refl _) _⟩
                  case rest=>
                   obtain⟨rfl,h4,hSq,hBq⟩:=hcut
                   have H4:=QB h4
                   rename_i hK
                   refine hK _ _ ?_
                   refine wp_ret ?_
                   try simp only[Exit.noGoto_ret,Exit.inBlock,Exit.then]
                   first|change bodyPost Tryz.prog Tryz.f72 _ _ _ _|(simp (config:={ zetaDelta:=true }) only[Exit.noGoto_ret,Exit.inBlock,Exit.then])
                   refine bodyPost_ret (v:=.tuple #[.agg #[.int .i64 no,.string (bstr lab),.string (bstr cw),.int .i64 cf,.slice p T.length c],.bool true]) (by exact QP Tryz.results72 _ _ w.heap.size 144 _ _ _ rfl (by exact(QA H4)) Tryz.underlying144 rfl (by kernel_rfl)) rfl ?_
                   refine⟨⟨no,lab,cw,cf,T⟩,p,T.length,c,by rw[QA HF];rfl,fun l h=>?_,hBq⟩
                   rw[QA HF]at h
                   cases h
                   exact⟨rfl,rfl,Rf.row_base hSq (Nat.zero_le _)⟩
              ·
               as_aux_lemma=>
                have hlb:((ks'.length:Int) != (T.length:Int))=true:=by simp;omega
                have HF:Hid (R=none):=QB (by
                 rw[←QA HR6,if_neg]
                 intro h
                 exact hln (Rf.allFine_len _ _ h))
                clear HR6
                go_upto_region 41 with fail
                go_cut [5] (fun c5 wq=>c5=.bool false∧wq.heap[w.heap.size]? = some (.cells #[.int .i64 no,.string (bstr lab),.string (bstr cw),.int .i64 cf,.slice p T.length c] 144 (0,0))∧Below w.heap.size w wq)
                case first=>
                 go_wp2_with (first|(refine wpList_load_row rfl 144 _ rfl (w.heap.size+1) rfl 144 _ (0,0) _ (by exact QA He6) Tryz.underlying144 rfl (by kernel_rfl) ?_)|(refine wpList_store_row rfl 144 (.tmp 4) (.tmp 195) (by rfl) w.heap.size #[.int .i64 no,.string (bstr lab),.string (bstr cw),.int .i64 cf,.slice p T.length c] (by rfl) (by rfl) 144 Rf.zLine (by exact QA He4) (by kernel_rfl) rfl (Rf.line_one _ _ _ _ _ _ _) ?_))
                 go_meet
                 exact⟨rfl,ZJ (by exact QA He4),QT hBe (Nat.le_refl _) _⟩
                case rest=>
                 obtain⟨rfl,h4,hBq⟩:=hcut
                 have H4:=QB h4
                 rename_i hK
                 refine hK _ _ ?_
                 refine wp_ret ?_
                 try simp only[Exit.noGoto_ret,Exit.inBlock,Exit.then]
                 first|change bodyPost Tryz.prog Tryz.f72 _ _ _ _|(simp (config:={ zetaDelta:=true }) only[Exit.noGoto_ret,Exit.inBlock,Exit.then])
                 refine bodyPost_ret (v:=.tuple #[.agg #[.int .i64 no,.string (bstr lab),.string (bstr cw),.int .i64 cf,.slice p T.length c],.bool false]) (by exact QP Tryz.results72 _ _ w.heap.size 144 _ _ _ rfl (by exact(QA H4)) Tryz.underlying144 rfl (by kernel_rfl)) rfl ?_
                 exact⟨⟨no,lab,cw,cf,T⟩,p,T.length,c,by rw[QA HF];rfl,fun l h=>(by rw[QA HF]at h;cases h),hBq⟩
end Go.Proofs.YtegiloiojloaoaaGreatDoor
