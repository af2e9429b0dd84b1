/- Contracts of package code: the bytes of an addi, of jumps. -/
import Derived.Test.YtegiloiojloaoaaGreatDoorCSpec
import Derived.Test.YtegiloiojloaoaaGreatDoorCCode1
import Derived.Deep.RegionWith
import Derived.Deep.DeepCutAuto
set_option linter.unusedVariables false
set_option linter.unusedSimpArgs false
set_option maxHeartbeats 2000000
namespace Go.Proofs.YtegiloiojloaoaaGreatDoor
open Go.RowKit
theorem QW {w w':World} (h:Below w.heap.size w w'):Below w.heap.size w w'.drew:=h.drew
theorem appendAdd_c (i:Strd.Ins) (vo v:Value) (w:World) (base:Nat) (bs:Strd.Bs) (hO:QS w vo i.oprs) (hl2:2≤i.oprs.length) (hB:Q1 base w v bs) (hb:base≤w.heap.size) (hl:bs.length≤2^39)
  (h0:-2^32≤Strd.num i 0∧Strd.num i 0≤2^32) (h1:-2^32≤Strd.num i 1∧Strd.num i 1≤2^32) (hbs:-2^32≤i.op.base∧i.op.base≤2^32) :
  Calls Tryz.prog 68 #[.agg #[.int .i64 i.op.kind,.int .i64 i.op.base,.int .i64 i.op.number,.int .i64 i.op.first,.int .i64 i.op.last,vo],v] w fun e w'=>∃v',e=.returned v'∧Q1 base w' v' (bs++Strd.addBytes i)∧Kept base (Tag 5) w w':=by
 obtain⟨p,cap,rfl⟩:=hO.shape
 have HO:=QB hO
 have HB:=QB hB
 clear hO hB
 go_enter Tryz.func68,Tryz.ntmps68
 go_upto_region 1 with fail
 go_cut [5,6] (fun a b wc=>a=.int .i64 (Strd.num i 0)∧b=.int .i64 (Strd.num i 1)∧Below w.heap.size w wc∧w.heap.size<wc.heap.size∧wc.cell? ⟨w.heap.size,1,none⟩=some (.int .i64 i.op.base))
 case first=>
  go_region_with (go_at_call 67;refine(number_c i _ _ _ (by omega) (by omega) ?_).mono ?_;(first|exact(QA HO).below (QW (QF _ _))|exact((QA HO).below (QW (QF _ _))).below (by assumption)|exact(QA HO).below (QF _ _));rintro e w1 ⟨rfl,hb1⟩;obtain⟨hc1,hf1⟩:=bcell hb1;have hz:Below w.heap.size w w1:=(by first|exact QE (QW (QF _ _)) hb1|exact QE (by assumption) hb1);have hs:w.heap.size<w1.heap.size:=(by have:=hb1.size;first|(simp at this;omega)|omega))
  all_goals go_wp2_with fail
  all_goals go_meet
  all_goals refine⟨rfl,rfl,by assumption,by assumption,?_⟩
  all_goals rw[hc1 _ _ (by first|assumption|simp)]
  all_goals simp_all
 case rest=>
  obtain⟨rfl,rfl,hz,hs,hcell⟩:=hcut
  have hB1:=QB ((QA HB).below hz)
  have hb1:base≤wc.heap.size:=by omega
  by_cases hsh:Strd.addsShort (Strd.num i 0)=true
  ·have hr:1≤Strd.num i 0∧Strd.num i 0≤8:=by simpa [Strd.addsShort,Strd.within] using hsh
   have Hsh:=QB hsh
   clear hsh
   go_wp2_with fail
   refine(addsShort_c _ _).mono ?_
   rintro e w' ⟨rfl,rfl⟩
   rw[QA Hsh]
   go_wp2_with fail
   refine(appendWord_c v _ _ base bs (QA hB1) hb1 (by omega)).mono ?_
   rintro e w2 ⟨v2,rfl,hB2,hk2⟩
   go_wp2
   go_ret
   refine⟨v2,rfl,?_,(Kept.of_below hz).trans hk2⟩
   simpa [Strd.addBytes,QA Hsh] using hB2
  ·have hsh':Strd.addsShort (Strd.num i 0)=false:=by simpa using hsh
   have Hsh:=QB hsh'
   clear hsh hsh'
   go_wp2_with fail
   refine(addsShort_c _ _).mono ?_
   rintro e w' ⟨rfl,rfl⟩
   rw[QA Hsh]
   go_wp2_with fail
   refine(appendWord_c v _ _ base bs (QA hB1) hb1 (by omega)).mono ?_
   rintro e w2 ⟨v2,rfl,hB2,hk2⟩
   have s2:=hk2.size
   go_wp2_with fail
   refine(appendWord_c v2 _ _ base _ hB2 (by omega) (by simp[len_word];omega)).mono ?_
   rintro e w3 ⟨v3,rfl,hB3,hk3⟩
   go_wp2
   go_ret
   refine⟨v3,rfl,?_,(Kept.of_below hz).trans (hk2.trans hk3)⟩
   simpa [Strd.addBytes,QA Hsh] using hB3
theorem appendJump_c (i:Strd.Ins) (vo v:Value) (form a:Int) (w:World) (base:Nat) (bs:Strd.Bs) (hO:QS w vo i.oprs) (hl1:1≤i.oprs.length) (hB:Q1 base w v bs) (hb:base≤w.heap.size) (hl:bs.length≤2^38)
  (h0:-2^40≤Strd.num i 0∧Strd.num i 0≤2^40) (ha:-2^40≤a∧a≤2^40) (hbs:-2^32≤i.op.base∧i.op.base≤2^32) (hn0:0≤i.op.number) (hn1:i.op.number<16) :
  Calls Tryz.prog 69 #[.agg #[.int .i64 i.op.kind,.int .i64 i.op.base,.int .i64 i.op.number,.int .i64 i.op.first,.int .i64 i.op.last,vo],v,.int .i64 form,.int .i64 a] w fun e w'=>∃v',e=.returned v'∧Q1 base w' v' (bs++Strd.jumpBytes i form a)∧Kept base (Tag 5) w w':=by
 obtain⟨p,cap,rfl⟩:=hO.shape
 have HO:=QB hO
 have HB:=QB hB
 clear hO hB
 go_enter Tryz.func69,Tryz.ntmps69
 go_wp2_with fail
 refine(number_c i 0 _ _ (by omega) (by omega) ((QA HO).below (QF _ _))).mono ?_
 rintro e w1 ⟨rfl,hb1⟩
 obtain⟨hc1,hf1⟩:=bcell hb1
 have hz:Below w.heap.size w w1:=below_at hb1
 have hs:w.heap.size<w1.heap.size:=by have:=hb1.size;simp at this;omega
 have hB1:=QB ((QA HB).below hz)
 rw[Int.toNat_zero]
 go_wp2_with fail
 refine(distance_c _ _ _ (by omega) (by omega)).mono ?_
 rintro e w' ⟨rfl,rfl⟩
 by_cases f0:form=0
 ·subst f0
  go_wp2_with fail
  refine(appendWord_c v _ _ base bs (QA hB1) (by omega) (by omega)).mono ?_
  rintro e w2 ⟨v2,rfl,hB2,hk2⟩
  go_wp2
  go_ret
  refine⟨v2,rfl,?_,(Kept.of_below hz).trans hk2⟩
  rw[bits_and_255,IntWalk.wrap64_in _ (by omega)]at hB2
  simpa [Strd.jumpBytes] using hB2
 have e0:(form==0)=false:=by simp[f0]
 by_cases f1:form=1
 ·subst f1
  clear f0 e0
  go_wp2_with fail
  refine(appendWord_c v _ _ base bs (QA hB1) (by omega) (by omega)).mono ?_
  rintro e w2 ⟨v2,rfl,hB2,hk2⟩
  have s2:=hk2.size
  go_wp2_with fail
  refine(appendWord_c v2 _ _ base _ hB2 (by omega) (by simp[len_word];omega)).mono ?_
  rintro e w3 ⟨v3,rfl,hB3,hk3⟩
  go_wp2
  go_ret
  refine⟨v3,rfl,?_,(Kept.of_below hz).trans (hk2.trans hk3)⟩
  simpa [Strd.jumpBytes] using hB3
 have e1:(form==1)=false:=by simp[f1]
 have F0:=QB f0
 have F1:=QB f1
 clear f0 f1
 by_cases n1:i.op.number=1
 ·have en:(i.op.number==1)=true:=by simp[n1]
  have N1:=QB n1
  clear n1
  go_wp2_with fail
  refine(appendLongJump_c v _ _ _ base bs (QA hB1) (by omega) (by omega) (by omega) (by omega)).mono ?_
  rintro e w2 ⟨v2,rfl,hB2,hk2⟩
  go_wp2
  go_ret
  refine⟨v2,rfl,?_,(Kept.of_below hz).trans hk2⟩
  simpa [Strd.jumpBytes,QA F0,QA F1,QA N1] using hB2
 have en:(i.op.number==1)=false:=by simp[n1]
 have N1:=QB n1
 clear n1
 go_wp2_with fail
 refine(isCond_c i.op _).mono ?_
 rintro e w2 ⟨rfl,hb2⟩
 obtain⟨hc2,hf2⟩:=bcell hb2
 have hz2:Below w.heap.size w w2:=QE hz hb2
 have s2:=hb2.size
 have hB2:=QB ((QA HB).below hz2)
 clear hB1
 cases hcd:Strd.isCond i.op
 ·have Hcd:=QB hcd
  clear hcd
  go_wp2_with fail
  refine(appendLongJump_c v _ _ _ base bs (QA hB2) (by omega) (by omega) (by omega) (by omega)).mono ?_
  rintro e w3 ⟨v3,rfl,hB3,hk3⟩
  go_wp2
  go_ret
  refine⟨v3,rfl,?_,(Kept.of_below hz2).trans hk3⟩
  simpa [Strd.jumpBytes,QA F0,QA F1,QA N1,QA Hcd] using hB3
 ·have Hcd:=QB hcd
  clear hcd
  have ho:0≤Strd.opp i.op.number∧Strd.opp i.op.number≤16:=by unfold Strd.opp;split <;> omega
  go_wp2_with fail
  refine(opposite_c _ _ (by omega) (by omega)).mono ?_
  rintro e w' ⟨rfl,rfl⟩
  go_wp2_with fail
  refine(appendWord_c v _ _ base bs (QA hB2) (by omega) (by omega)).mono ?_
  rintro e w3 ⟨v3,rfl,hB3,hk3⟩
  have s3:=hk3.size
  go_wp2_with fail
  refine(appendLongJump_c v3 _ _ _ base _ hB3 (by omega) (by simp[len_word];omega) (by omega) (by omega)).mono ?_
  rintro e w4 ⟨v4,rfl,hB4,hk4⟩
  go_wp2
  go_ret
  refine⟨v4,rfl,?_,(Kept.of_below hz2).trans (hk3.trans hk4)⟩
  simpa [Strd.jumpBytes,QA F0,QA F1,QA N1,QA Hcd] using hB4
end Go.Proofs.YtegiloiojloaoaaGreatDoor
