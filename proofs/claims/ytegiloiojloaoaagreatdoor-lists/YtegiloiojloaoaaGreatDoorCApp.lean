/- Contracts of package code: the bytes of an instruction, kind by kind. -/
import Derived.Test.YtegiloiojloaoaaGreatDoorCSpec
import Derived.Test.YtegiloiojloaoaaGreatDoorCCode6
import Derived.Deep.LoopGhost
set_option linter.unusedVariables false
set_option linter.unusedSimpArgs false
set_option maxHeartbeats 2000000
namespace Go.Proofs.YtegiloiojloaoaaGreatDoor
open Go.RowKit
theorem wr3 (b x y:Int) (hb:0≤b∧b≤65535) (hx:-2^32≤x∧x≤2^32) (hy:-2^32≤y∧y≤2^32):IntKind.i64.wrap (IntKind.i64.wrap (b+IntKind.i64.wrap (512*x))+y)=b+512*x+y:=by
 rw[IntWalk.i64_in (512*x) (by omega),IntWalk.i64_in (b+512*x) (by omega),IntWalk.i64_in _ (by omega)]
theorem Append_plain (i:Strd.Ins) (vo v:Value) (form a:Int) (w:World) (base:Nat) (bs:Strd.Bs) (_hO:QS w vo i.oprs) (hB:Q1 base w v bs) (hb:base≤w.heap.size) (hl:bs.length≤2^38) (hk:i.op.kind=1) :
  Calls Tryz.prog 41 #[.agg #[.int .i64 i.op.kind,.int .i64 i.op.base,.int .i64 i.op.number,.int .i64 i.op.first,.int .i64 i.op.last,vo],v,.int .i64 form,.int .i64 a] w fun e w'=>∃v',e=.returned v'∧Q1 base w' v' (bs++Strd.bytes i form a)∧Kept base (Tag 5) w w':=by
 obtain⟨p,cap,rfl⟩:=_hO.shape
 have k1:(i.op.kind==1)=true:=by simp[hk]
 have Hk:=QB hk
 have hB0:=QB (hB.below (QF w (.cells #[.int .i64 i.op.kind,.int .i64 i.op.base,.int .i64 i.op.number,.int .i64 i.op.first,.int .i64 i.op.last,.slice p i.oprs.length cap] 97)))
 clear hk hB _hO
 go_enter Tryz.func41,Tryz.ntmps41
 go_wp2_with fail
 refine(appendWord_c v _ _ base bs (QA hB0) (by simp;omega) (by omega)).mono ?_
 rintro e w1 ⟨v1,rfl,hB1,hk1⟩
 go_wp2
 go_ret
 refine⟨v1,rfl,?_,(Kept.of_below (QF _ _)).trans hk1⟩
 simpa [Strd.bytes,QA Hk] using hB1
theorem Append_pair (i:Strd.Ins) (vo v:Value) (form a:Int) (w:World) (base:Nat) (bs:Strd.Bs) (hO:QS w vo i.oprs) (hB:Q1 base w v bs) (hb:base≤w.heap.size) (hl:bs.length≤2^38) (hf:WfA i) (hk:i.op.kind=2) :
  Calls Tryz.prog 41 #[.agg #[.int .i64 i.op.kind,.int .i64 i.op.base,.int .i64 i.op.number,.int .i64 i.op.first,.int .i64 i.op.last,vo],v,.int .i64 form,.int .i64 a] w fun e w'=>∃v',e=.returned v'∧Q1 base w' v' (bs++Strd.bytes i form a)∧Kept base (Tag 5) w w':=by
 obtain⟨p,cap,rfl⟩:=hO.shape
 have h2:=hf.two (.inl hk)
 have n0:=hf.num 0
 have n1:=hf.num 1
 have nb:=hf.base
 have k1:(i.op.kind==1)=false:=by simp[hk]
 have k2:(i.op.kind==2)=true:=by simp[hk]
 have Hk:=QB hk
 have hO0:QS (w.alloc (.cells #[.int .i64 i.op.kind,.int .i64 i.op.base,.int .i64 i.op.number,.int .i64 i.op.first,.int .i64 i.op.last,.slice p i.oprs.length cap] 97)).drew (.slice p i.oprs.length cap) i.oprs:=hO.below (QW (QF _ _))
 have hB0:Q1 base (w.alloc (.cells #[.int .i64 i.op.kind,.int .i64 i.op.base,.int .i64 i.op.number,.int .i64 i.op.first,.int .i64 i.op.last,.slice p i.oprs.length cap] 97)).drew v bs:=hB.below (QW (QF _ _))
 have hK0:Kept base (Tag 5) w (w.alloc (.cells #[.int .i64 i.op.kind,.int .i64 i.op.base,.int .i64 i.op.number,.int .i64 i.op.first,.int .i64 i.op.last,.slice p i.oprs.length cap] 97)).drew:=.of_below (QW (QF _ _))
 have hS0:base≤(w.alloc (.cells #[.int .i64 i.op.kind,.int .i64 i.op.base,.int .i64 i.op.number,.int .i64 i.op.first,.int .i64 i.op.last,.slice p i.oprs.length cap] 97)).drew.heap.size:=by simp;omega
 have hT0:w.heap.size<(w.alloc (.cells #[.int .i64 i.op.kind,.int .i64 i.op.base,.int .i64 i.op.number,.int .i64 i.op.first,.int .i64 i.op.last,.slice p i.oprs.length cap] 97)).drew.heap.size:=by simp
 clear hk hB hO hf
 go_enter Tryz.func41,Tryz.ntmps41
 go_wp2
 go_region_with (first
  |(go_at_call 67;refine(number_c i _ _ _ (by omega) (by omega) (by assumption)).mono ?_;rintro e w1 ⟨rfl,hb1⟩;obtain⟨hc1,hf1⟩:=bcell hb1;have hO1:=QS.below (by assumption) hb1;have hB1:=Q1.below (base:=base) (by assumption) hb1;have hK1:Kept base (Tag 5) w w1:=Kept.trans (by assumption) (.of_below hb1);have hS1:base≤w1.heap.size:=Nat.le_trans (by assumption) hb1.size;have hT1:w.heap.size<w1.heap.size:=Nat.lt_of_lt_of_le (by assumption) hb1.size)
  |(go_at_call 66;refine(appendWord_c _ _ _ base _ (by assumption) (by assumption) (by omega)).mono ?_;rintro e w2 ⟨v2,rfl,hB2,hk2⟩;have hK2:Kept base (Tag 5) w w2:=Kept.trans (by assumption) hk2))
 all_goals go_wp2
 all_goals go_ret
 all_goals refine⟨v2,rfl,?_,by assumption⟩
 all_goals (rw[wr3 _ _ _ nb n1 n0]at hB2;simpa [Strd.bytes,QA Hk] using hB2)
theorem Append_quick (i:Strd.Ins) (vo v:Value) (form a:Int) (w:World) (base:Nat) (bs:Strd.Bs) (hO:QS w vo i.oprs) (hB:Q1 base w v bs) (hb:base≤w.heap.size) (hl:bs.length≤2^38) (hf:WfA i) (hk:i.op.kind=3) :
  Calls Tryz.prog 41 #[.agg #[.int .i64 i.op.kind,.int .i64 i.op.base,.int .i64 i.op.number,.int .i64 i.op.first,.int .i64 i.op.last,vo],v,.int .i64 form,.int .i64 a] w fun e w'=>∃v',e=.returned v'∧Q1 base w' v' (bs++Strd.bytes i form a)∧Kept base (Tag 5) w w':=by
 obtain⟨p,cap,rfl⟩:=hO.shape
 have h2:=hf.two (.inr (.inl hk))
 have n0:=hf.num 0
 have n1:=hf.num 1
 have nb:=hf.base
 have k1:(i.op.kind==1)=false:=by simp[hk]
 have k2:(i.op.kind==2)=false:=by simp[hk]
 have k3:(i.op.kind==3)=true:=by simp[hk]
 have Hk:=QB hk
 have hO0:QS (w.alloc (.cells #[.int .i64 i.op.kind,.int .i64 i.op.base,.int .i64 i.op.number,.int .i64 i.op.first,.int .i64 i.op.last,.slice p i.oprs.length cap] 97)).drew (.slice p i.oprs.length cap) i.oprs:=hO.below (QW (QF _ _))
 have hB0:Q1 base (w.alloc (.cells #[.int .i64 i.op.kind,.int .i64 i.op.base,.int .i64 i.op.number,.int .i64 i.op.first,.int .i64 i.op.last,.slice p i.oprs.length cap] 97)).drew v bs:=hB.below (QW (QF _ _))
 have hK0:Kept base (Tag 5) w (w.alloc (.cells #[.int .i64 i.op.kind,.int .i64 i.op.base,.int .i64 i.op.number,.int .i64 i.op.first,.int .i64 i.op.last,.slice p i.oprs.length cap] 97)).drew:=.of_below (QW (QF _ _))
 have hS0:base≤(w.alloc (.cells #[.int .i64 i.op.kind,.int .i64 i.op.base,.int .i64 i.op.number,.int .i64 i.op.first,.int .i64 i.op.last,.slice p i.oprs.length cap] 97)).drew.heap.size:=by simp;omega
 have hT0:w.heap.size<(w.alloc (.cells #[.int .i64 i.op.kind,.int .i64 i.op.base,.int .i64 i.op.number,.int .i64 i.op.first,.int .i64 i.op.last,.slice p i.oprs.length cap] 97)).drew.heap.size:=by simp
 clear hk hB hO hf
 have ebits:=bits_and_255
 go_enter Tryz.func41,Tryz.ntmps41
 go_wp2
 go_region_with (first
  |(go_at_call 67;refine(number_c i _ _ _ (by omega) (by omega) (by assumption)).mono ?_;rintro e w1 ⟨rfl,hb1⟩;obtain⟨hc1,hf1⟩:=bcell hb1;have hO1:=QS.below (by assumption) hb1;have hB1:=Q1.below (base:=base) (by assumption) hb1;have hK1:Kept base (Tag 5) w w1:=Kept.trans (by assumption) (.of_below hb1);have hS1:base≤w1.heap.size:=Nat.le_trans (by assumption) hb1.size;have hT1:w.heap.size<w1.heap.size:=Nat.lt_of_lt_of_le (by assumption) hb1.size)
  |(go_at_call 66;refine(appendWord_c _ _ _ base _ (by assumption) (by assumption) (by omega)).mono ?_;rintro e w2 ⟨v2,rfl,hB2,hk2⟩;have hK2:Kept base (Tag 5) w w2:=Kept.trans (by assumption) hk2))
 all_goals go_wp2
 all_goals go_ret
 all_goals refine⟨v2,rfl,?_,by assumption⟩
 all_goals (rw[wr3 _ _ _ nb n1 (by omega)]at hB2;simpa [Strd.bytes,QA Hk] using hB2)
theorem Append_jumps (i:Strd.Ins) (vo v:Value) (form a:Int) (w:World) (base:Nat) (bs:Strd.Bs) (hO:QS w vo i.oprs) (hB:Q1 base w v bs) (hb:base≤w.heap.size) (hl:bs.length≤2^38) (hf:WfA i) (ha:-2^40≤a∧a≤2^40) (hk:i.op.kind=4∨i.op.kind=5∨i.op.kind=6) :
  Calls Tryz.prog 41 #[.agg #[.int .i64 i.op.kind,.int .i64 i.op.base,.int .i64 i.op.number,.int .i64 i.op.first,.int .i64 i.op.last,vo],v,.int .i64 form,.int .i64 a] w fun e w'=>∃v',e=.returned v'∧Q1 base w' v' (bs++Strd.bytes i form a)∧Kept base (Tag 5) w w':=by
 obtain⟨p,cap,rfl⟩:=hO.shape
 have n0:=hf.num 0
 have n1:=hf.num 1
 have nb:=hf.base
 have hO0:=QB (hO.below (QF w (.cells #[.int .i64 i.op.kind,.int .i64 i.op.base,.int .i64 i.op.number,.int .i64 i.op.first,.int .i64 i.op.last,.slice p i.oprs.length cap] 97)))
 have hB0:=QB (hB.below (QF w (.cells #[.int .i64 i.op.kind,.int .i64 i.op.base,.int .i64 i.op.number,.int .i64 i.op.first,.int .i64 i.op.last,.slice p i.oprs.length cap] 97)))
 have k1:(i.op.kind==1)=false:=by simp;omega
 have k2:(i.op.kind==2)=false:=by simp;omega
 have k3:(i.op.kind==3)=false:=by simp;omega
 rcases hk with hk|hk|hk
 ·have k4:(i.op.kind==4)=true:=by simp[hk]
  have h2:=hf.two (.inr (.inr hk))
  have Hk:=QB hk
  clear hk hB hO hf
  go_enter Tryz.func41,Tryz.ntmps41
  go_wp2_with fail
  refine(appendAdd_c i _ v _ base bs (QA hO0) (by omega) (QA hB0) (by simp;omega) (by omega) n0 n1 (by omega)).mono ?_
  rintro e w1 ⟨v1,rfl,hB1,hk1⟩
  go_wp2
  go_ret
  refine⟨v1,rfl,?_,(Kept.of_below (QF _ _)).trans hk1⟩
  simpa [Strd.bytes,QA Hk] using hB1
 ·have k4:(i.op.kind==4)=false:=by simp[hk]
  have k5:(i.op.kind==5)=true:=by simp[hk]
  have h2:=hf.one (.inl hk)
  have hn:=hf.number
  have Hk:=QB hk
  clear hk hB hO hf
  go_enter Tryz.func41,Tryz.ntmps41
  go_wp2_with fail
  refine(appendJump_c i _ v form a _ base bs (QA hO0) (by omega) (QA hB0) (by simp;omega) (by omega) (by omega) ha (by omega) hn.1 hn.2).mono ?_
  rintro e w1 ⟨v1,rfl,hB1,hk1⟩
  go_wp2
  go_ret
  refine⟨v1,rfl,?_,(Kept.of_below (QF _ _)).trans hk1⟩
  simpa [Strd.bytes,QA Hk] using hB1
 ·have k4:(i.op.kind==4)=false:=by simp[hk]
  have k5:(i.op.kind==5)=false:=by simp[hk]
  have k6:(i.op.kind==6)=true:=by simp[hk]
  have h2:=hf.one (.inr (.inl hk))
  have Hk:=QB hk
  clear hk hB hO hf
  go_enter Tryz.func41,Tryz.ntmps41
  go_wp2_with fail
  refine(appendFarJump_c i _ v form _ base bs (QA hO0) (by omega) (QA hB0) (by simp;omega) (by omega) (by omega) nb).mono ?_
  rintro e w1 ⟨v1,rfl,hB1,hk1⟩
  go_wp2
  go_ret
  refine⟨v1,rfl,?_,(Kept.of_below (QF _ _)).trans hk1⟩
  simpa [Strd.bytes,QA Hk] using hB1
theorem Append_zeros (i:Strd.Ins) (vo v:Value) (form a:Int) (w:World) (base:Nat) (bs:Strd.Bs) (hO:QS w vo i.oprs) (hB:Q1 base w v bs) (hb:base≤w.heap.size) (hl:bs.length≤2^38) (hf:WfA i) (ha:-2^40≤a∧a≤2^40) (hk:i.op.kind=9∨i.op.kind=10) :
  Calls Tryz.prog 41 #[.agg #[.int .i64 i.op.kind,.int .i64 i.op.base,.int .i64 i.op.number,.int .i64 i.op.first,.int .i64 i.op.last,vo],v,.int .i64 form,.int .i64 a] w fun e w'=>∃v',e=.returned v'∧Q1 base w' v' (bs++Strd.bytes i form a)∧Kept base (Tag 5) w w':=by
 obtain⟨p,cap,rfl⟩:=hO.shape
 obtain⟨i0,hi,hz0,hz1,hz2⟩:=info_parts Tryz.info5
 have hs:0≤Strd.size i form a∧Strd.size i form a≤1024:=by
  rcases hk with hk|hk
  ·simpa [Strd.size,hk] using hf.space hk
  ·have:=pows_of (hf.pow hk)
   simp only[Strd.size,hk]
   simp
   rcases this with h|h|h|h|h|h|h|h <;> rw[h] <;> omega
 obtain⟨m,hm⟩:=Int.eq_ofNat_of_zero_le hs.1
 have hO0:=QB (hO.below (QF w (.cells #[.int .i64 i.op.kind,.int .i64 i.op.base,.int .i64 i.op.number,.int .i64 i.op.first,.int .i64 i.op.last,.slice p i.oprs.length cap] 97)))
 have k1:(i.op.kind==1)=false:=by simp;omega
 have k2:(i.op.kind==2)=false:=by simp;omega
 have k3:(i.op.kind==3)=false:=by simp;omega
 have k4:(i.op.kind==4)=false:=by simp;omega
 have k5:(i.op.kind==5)=false:=by simp;omega
 have k6:(i.op.kind==6)=false:=by simp;omega
 have k7:(i.op.kind==7)=false:=by simp;omega
 have k8:(i.op.kind==8)=false:=by simp;omega
 have hz:=Size_c i (.slice p i.oprs.length cap) form a (w.alloc (.cells #[.int .i64 i.op.kind,.int .i64 i.op.base,.int .i64 i.op.number,.int .i64 i.op.first,.int .i64 i.op.last,.slice p i.oprs.length cap] 97)) (by omega) (QA hO0) (by have:=hf.len;omega) (fun h=>hf.one (by omega)) hf.pow
 have hzB:=QB hz
 have Hm:=QB hm
 have HB:=QB hB
 have hfin:Strd.bytes i form a=List.replicate m 0:=by
  have:(Strd.size i form a).toNat=m:=by omega
  rcases hk with hk|hk <;> simp[Strd.bytes,hk,this]
 have Hfin:=QB hfin
 have hm2:m≤1024:=by omega
 have hkk:(i.op.kind==9)=true∨((i.op.kind==9)=false∧(i.op.kind==10)=true):=by
  rcases hk with hk|hk
  ·left;simp[hk]
  ·right;simp[hk]
 clear hk hB hO hf hz hm hfin hs
 rcases hkk with k9|⟨k9,k10⟩
 all_goals
  go_enter Tryz.func41,Tryz.ntmps41
  go_wp2_with fail
  refine(QA hzB).mono ?_
  rintro e w1 ⟨rfl,hb1⟩
  rw[QA Hm]
  have hB1:=(QA HB).below (below_at hb1)
  obtain⟨v1,w2,hr,hown,hgrow⟩:=run_append_own_zeros (P:=Tryz.prog) w1 base 88 3 88 5 i0 (.int .u8 0) .i64 .i64 Tryz.underlying88 Tryz.underlying3 hi hz0 hz1 hz2 rfl rfl v bs.length (bs.map encB) hB1 m (by omega) (by omega) (by have:=hb1.size;simp at this;omega)
  have Hr:=QB hr
  clear hr
  go_wp2_with (at_builtin;refine Lib.wpList_append_run _ rfl _ _ _ _ rfl _ _ rfl rfl _ _ (QA Hr) ?_)
  go_ret
  refine⟨v1,rfl,?_,(Kept.of_below (below_at hb1)).trans (.of_grown hgrow hB1)⟩
  rw[QA Hfin]
  have e:(bs++List.replicate m (0:UInt8)).map encB=bs.map encB++List.replicate m (.int .u8 0):=by simp[encB]
  show World.ownsRow _ _ _ _ _ _ _
  rw[e]
  simpa using hown
theorem words_snoc (os:List Strd.Opr) (k:Nat) (h:k<os.length):((os.take (k+1)).map fun o=>Strd.QI o.num).flatten=((os.take k).map fun o=>Strd.QI o.num).flatten++Strd.QI os[k].num:=by
 rw[List.take_succ_eq_append_getElem h];simp only[List.map_append,List.flatten_append,List.map_cons,List.map_nil,List.flatten_cons,List.flatten_nil,List.append_nil]
theorem words_len (os:List Strd.Opr):((os.map fun o=>Strd.QI o.num).flatten).length=2*os.length:=by
 induction os with
 |nil=>rfl
 |cons o t ih=>simp[Strd.QI]at ih ⊢;omega
theorem bytes_snoc (os:List Strd.Opr) (k:Nat) (h:k<os.length):((os.take (k+1)).map fun o=>Strd.byteB o.num)=((os.take k).map fun o=>Strd.byteB o.num)++[Strd.byteB os[k].num]:=by
 rw[List.take_succ_eq_append_getElem h];simp only[List.map_append,List.map_cons,List.map_nil]
theorem Append_words (i:Strd.Ins) (vo v:Value) (form a:Int) (w:World) (base:Nat) (bs:Strd.Bs) (hO:QS w vo i.oprs) (hB:Q1 base w v bs) (hb:base≤w.heap.size) (hl:bs.length≤2^38) (hf:WfA i) (hk:i.op.kind=7) :
  Calls Tryz.prog 41 #[.agg #[.int .i64 i.op.kind,.int .i64 i.op.base,.int .i64 i.op.number,.int .i64 i.op.first,.int .i64 i.op.last,vo],v,.int .i64 form,.int .i64 a] w fun e w'=>∃v',e=.returned v'∧Q1 base w' v' (bs++Strd.bytes i form a)∧Kept base (Tag 5) w w':=by
 obtain⟨p,cap,rfl⟩:=hO.shape
 have hlen:=hf.len
 have k1:(i.op.kind==1)=false:=by simp[hk]
 have k2:(i.op.kind==2)=false:=by simp[hk]
 have k3:(i.op.kind==3)=false:=by simp[hk]
 have k4:(i.op.kind==4)=false:=by simp[hk]
 have k5:(i.op.kind==5)=false:=by simp[hk]
 have k6:(i.op.kind==6)=false:=by simp[hk]
 have k7:(i.op.kind==7)=true:=by simp[hk]
 have hfin:Strd.bytes i form a=(i.oprs.map fun o=>Strd.QI o.num).flatten:=by simp[Strd.bytes,hk]
 rw[hfin]
 have HB:=QB hB
 have HO:=QB hO
 clear hk hB hO hf hfin
 go_enter Tryz.func41,Tryz.ntmps41
 go_wp2
 go_loopw [1,75] (fun x c wr=>∃k:Nat,k≤i.oprs.length∧c=.int .i64 k∧Q1 base wr x (bs++((i.oprs.take k).map fun o=>Strd.QI o.num).flatten)∧Kept base (Tag 5) w wr) (fun _ c _=>i.oprs.length-(intOf c).toNat)
 case atStart=>exact⟨0,Nat.zero_le _,rfl,by simpa using (QA HB).below (QF _ _),.of_below (QF _ _)⟩
 case round=>
  obtain⟨k,hk,rfl,hBk,hKk⟩:=hrel
  have hsz:=hKk.size
  by_cases hlt:k<i.oprs.length
  ·obtain⟨b,rfl,_,hbl,hc0,hc1⟩:=((QA HO).keptB hKk).at k hlt
   have hlw:=words_len (i.oprs.take k)
   rw[List.length_take]at hlw
   have hsn:=QB (words_snoc i.oprs k hlt)
   generalize (i.oprs[k]).num=x at hc1 hsn
   generalize (i.oprs[k]).name=nm at hc0
   go_wp2_with fail
   refine(appendWord_c _ _ _ base _ (hBk.below (QF _ _)) (by simp;omega) (by rw[List.length_append];omega)).mono ?_
   rintro e w1 ⟨v1,rfl,hB1,hk1⟩
   go_wp2
   go_roundw
   case rel=>exact⟨k+1,by omega,by go_num,by rw[QA hsn,←List.append_assoc];exact hB1,(hKk.trans (.of_below (QF _ _))).trans hk1⟩
   case measure=>simp[intOf];omega
  ·have hke:k=i.oprs.length:=by omega
   subst hke
   go_wp2
   go_ret
   exact⟨_,rfl,by simpa using hBk,hKk⟩
theorem Append_bytes (i:Strd.Ins) (vo v:Value) (form a:Int) (w:World) (base:Nat) (bs:Strd.Bs) (hO:QS w vo i.oprs) (hB:Q1 base w v bs) (hb:base≤w.heap.size) (hl:bs.length≤2^38) (hf:WfA i) (hk:i.op.kind=8) :
  Calls Tryz.prog 41 #[.agg #[.int .i64 i.op.kind,.int .i64 i.op.base,.int .i64 i.op.number,.int .i64 i.op.first,.int .i64 i.op.last,vo],v,.int .i64 form,.int .i64 a] w fun e w'=>∃v',e=.returned v'∧Q1 base w' v' (bs++Strd.bytes i form a)∧Kept base (Tag 5) w w':=by
 obtain⟨p,cap,rfl⟩:=hO.shape
 obtain⟨i0,hi,hz0,hz1,hz2⟩:=info_parts Tryz.info5
 have hlen:=hf.len
 have k1:(i.op.kind==1)=false:=by simp[hk]
 have k2:(i.op.kind==2)=false:=by simp[hk]
 have k3:(i.op.kind==3)=false:=by simp[hk]
 have k4:(i.op.kind==4)=false:=by simp[hk]
 have k5:(i.op.kind==5)=false:=by simp[hk]
 have k6:(i.op.kind==6)=false:=by simp[hk]
 have k7:(i.op.kind==7)=false:=by simp[hk]
 have k8:(i.op.kind==8)=true:=by simp[hk]
 have hfin:Strd.bytes i form a=i.oprs.map fun o=>Strd.byteB o.num:=by simp[Strd.bytes,hk]
 rw[hfin]
 have HB:=QB hB
 have HO:=QB hO
 clear hk hB hO hf hfin
 go_enter Tryz.func41,Tryz.ntmps41
 go_wp2
 go_loopw [1,89] (fun x c wr=>∃k:Nat,k≤i.oprs.length∧c=.int .i64 k∧Q1 base wr x (bs++(i.oprs.take k).map fun o=>Strd.byteB o.num)∧Kept base (Tag 5) w wr) (fun _ c _=>i.oprs.length-(intOf c).toNat)
 case atStart=>exact⟨0,Nat.zero_le _,rfl,by simpa using (QA HB).below (QF _ _),.of_below (QF _ _)⟩
 case round=>
  obtain⟨k,hk,rfl,hBk,hKk⟩:=hrel
  have hsz:=hKk.size
  by_cases hlt:k<i.oprs.length
  ·obtain⟨b,rfl,_,hbl,hc0,hc1⟩:=((QA HO).keptB hKk).at k hlt
   have hsn:=QB (bytes_snoc i.oprs k hlt)
   generalize (i.oprs[k]).num=x at hc1 hsn
   generalize (i.oprs[k]).name=nm at hc0
   have hlb:(bs++(i.oprs.take k).map fun o=>Strd.byteB o.num).length≤bs.length+8:=by simp;omega
   generalize hbk:(bs++(i.oprs.take k).map fun o=>Strd.byteB o.num)=bk at hBk hlb
   have Hbk:=QB hbk
   clear hbk
   go_wp2_with (first|(at_builtin;refine wpList_append_own _ rfl _ _ 88 rfl base 5 i0 (.int .u8 0) 1 1 Tryz.underlying88 hi hz0 hz1 hz2 rfl (by decide) _ _ _ rfl ((hBk.below (QF _ _)).alloc _) ⟨wr.heap.size+1,0,none⟩ 1 1 [encB (Strd.byteB x)] rfl rfl ?c1 ?c2 ?c3 ?c4 ?c5 ?_)|go_in)
   case c1=>
    intro j u hj
    match j,hj with
    |0,hj=>simp only[gZ,Option.some.injEq]at hj;subst hj;simp[Addr.add,Strd.byteB,←encB_mod]
   case c2=>rfl
   case c3=>unfold maxLen;omega
   case c4=>omega
   case c5=>first|omega|(simp;omega)
   intro v1 w1 hown hgrow _
   go_wp2
   go_roundw
   case rel=>
    refine⟨k+1,by omega,by go_num,?_,(hKk.trans (.of_below (QF _ _))).trans (((Kept.refl _ _ _).alloc _).trans (.of_grown hgrow ((hBk.below (QF _ _)).alloc _)))⟩
    rw[QA hsn,←List.append_assoc,QA Hbk]
    simpa [Q1] using hown
   case measure=>simp[intOf];omega
  ·have hke:k=i.oprs.length:=by omega
   subst hke
   go_wp2
   go_ret
   exact⟨_,rfl,by simpa using hBk,hKk⟩
theorem Append_none (i:Strd.Ins) (vo v:Value) (form a:Int) (w:World) (base:Nat) (bs:Strd.Bs) (hO:QS w vo i.oprs) (hB:Q1 base w v bs) (hk:i.op.kind<1∨10<i.op.kind) :
  Calls Tryz.prog 41 #[.agg #[.int .i64 i.op.kind,.int .i64 i.op.base,.int .i64 i.op.number,.int .i64 i.op.first,.int .i64 i.op.last,vo],v,.int .i64 form,.int .i64 a] w fun e w'=>∃v',e=.returned v'∧Q1 base w' v' (bs++Strd.bytes i form a)∧Kept base (Tag 5) w w':=by
 obtain⟨p,cap,rfl⟩:=hO.shape
 have hfin:Strd.bytes i form a=[]:=by
  simp only[Strd.bytes]
  repeat rw[if_neg (by omega)]
 have k1:(i.op.kind==1)=false:=by simp;omega
 have k2:(i.op.kind==2)=false:=by simp;omega
 have k3:(i.op.kind==3)=false:=by simp;omega
 have k4:(i.op.kind==4)=false:=by simp;omega
 have k5:(i.op.kind==5)=false:=by simp;omega
 have k6:(i.op.kind==6)=false:=by simp;omega
 have k7:(i.op.kind==7)=false:=by simp;omega
 have k8:(i.op.kind==8)=false:=by simp;omega
 have k9:(i.op.kind==9)=false:=by simp;omega
 have k10:(i.op.kind==10)=false:=by simp;omega
 rw[hfin]
 have HB:=QB hB
 clear hk hB hO hfin
 go_enter Tryz.func41,Tryz.ntmps41
 go_wp2
 go_ret
 exact⟨v,rfl,by simpa using (QA HB).below (QF _ _),.of_below (QF _ _)⟩
theorem Append_c (i:Strd.Ins) (vo v:Value) (form a:Int) (w:World) (base:Nat) (bs:Strd.Bs) (hO:QS w vo i.oprs) (hB:Q1 base w v bs) (hb:base≤w.heap.size) (hl:bs.length≤2^38) (hf:WfA i) (ha:-2^40≤a∧a≤2^40) :
  Calls Tryz.prog 41 #[.agg #[.int .i64 i.op.kind,.int .i64 i.op.base,.int .i64 i.op.number,.int .i64 i.op.first,.int .i64 i.op.last,vo],v,.int .i64 form,.int .i64 a] w fun e w'=>∃v',e=.returned v'∧Q1 base w' v' (bs++Strd.bytes i form a)∧Kept base (Tag 5) w w':=by
 by_cases k1:i.op.kind=1
 ·exact Append_plain i vo v form a w base bs hO hB hb hl k1
 by_cases k2:i.op.kind=2
 ·exact Append_pair i vo v form a w base bs hO hB hb hl hf k2
 by_cases k3:i.op.kind=3
 ·exact Append_quick i vo v form a w base bs hO hB hb hl hf k3
 by_cases k4:i.op.kind=4∨i.op.kind=5∨i.op.kind=6
 ·exact Append_jumps i vo v form a w base bs hO hB hb hl hf ha k4
 by_cases k7:i.op.kind=7
 ·exact Append_words i vo v form a w base bs hO hB hb hl hf k7
 by_cases k8:i.op.kind=8
 ·exact Append_bytes i vo v form a w base bs hO hB hb hl hf k8
 by_cases k9:i.op.kind=9∨i.op.kind=10
 ·exact Append_zeros i vo v form a w base bs hO hB hb hl hf ha k9
 ·exact Append_none i vo v form a w base bs hO hB (by omega)
end Go.Proofs.YtegiloiojloaoaaGreatDoor
