/- The contracts of Kind.Roles, read.readOperand. -/
import Derived.Test.YtegiloiojloaoaaGreatDoorCSpec
import Derived.Test.YtegiloiojloaoaaGreatDoorCRepeat
import Derived.Test.YtegiloiojloaoaaGreatDoorCWords
set_option linter.unusedVariables false
set_option linter.unusedSimpArgs false
set_option maxHeartbeats 2000000
namespace Go.Proofs.YtegiloiojloaoaaGreatDoor
open Go.RowKit Go.Shelf
def ZO (e:TypeId) (base:Nat) (w:World) (v:Value) (xs:List Int):Prop:=w.ownsRow base e 1 v xs.length (xs.map (Value.int .i64))
theorem ints_new (e:TypeId) (w:World) (xs:List Int) (h:xs.length≤1000):ZO e w.heap.size (w.alloc (.cells (xs.map (Value.int .i64)).toArray e)) (.slice (some ⟨w.heap.size,0,none⟩) xs.length xs.length) xs:=
 ⟨by simp,.inr ⟨w.heap.size,xs.length,_,rfl,Nat.le_refl _,QH _ _,Nat.le_refl _,by unfold maxLen;omega,by simp,by simp[List.take_of_length_le]⟩⟩
theorem ZO.at {e:TypeId} {base:Nat} {w:World} {p:Option Addr} {n cap:Nat} {xs:List Int} (h:ZO e base w (.slice p n cap) xs) (i:Nat) (hi:i<xs.length) :
  ∃b,p=some ⟨b,0,none⟩∧n=xs.length∧b<w.heap.size∧w.cell? ⟨b,i,none⟩=some (.int .i64 xs[i]):=by
 obtain⟨b,hp,hn,_,hb,hc⟩:=ownsRow_cell h (by omega)
 exact⟨b,hp,hn,hb,hc _ _ (by rw[List.getElem?_map,gE hi];rfl)⟩
theorem ZO.shape {e:TypeId} {base:Nat} {w:World} {v:Value} {xs:List Int} (h:ZO e base w v xs):∃p cap,v=.slice p xs.length cap:=by
 rcases h.2 with ⟨rfl,h0⟩|⟨g,cap,cur,rfl,_⟩
 ·exact⟨none,0,by rw[h0]⟩
 ·exact⟨_,_,rfl⟩
theorem Repeat_i (x:Int) (b:Nat) (w:World) (h1:1≤x) (h8:x≤8) (hb:b<w.heap.size) (hc:w.cell? ⟨b,0,none⟩=some (.int .i64 3)) :
  Calls Tryz.prog 125 #[.slice (some ⟨b,0,none⟩) 1 1,.int .i64 x] w fun e w'=>∃v,e=.returned v∧w'.ownsRow w.heap.size 160 1 v x.toNat (List.replicate x.toNat (.int .i64 3))∧Below w.heap.size w w':=by
 have h:=Repeat_c x.toNat b (by omega) (by omega) w hb hc
 rwa[Int.toNat_of_nonneg (by omega)]at h
theorem ints_le {e:TypeId} {base base':Nat} {w:World} {v:Value} {xs:List Int} (h:ZO e base w v xs) (hb:base'≤base):ZO e base' w v xs:=by
 obtain⟨q1,q2⟩:=h
 refine⟨q1,q2.imp id ?_⟩
 rintro ⟨g,cap,cur,h1,h2,h3⟩
 exact⟨g,cap,cur,h1,by omega,h3⟩
theorem Roles_c (k:Int) (n:Nat) (w:World) (hn:n≤2^40) :
  Calls Tryz.prog 87 #[.int .i64 k,.int .i64 (n:Int)] w fun e w'=>∃v,e=.returned v∧ZO 160 w.heap.size w' v (Strd.roles k n)∧Below w.heap.size w w':=by
 generalize hR:Strd.roles k n=R
 have HR:=QB hR
 clear hR
 by_cases hD:k=7∨k=8
 ·have hRR:R=List.replicate (min (max n 1) 8) 3:=by rw[←QA HR];rcases hD with rfl|rfl <;> rfl
  have k2:(k==2)=false:=by simp;omega
  have k3:(k==3)=false:=by simp;omega
  have k4:(k==4)=false:=by simp;omega
  have k5:(k==5)=false:=by simp;omega
  have k6:(k==6)=false:=by simp;omega
  have hx:(min (max (n:Int) 1) 8).toNat=min (max n 1) 8:=by omega
  have Hx:=QB hx
  have HRR:=QB hRR
  have hkk:(k==7)=true∨((k==7)=false∧(k==8)=true):=by rcases hD with h|h <;> simp[h]
  clear hD hRR hx
  rcases hkk with k7|⟨k7,k8⟩
  all_goals
   go_enter Tryz.func87,Tryz.ntmps87
   go_wp2_with fail
   refine(Repeat_i _ _ _ (by omega) (by omega) (by simp) (by simp)).mono ?_
   rintro e w1 ⟨v1,rfl,hown,hb1⟩
   go_wp2
   go_ret
   refine⟨v1,rfl,?_,below_at hb1⟩
   rw[QA HRR]
   have h1:ZO 160 (w.alloc (.cells #[.int .i64 3] 160)).heap.size w1 v1 (List.replicate (min (max n 1) 8) 3):=by
    show World.ownsRow _ _ _ _ _ _ _
    rw[QA Hx]at hown
    rw[List.length_replicate,List.map_replicate]
    exact hown
   exact ints_le h1 (by simp)
 ·have k7:(k==7)=false:=by simp;omega
  have k8:(k==8)=false:=by simp;omega
  have HD:=QB hD
  clear hD
  go_enter Tryz.func87,Tryz.ntmps87
  go_wp2
  all_goals go_ret
  all_goals have hD:=QA HD
  all_goals simp only[beq_iff_eq,beq_eq_false_iff_ne]at *
  all_goals first
   |(obtain rfl:R=[]:=(by rw[←QA HR];unfold Strd.roles;repeat rw[if_neg (by omega)]);exact⟨_,rfl,World.ownsRow_nil _ _ _ _,Below.refl _ _⟩)
   |(obtain rfl:R=[0,0]:=(by rw[←QA HR];simp[Strd.roles, *]);exact⟨_,rfl,ints_new _ _ [0,0] (by decide),QF _ _⟩)
   |(obtain rfl:R=[1,0]:=(by rw[←QA HR];simp[Strd.roles, *]);exact⟨_,rfl,ints_new _ _ [1,0] (by decide),QF _ _⟩)
   |(obtain rfl:R=[3]:=(by rw[←QA HR];simp[Strd.roles, *]);exact⟨_,rfl,ints_new _ _ [3] (by decide),QF _ _⟩)
   |(obtain rfl:R=[2]:=(by rw[←QA HR];simp[Strd.roles, *]);exact⟨_,rfl,ints_new _ _ [2] (by decide),QF _ _⟩)
theorem opr_one (s:ByteArray) (n:Int):(#[Value.string s,.int .i64 n]).all (·.oneCell')=true:=by simp[Value.oneCell']
theorem strip_eq (l p:Strd.Bs):Strd.stripPrefix l p=if Lib.hasPrefix l p then some (Lib.trimPrefix l p) else none:=by
 unfold Strd.stripPrefix Lib.trimPrefix Lib.hasPrefix
 by_cases h:p.isPrefixOf l=true
 ·rw[if_pos h,if_pos h,if_pos h]
 ·rw[if_neg h,if_neg h]
theorem trimPrefix_len (l p:Strd.Bs):(Lib.trimPrefix l p).length≤l.length:=by
 unfold Lib.trimPrefix;split
 ·rw[List.length_drop];omega
 ·exact Nat.le_refl _
theorem ropr_no (r:Int) (l:Strd.Bs) (h1:¬(r=3∧Strd.ZT l=true)) (h2:Lib.hasPrefix l (Strd.mark r)=false):Strd.QR r l=none:=by
 unfold Strd.QR;rw[if_neg h1,strip_eq,h2];rfl
theorem ropr_dig (r:Int) (l:Strd.Bs) (h1:¬(r=3∧Strd.ZT l=true)) (h2:Lib.hasPrefix l (Strd.mark r)=true) (h3:r=0) (h4:Strd.isDigit1 (Lib.trimPrefix l (Strd.mark r))=false):Strd.QR r l=none:=by
 unfold Strd.QR;rw[if_neg h1,strip_eq,h2];simp only[if_true];rw[if_pos ⟨h3,h4⟩]
theorem ropr_num (r:Int) (l:Strd.Bs) (h1:¬(r=3∧Strd.ZT l=true)) (h2:Lib.hasPrefix l (Strd.mark r)=true) (h3:¬(r=0∧Strd.isDigit1 (Lib.trimPrefix l (Strd.mark r))=false)):Strd.QR r l=(Strd.number (Lib.trimPrefix l (Strd.mark r))).map fun n=>⟨[],n⟩:=by
 unfold Strd.QR;rw[if_neg h1,strip_eq,h2];simp only[if_true];rw[if_neg h3]
theorem readOperand_c (r:Int) (s:ByteArray) (w:World) (h0:0≤r) (h4:r<4) (hs:s.size≤2^40) (hT:Tabs w) :
  Calls Tryz.prog 178 #[.int .i64 r,.string s] w fun e w'=>∃o:Strd.Opr,e=.returned (.tuple #[.agg #[.string (bstr o.name),.int .i64 o.num],.bool (Strd.QR r s.data.toList).isSome])∧(∀o',Strd.QR r s.data.toList=some o'→o'=o)∧Below w.heap.size w w':=by
 have hl:s.size=s.data.toList.length:=ZY s
 generalize hRO:Strd.QR r s.data.toList=RO
 have HRO:=QB hRO
 have Hl:=QB hl
 have HT:=QB hT
 clear hRO hT hl
 by_cases hA:r=3∧Strd.ZT s.data.toList=true
 ·have hfin:RO=some ⟨s.data.toList,0⟩:=by rw[←QA HRO];unfold Strd.QR;rw[if_pos hA]
  obtain⟨rfl,hnm⟩:=hA
  have Hnm:=QB hnm
  have Hfin:=QB hfin
  clear hnm hfin
  go_enter Tryz.func178,Tryz.ntmps178
  go_wp2_with fail
  refine(isName_c _ _ hs).mono ?_
  rintro e w1 ⟨rfl,hb1⟩
  rw[QA Hnm]
  have Hbx:=QB (bbox hb1 (QH w (.cells #[.string ⟨#[]⟩,.int .i64 0] 136)))
  go_wp2_with (refine wpList_store_row rfl 136 (.tmp 4) (.tmp 17) rfl w.heap.size #[.string s,.int .i64 0] rfl rfl 136 #[.string ⟨#[]⟩,.int .i64 0] (by exact QA Hbx) (by kernel_rfl) rfl (opr_one _ _) ?_)
  refine bodyPost_ret (v:=.tuple #[.agg #[.string s,.int .i64 0],.bool true]) (by exact QP Tryz.results178 _ _ w.heap.size 136 _ _ _ rfl (by exact ZJ (QA Hbx)) Tryz.underlying136 rfl (by kernel_rfl)) rfl ?_
  refine⟨⟨s.data.toList,0⟩,by rw[QA Hfin,bstr_of];rfl,fun o' ho'=>?_,QT (below_at hb1) (Nat.le_refl _) _⟩
  rw[QA Hfin]at ho'
  exact(Option.some.inj ho').symm
 ·have HA:=QB hA
  have hsp:(r==3)=false∨((r==3)=true∧Strd.ZT s.data.toList=false):=by
   by_cases h3:r=3
   ·right
    refine⟨by simp[h3],?_⟩
    cases hn:Strd.ZT s.data.toList
    ·rfl
    ·exact absurd ⟨h3,hn⟩ hA
   ·left;simp[h3]
  clear hA
  have key:∀W:World,Below w.heap.size w W→W.heap[w.heap.size]? = some (.cells #[.string ⟨#[]⟩,.int .i64 0] 136 (0,0))→Tabs W:=fun W hW _=>(QA HT).below hW
  have Hkey:=QB key
  clear key
  rcases hsp with h3|⟨h3,hnm⟩
  ·go_enter Tryz.func178,Tryz.ntmps178
   go_wp2_with fail
   obtain⟨W,hW⟩:∃W,W=w.alloc (.cells #[.string ⟨#[]⟩,.int .i64 0] 136):=⟨_,rfl⟩
   rw[←hW]
   have hbW:Below w.heap.size w W:=by rw[hW];exact QF _ _
   have Hbx:=QB (show W.heap[w.heap.size]? = some (.cells #[.string ⟨#[]⟩,.int .i64 0] 136 (0,0)) by rw[hW];exact QH _ _)
   clear hW
   refine(Mark_c r _ h0 h4 ((QA HT).below hbW)).mono ?_
   rintro e w' ⟨rfl,hw⟩
   rw[hw]
   clear hw
   go_wp2_with fail
   refine(Tryz.strings_CutPrefix _ _ _).mono ?_
   rintro e w' ⟨rfl,hw⟩
   rw[hw,Q4]
   clear hw
   cases hpx:Lib.hasPrefix s.data.toList (Strd.mark r)
   ·have hfin:RO=none:=by rw[←QA HRO];exact ropr_no r _ (QA HA) hpx
    clear hpx
    obtain rfl:RO=none:=hfin
    go_wp2_with (refine wpList_store_row rfl 136 (.tmp 4) (.tmp 36) rfl w.heap.size #[.string ⟨#[]⟩,.int .i64 0] rfl rfl 136 #[.string ⟨#[]⟩,.int .i64 0] (by exact QA Hbx) (by kernel_rfl) rfl (opr_one _ _) ?_)
    refine bodyPost_ret (v:=.tuple #[.agg #[.string ⟨#[]⟩,.int .i64 0],.bool false]) (by exact QP Tryz.results178 _ _ w.heap.size 136 _ _ _ rfl (by exact ZJ (QA Hbx)) Tryz.underlying136 rfl (by kernel_rfl)) rfl ?_
    exact⟨⟨[],0⟩,rfl,fun o' ho'=>(by cases ho'),QT hbW (Nat.le_refl _) _⟩
   ·have Hpx:=QB hpx
    clear hpx
    by_cases hr0:r=0
    ·have hr1:(r==0)=true:=by simp[hr0]
     have Hr0:=QB hr0
     clear hr0
     go_wp2_with fail
     refine(isDigit_c _ _ (by have:=trimPrefix_len s.data.toList (Strd.mark r);rw[←QA Hl]at this;rw[ZA];exact Nat.le_trans this hs)).mono ?_
     rintro e w' ⟨rfl,hw⟩
     rw[hw,Q4]
     clear hw
     cases hdg:Strd.isDigit1 (Lib.trimPrefix s.data.toList (Strd.mark r))
     ·have hfin:RO=none:=by rw[←QA HRO];exact ropr_dig r _ (QA HA) (QA Hpx) (QA Hr0) hdg
      clear hdg
      obtain rfl:RO=none:=hfin
      go_wp2_with (refine wpList_store_row rfl 136 (.tmp 4) (.tmp 36) rfl w.heap.size #[.string ⟨#[]⟩,.int .i64 0] rfl rfl 136 #[.string ⟨#[]⟩,.int .i64 0] (by exact QA Hbx) (by kernel_rfl) rfl (opr_one _ _) ?_)
      refine bodyPost_ret (v:=.tuple #[.agg #[.string ⟨#[]⟩,.int .i64 0],.bool false]) (by exact QP Tryz.results178 _ _ w.heap.size 136 _ _ _ rfl (by exact ZJ (QA Hbx)) Tryz.underlying136 rfl (by kernel_rfl)) rfl ?_
      exact⟨⟨[],0⟩,rfl,fun o' ho'=>(by cases ho'),QT hbW (Nat.le_refl _) _⟩
     ·have Hdg:=QB hdg
      clear hdg
      have hfin:RO=(Strd.number (Lib.trimPrefix s.data.toList (Strd.mark r))).map fun n=>⟨[],n⟩:=by rw[←QA HRO];exact ropr_num r _ (QA HA) (QA Hpx) (fun h=>by rw[QA Hdg]at h;cases h.2)
      have Hfin:=QB hfin
      clear hfin
      go_wp2_with fail
      refine(number_r _ _ (by have:=trimPrefix_len s.data.toList (Strd.mark r);rw[←QA Hl]at this;rw[ZA];exact Nat.le_trans this hs)).mono ?_
      rintro e w2 ⟨rfl,hb2⟩
      rw[Q4]
      generalize Strd.number (Lib.trimPrefix s.data.toList (Strd.mark r))=N at Hfin
      have Hbx2:=QB (bbox hb2 (QA Hbx))
      go_wp2_with (refine wpList_store_row rfl 136 (.tmp 4) (.tmp 43) rfl w.heap.size #[.string ⟨#[]⟩,.int .i64 (N.getD 0)] rfl rfl 136 #[.string ⟨#[]⟩,.int .i64 0] (by exact QA Hbx2) (by kernel_rfl) rfl (opr_one _ _) ?_)
      refine bodyPost_ret (v:=.tuple #[.agg #[.string ⟨#[]⟩,.int .i64 (N.getD 0)],.bool N.isSome]) (by exact QP Tryz.results178 _ _ w.heap.size 136 _ _ _ rfl (by exact ZJ (QA Hbx2)) Tryz.underlying136 rfl (by kernel_rfl)) rfl ?_
      refine⟨⟨[],N.getD 0⟩,by rw[QA Hfin,Option.isSome_map],fun o' ho'=>?_,QT (QE hbW hb2) (Nat.le_refl _) _⟩
      rw[QA Hfin]at ho'
      cases N with
      |none=>cases ho'
      |some n=>exact(Option.some.inj ho').symm
    ·have hr1:(r==0)=false:=by simp[hr0]
     have Hr0:=QB hr0
     clear hr0
     have hfin:RO=(Strd.number (Lib.trimPrefix s.data.toList (Strd.mark r))).map fun n=>⟨[],n⟩:=by rw[←QA HRO];exact ropr_num r _ (QA HA) (QA Hpx) (fun h=>QA Hr0 h.1)
     have Hfin:=QB hfin
     clear hfin
     go_wp2_with fail
     refine(number_r _ _ (by have:=trimPrefix_len s.data.toList (Strd.mark r);rw[←QA Hl]at this;rw[ZA];exact Nat.le_trans this hs)).mono ?_
     rintro e w2 ⟨rfl,hb2⟩
     rw[Q4]
     generalize Strd.number (Lib.trimPrefix s.data.toList (Strd.mark r))=N at Hfin
     have Hbx2:=QB (bbox hb2 (QA Hbx))
     go_wp2_with (refine wpList_store_row rfl 136 (.tmp 4) (.tmp 43) rfl w.heap.size #[.string ⟨#[]⟩,.int .i64 (N.getD 0)] rfl rfl 136 #[.string ⟨#[]⟩,.int .i64 0] (by exact QA Hbx2) (by kernel_rfl) rfl (opr_one _ _) ?_)
     refine bodyPost_ret (v:=.tuple #[.agg #[.string ⟨#[]⟩,.int .i64 (N.getD 0)],.bool N.isSome]) (by exact QP Tryz.results178 _ _ w.heap.size 136 _ _ _ rfl (by exact ZJ (QA Hbx2)) Tryz.underlying136 rfl (by kernel_rfl)) rfl ?_
     refine⟨⟨[],N.getD 0⟩,by rw[QA Hfin,Option.isSome_map],fun o' ho'=>?_,QT (QE hbW hb2) (Nat.le_refl _) _⟩
     rw[QA Hfin]at ho'
     cases N with
     |none=>cases ho'
     |some n=>exact(Option.some.inj ho').symm
  ·have Hnm:=QB hnm
   clear hnm
   go_enter Tryz.func178,Tryz.ntmps178
   go_wp2_with fail
   refine(isName_c _ _ hs).mono ?_
   rintro e W ⟨rfl,hb1⟩
   rw[QA Hnm]
   have hbW:Below w.heap.size w W:=below_at hb1
   have Hbx:=QB (bbox hb1 (QH w (.cells #[.string ⟨#[]⟩,.int .i64 0] 136)))
   clear hb1
   go_wp2_with fail
   refine(Mark_c r _ h0 h4 ((QA HT).below hbW)).mono ?_
   rintro e w' ⟨rfl,hw⟩
   rw[hw]
   clear hw
   go_wp2_with fail
   refine(Tryz.strings_CutPrefix _ _ _).mono ?_
   rintro e w' ⟨rfl,hw⟩
   rw[hw,Q4]
   clear hw
   cases hpx:Lib.hasPrefix s.data.toList (Strd.mark r)
   ·have hfin:RO=none:=by rw[←QA HRO];exact ropr_no r _ (QA HA) hpx
    clear hpx
    obtain rfl:RO=none:=hfin
    go_wp2_with (refine wpList_store_row rfl 136 (.tmp 4) (.tmp 36) rfl w.heap.size #[.string ⟨#[]⟩,.int .i64 0] rfl rfl 136 #[.string ⟨#[]⟩,.int .i64 0] (by exact QA Hbx) (by kernel_rfl) rfl (opr_one _ _) ?_)
    refine bodyPost_ret (v:=.tuple #[.agg #[.string ⟨#[]⟩,.int .i64 0],.bool false]) (by exact QP Tryz.results178 _ _ w.heap.size 136 _ _ _ rfl (by exact ZJ (QA Hbx)) Tryz.underlying136 rfl (by kernel_rfl)) rfl ?_
    exact⟨⟨[],0⟩,rfl,fun o' ho'=>(by cases ho'),QT hbW (Nat.le_refl _) _⟩
   ·have Hpx:=QB hpx
    clear hpx
    by_cases hr0:r=0
    ·have hr1:(r==0)=true:=by simp[hr0]
     have Hr0:=QB hr0
     clear hr0
     go_wp2_with fail
     refine(isDigit_c _ _ (by have:=trimPrefix_len s.data.toList (Strd.mark r);rw[←QA Hl]at this;rw[ZA];exact Nat.le_trans this hs)).mono ?_
     rintro e w' ⟨rfl,hw⟩
     rw[hw,Q4]
     clear hw
     cases hdg:Strd.isDigit1 (Lib.trimPrefix s.data.toList (Strd.mark r))
     ·have hfin:RO=none:=by rw[←QA HRO];exact ropr_dig r _ (QA HA) (QA Hpx) (QA Hr0) hdg
      clear hdg
      obtain rfl:RO=none:=hfin
      go_wp2_with (refine wpList_store_row rfl 136 (.tmp 4) (.tmp 36) rfl w.heap.size #[.string ⟨#[]⟩,.int .i64 0] rfl rfl 136 #[.string ⟨#[]⟩,.int .i64 0] (by exact QA Hbx) (by kernel_rfl) rfl (opr_one _ _) ?_)
      refine bodyPost_ret (v:=.tuple #[.agg #[.string ⟨#[]⟩,.int .i64 0],.bool false]) (by exact QP Tryz.results178 _ _ w.heap.size 136 _ _ _ rfl (by exact ZJ (QA Hbx)) Tryz.underlying136 rfl (by kernel_rfl)) rfl ?_
      exact⟨⟨[],0⟩,rfl,fun o' ho'=>(by cases ho'),QT hbW (Nat.le_refl _) _⟩
     ·have Hdg:=QB hdg
      clear hdg
      have hfin:RO=(Strd.number (Lib.trimPrefix s.data.toList (Strd.mark r))).map fun n=>⟨[],n⟩:=by rw[←QA HRO];exact ropr_num r _ (QA HA) (QA Hpx) (fun h=>by rw[QA Hdg]at h;cases h.2)
      have Hfin:=QB hfin
      clear hfin
      go_wp2_with fail
      refine(number_r _ _ (by have:=trimPrefix_len s.data.toList (Strd.mark r);rw[←QA Hl]at this;rw[ZA];exact Nat.le_trans this hs)).mono ?_
      rintro e w2 ⟨rfl,hb2⟩
      rw[Q4]
      generalize Strd.number (Lib.trimPrefix s.data.toList (Strd.mark r))=N at Hfin
      have Hbx2:=QB (bbox hb2 (QA Hbx))
      go_wp2_with (refine wpList_store_row rfl 136 (.tmp 4) (.tmp 43) rfl w.heap.size #[.string ⟨#[]⟩,.int .i64 (N.getD 0)] rfl rfl 136 #[.string ⟨#[]⟩,.int .i64 0] (by exact QA Hbx2) (by kernel_rfl) rfl (opr_one _ _) ?_)
      refine bodyPost_ret (v:=.tuple #[.agg #[.string ⟨#[]⟩,.int .i64 (N.getD 0)],.bool N.isSome]) (by exact QP Tryz.results178 _ _ w.heap.size 136 _ _ _ rfl (by exact ZJ (QA Hbx2)) Tryz.underlying136 rfl (by kernel_rfl)) rfl ?_
      refine⟨⟨[],N.getD 0⟩,by rw[QA Hfin,Option.isSome_map],fun o' ho'=>?_,QT (QE hbW hb2) (Nat.le_refl _) _⟩
      rw[QA Hfin]at ho'
      cases N with
      |none=>cases ho'
      |some n=>exact(Option.some.inj ho').symm
    ·have hr1:(r==0)=false:=by simp[hr0]
     have Hr0:=QB hr0
     clear hr0
     have hfin:RO=(Strd.number (Lib.trimPrefix s.data.toList (Strd.mark r))).map fun n=>⟨[],n⟩:=by rw[←QA HRO];exact ropr_num r _ (QA HA) (QA Hpx) (fun h=>QA Hr0 h.1)
     have Hfin:=QB hfin
     clear hfin
     go_wp2_with fail
     refine(number_r _ _ (by have:=trimPrefix_len s.data.toList (Strd.mark r);rw[←QA Hl]at this;rw[ZA];exact Nat.le_trans this hs)).mono ?_
     rintro e w2 ⟨rfl,hb2⟩
     rw[Q4]
     generalize Strd.number (Lib.trimPrefix s.data.toList (Strd.mark r))=N at Hfin
     have Hbx2:=QB (bbox hb2 (QA Hbx))
     go_wp2_with (refine wpList_store_row rfl 136 (.tmp 4) (.tmp 43) rfl w.heap.size #[.string ⟨#[]⟩,.int .i64 (N.getD 0)] rfl rfl 136 #[.string ⟨#[]⟩,.int .i64 0] (by exact QA Hbx2) (by kernel_rfl) rfl (opr_one _ _) ?_)
     refine bodyPost_ret (v:=.tuple #[.agg #[.string ⟨#[]⟩,.int .i64 (N.getD 0)],.bool N.isSome]) (by exact QP Tryz.results178 _ _ w.heap.size 136 _ _ _ rfl (by exact ZJ (QA Hbx2)) Tryz.underlying136 rfl (by kernel_rfl)) rfl ?_
     refine⟨⟨[],N.getD 0⟩,by rw[QA Hfin,Option.isSome_map],fun o' ho'=>?_,QT (QE hbW hb2) (Nat.le_refl _) _⟩
     rw[QA Hfin]at ho'
     cases N with
     |none=>cases ho'
     |some n=>exact(Option.some.inj ho').symm
end Go.Proofs.YtegiloiojloaoaaGreatDoor
