/- Contracts of package code: a far jump's bytes; the bytes of plain instructions. -/
import Derived.Test.YtegiloiojloaoaaGreatDoorCSpec
import Derived.Test.YtegiloiojloaoaaGreatDoorCCode5
import Derived.Test.YtegiloiojloaoaaGreatDoorCZeros
set_option linter.unusedVariables false
set_option linter.unusedSimpArgs false
set_option maxHeartbeats 2000000
namespace Go.Proofs.YtegiloiojloaoaaGreatDoor
open Go.RowKit
theorem kbox {base:Nat} {W w1:World} {b:Nat} {cs:Array Value} {t:TypeId} (hk:Kept base (Tag 5) W w1) (hb:W.heap[b]? = some (.cells cs t (0,0))) (ht:t≠5) :
  w1.heap[b]? = some (.cells cs t (0,0)):=by
 rw[hk.block b (Array.getElem?_eq_some_iff.1 hb).1 (.inr fun o ho hd=>by rw[hb]at ho;cases ho;obtain⟨_,_,h⟩:=hd;cases h;exact ht rfl)]
 exact hb
theorem bbox {W w1:World} {b:Nat} {o:Obj} (hk:Below W.heap.size W w1) (hb:W.heap[b]? = some o):w1.heap[b]? = some o:=by
 rw[hk.block b (Array.getElem?_eq_some_iff.1 hb).1];exact hb
theorem QC {W:World} {b:Nat} {cs:Array Value} {t:TypeId} (hb:W.heap[b]? = some (.cells cs t (0,0))):∀j,W.cell? ⟨b,j,none⟩=cs[j]?:=fun j=>by simp[World.cell?,hb]
theorem QH (w:World) (o:Obj):(w.alloc o).heap[w.heap.size]? = some o:=by
 show (w.heap.push o)[w.heap.size]? = _
 simp
theorem box_new_d (w:World) (o:Obj):(w.alloc o).drew.heap[w.heap.size]? = some o:=QH w o
structure WfA (i:Strd.Ins):Prop where
 two:i.op.kind=2∨i.op.kind=3∨i.op.kind=4→2≤i.oprs.length
 one:i.op.kind=5∨i.op.kind=6∨i.op.kind=9∨i.op.kind=10→1≤i.oprs.length
 pow:i.op.kind=10→Strd.isPow (Strd.num i 0)=true
 space:i.op.kind=9→0≤Strd.num i 0∧Strd.num i 0≤1024
 nums:∀o∈i.oprs,-2^32≤o.num∧o.num≤2^32
 len:i.oprs.length≤8
 base:0≤i.op.base∧i.op.base≤65535
 number:0≤i.op.number∧i.op.number<16
theorem WfA.num {i:Strd.Ins} (h:WfA i) (k:Nat):-2^32≤Strd.num i k∧Strd.num i k≤2^32:=by
 unfold Strd.num
 by_cases hk:k<i.oprs.length
 ·rw[gD,gE hk]
  exact h.nums _ (List.getElem_mem hk)
 ·rw[gD,List.getElem?_eq_none (by omega)]
  exact⟨by decide,by decide⟩
theorem appendFarJump_c (i:Strd.Ins) (vo v:Value) (form:Int) (w:World) (base:Nat) (bs:Strd.Bs) (hO:QS w vo i.oprs) (hl1:1≤i.oprs.length) (hB:Q1 base w v bs) (hb:base≤w.heap.size) (hl:bs.length≤2^38)
  (h0:-2^40≤Strd.num i 0∧Strd.num i 0≤2^40) (hbs:0≤i.op.base∧i.op.base≤65535) :
  Calls Tryz.prog 70 #[.agg #[.int .i64 i.op.kind,.int .i64 i.op.base,.int .i64 i.op.number,.int .i64 i.op.first,.int .i64 i.op.last,vo],v,.int .i64 form] w fun e w'=>∃v',e=.returned v'∧Q1 base w' v' (bs++Strd.farBytes i form)∧Kept base (Tag 5) w w':=by
 obtain⟨p,cap,rfl⟩:=hO.shape
 have hO0:QS (w.alloc (.cells #[.int .i64 i.op.kind,.int .i64 i.op.base,.int .i64 i.op.number,.int .i64 i.op.first,.int .i64 i.op.last,.slice p i.oprs.length cap] 97)).drew (.slice p i.oprs.length cap) i.oprs:=hO.below (QW (QF _ _))
 have hB0:Q1 base (w.alloc (.cells #[.int .i64 i.op.kind,.int .i64 i.op.base,.int .i64 i.op.number,.int .i64 i.op.first,.int .i64 i.op.last,.slice p i.oprs.length cap] 97)).drew v bs:=hB.below (QW (QF _ _))
 have hK0:Kept base (Tag 5) w (w.alloc (.cells #[.int .i64 i.op.kind,.int .i64 i.op.base,.int .i64 i.op.number,.int .i64 i.op.first,.int .i64 i.op.last,.slice p i.oprs.length cap] 97)).drew:=.of_below (QW (QF _ _))
 have hS0:base≤(w.alloc (.cells #[.int .i64 i.op.kind,.int .i64 i.op.base,.int .i64 i.op.number,.int .i64 i.op.first,.int .i64 i.op.last,.slice p i.oprs.length cap] 97)).drew.heap.size:=by simp;omega
 have HX0:=QB (box_new_d w (.cells #[.int .i64 i.op.kind,.int .i64 i.op.base,.int .i64 i.op.number,.int .i64 i.op.first,.int .i64 i.op.last,.slice p i.oprs.length cap] 97))
 clear hO hB
 by_cases f1:form=1
 ·subst f1
  go_enter Tryz.func70,Tryz.ntmps70
  go_wp2
  go_region_with (first
   |(go_at_call 67;refine(number_c i _ _ _ (by omega) (by omega) ?_).mono ?_;assumption;rintro e w1 ⟨rfl,hb1⟩;obtain⟨hc1,hf1⟩:=bcell hb1;have hO1:=QS.below (by assumption) hb1;have hB1:=Q1.below (base:=base) (by assumption) hb1;have hK1:Kept base (Tag 5) w w1:=Kept.trans (by assumption) (.of_below hb1);have hS1:base≤w1.heap.size:=Nat.le_trans (by assumption) hb1.size;have HX1:=QB (bbox hb1 (QA (by assumption))))
   |(go_at_call 66;refine(appendWord_c _ _ _ base _ (by assumption) (by assumption) (by first|omega|(simp[len_word];omega))).mono ?_;rintro e w1 ⟨v1,rfl,hB1,hk1⟩;have hO1:=QS.keptB (by assumption) hk1;have hK1:Kept base (Tag 5) w w1:=Kept.trans (by assumption) hk1;have hS1:base≤w1.heap.size:=Nat.le_trans (by assumption) hk1.size;have HX1:=QB (kbox hk1 (QA (by assumption)) (by decide));have hcc:=QC (QA HX1)))
  all_goals go_wp2
  all_goals go_ret
  all_goals refine⟨v1,rfl,?_,by assumption⟩
  all_goals simpa [Strd.farBytes] using hB1
 ·have e1:(form==1)=false:=by simp[f1]
  have F1:=QB f1
  clear f1
  go_enter Tryz.func70,Tryz.ntmps70
  go_wp2
  go_region_with (first
   |(go_at_call 67;refine(number_c i _ _ _ (by omega) (by omega) ?_).mono ?_;assumption;rintro e w1 ⟨rfl,hb1⟩;obtain⟨hc1,hf1⟩:=bcell hb1;have hO1:=QS.below (by assumption) hb1;have hB1:=Q1.below (base:=base) (by assumption) hb1;have hK1:Kept base (Tag 5) w w1:=Kept.trans (by assumption) (.of_below hb1);have hS1:base≤w1.heap.size:=Nat.le_trans (by assumption) hb1.size)
   |(go_at_call 103;refine(appendLongJump_c _ _ _ _ base _ (by assumption) (by assumption) (by omega) (by omega) (by omega)).mono ?_;rintro e w2 ⟨v2,rfl,hB2,hk2⟩;have hK2:Kept base (Tag 5) w w2:=Kept.trans (by assumption) hk2))
  all_goals go_wp2
  all_goals go_ret
  all_goals refine⟨v2,rfl,?_,by assumption⟩
  all_goals simpa [Strd.farBytes,QA F1] using hB2
end Go.Proofs.YtegiloiojloaoaaGreatDoor
namespace Go.Proofs.YtegiloiojloaoaaGreatDoor
open Go.RowKit
variable {P:Program}
theorem QP {fn:Func} {p q:Tmp} {ty:TypeId} (h:fn.results=#[.cell p ty,.tmp q]) (tmps:Array Value) (w:World) (g:Nat) (t:TypeId) (cs:Array Value) (fr:Nat×Nat) (d:TypeDesc)
  (hp:tmps.getD p undef=.pointer (some ⟨g,0,none⟩)) (hg:w.heap[g]? = some (.cells cs t fr))
  (hu:P.underlying ty=some d) (hd:(match d with|.struct _|.array _ _=>true|_=>false)=true) (hi:(P.info? ty).map (·.size)=some cs.size) :
  (results fn tmps).run P w=.ok (.tuple #[.agg cs,tmps.getD q undef]) w:=by
 have hp':tmps[p]?.getD undef=.pointer (some ⟨g,0,none⟩):=by simpa using hp
 simp[results,h,hp',asAddr,run_loadVar_row w g t ty cs fr d hg hu hd hi]
theorem Q6 {fn:Func} {p q r:Tmp} {ty:TypeId} (h:fn.results=#[.cell p ty,.tmp q,.tmp r]) (tmps:Array Value) (w:World) (g:Nat) (t:TypeId) (cs:Array Value) (fr:Nat×Nat) (d:TypeDesc)
  (hp:tmps.getD p undef=.pointer (some ⟨g,0,none⟩)) (hg:w.heap[g]? = some (.cells cs t fr))
  (hu:P.underlying ty=some d) (hd:(match d with|.struct _|.array _ _=>true|_=>false)=true) (hi:(P.info? ty).map (·.size)=some cs.size) :
  (results fn tmps).run P w=.ok (.tuple #[.agg cs,tmps.getD q undef,tmps.getD r undef]) w:=by
 have hp':tmps[p]?.getD undef=.pointer (some ⟨g,0,none⟩):=by simpa using hp
 simp[results,h,hp',asAddr,run_loadVar_row w g t ty cs fr d hg hu hd hi]
theorem ZJ {w:World} {g:Nat} {cur cs:Array Value} {t:TypeId} (h:w.heap[g]? = some (.cells cur t (0,0))):(w.setRow g cs).heap[g]? = some (.cells cs t (0,0)):=setRow_heap w g cur _ t _ h
theorem QT {B:Nat} {a w:World} (h:Below B a w) {g:Nat} (hg:B≤g) (cs:Array Value):Below B a (w.setRow g cs):=
 h.trans ⟨rfl,rfl,rfl,by simp[World.setRow],fun k hk=>setRow_other w g k _ (by omega)⟩
theorem ZC {W:World} {b:Nat} {cs:Array Value} {t:TypeId} (hb:W.heap[b]? = some (.cells cs t (0,0))):∀j,W.frozen? ⟨b,j,none⟩=false:=fun j=>by simp[World.frozen?,hb]
theorem tolist_data (s:ByteArray):s.toList=s.data.toList:=ByteArray.toList_eq s
theorem op_one (a b c d e:Int):(#[Value.int .i64 a,.int .i64 b,.int .i64 c,.int .i64 d,.int .i64 e]).all (·.oneCell')=true:=by simp[Value.oneCell']
theorem ins_one (a b c d e:Int) (p:Option Addr) (n m:Nat):(#[Value.int .i64 a,.int .i64 b,.int .i64 c,.int .i64 d,.int .i64 e,.slice p n m]).all (·.oneCell')=true:=by simp[Value.oneCell']
theorem QD {W:World} {b:Nat} {o:Obj} (h:W.heap[b]? = some o):b<W.heap.size:=(Array.getElem?_eq_some_iff.1 h).1
end Go.Proofs.YtegiloiojloaoaaGreatDoor
