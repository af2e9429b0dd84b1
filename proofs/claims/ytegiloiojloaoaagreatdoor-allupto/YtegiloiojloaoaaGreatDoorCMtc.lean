/- The contract of matchable, an iterator; the contract of Match, which ranges over it. -/
import Derived.Test.YtegiloiojloaoaaGreatDoorCSpec
import Derived.Test.YtegiloiojloaoaaGreatDoorCBac1
import Derived.RangeFuncNested
import Derived.RangeFuncBound
import Derived.RangeFuncCalls
import Derived.RangeFuncLeaves
import Derived.Shelf.Abstract
import Derived.Shelf.RegionOpen
import Derived.WalkKit
import Derived.OwnWalkIn
import Derived.TacticsInMore
import Derived.LoopNIn
import Derived.LoopIn
import Derived.Deep.RegionHeld3
import Derived.Test.YtegiloiojloaoaaGreatDoorCBld
set_option linter.unusedVariables false
set_option linter.unusedSimpArgs false
set_option maxHeartbeats 4000000
set_option maxRecDepth 100000
namespace Go.Proofs.YtegiloiojloaoaaGreatDoor
open Go.RowKit Go.Shelf Go.Sort Go.Maps
attribute [local go_sem] Oper.semAt_some
abbrev MOp:={o:Strd.Op // o∈Strd.ZL}
def mops:List MOp:=Strd.ZL.attach
theorem mops_len:mops.length=44:=by unfold mops;rw[List.length_attach];rfl
theorem mops_map:mops.map Subtype.val=Strd.ZL:=by unfold mops;rw[List.attach_map_subtype_val]
abbrev opV (o:Strd.Op):Value:=.agg #[.int .i64 o.kind,.int .i64 o.base,.int .i64 o.number,.int .i64 o.first,.int .i64 o.last]
theorem mops_get {k:Nat} {o:Strd.Op} (h:k<mops.length) (e:Strd.ZL[k]? = some o):(mops[k]).1=o:=by
 have:(mops.map Subtype.val)[k]? = some o:=by rw[mops_map];exact e
 rw[List.getElem?_map,gE h]at this
 exact Option.some.inj this
def opT (o:Strd.Op):Int×Int×Int×Int×Int:=(o.kind,o.base,o.number,o.first,o.last)
theorem opT_some {x:Option Strd.Op} {k b n f l:Int} (h:x.map opT=some (k,b,n,f,l)):x=some ⟨k,b,n,f,l⟩:=by
 cases x with
 |none=>cases h
 |some o=>cases o;simp only[Option.map_some,opT,Option.some.injEq,Prod.mk.injEq]at h;obtain⟨rfl,rfl,rfl,rfl,rfl⟩:=h;rfl
theorem fixed_all:∀j:Fin 8,Strd.ZL[j.1]?.map opT=some ((Strd.fixedWords.getD j.1 ([],0,0)).2.1,(Strd.fixedWords.getD j.1 ([],0,0)).2.2,0,0,0)∧(Strd.fixedWords.getD j.1 ([],0,0)).2.1<7:=by decide +kernel
theorem mops_fixed (j:Nat) (h:j<8) (wd:Strd.Bs) (kd bs:Int) (hr:Strd.fixedWords.getD j ([],0,0)=(wd,kd,bs)):(mops[j]'(by rw[mops_len];omega)).1=⟨kd,bs,0,0,0⟩∧kd<7:=by
 have:=fixed_all ⟨j,h⟩
 simp only[hr]at this
 exact⟨mops_get _ (opT_some this.1),this.2⟩
theorem late_all:∀j:Fin 13,8≤j.1→¬(Strd.fixedWords.getD j.1 ([],0,0)).2.1<7:=by decide +kernel
theorem fixed_late (j:Nat) (h8:8≤j) (h:j<13) (wd:Strd.Bs) (kd bs:Int) (hr:Strd.fixedWords.getD j ([],0,0)=(wd,kd,bs)):¬kd<7:=by
 have:=late_all ⟨j,h⟩ h8
 simp only[hr]at this
 exact this
theorem jump_all:∀(n:Fin 16) (f:Fin 2),Strd.ZL[8+2*n.1+f.1]?.map opT=some ((5,0x6000+0x100*(n.1:Int),(n.1:Int),(f.1:Int),(f.1:Int)):Int×Int×Int×Int×Int):=by decide +kernel
theorem mops_jump (n f:Nat) (hn:n<16) (hf:f<2):(mops[8+2*n+f]'(by rw[mops_len];omega)).1=⟨5,0x6000+0x100*(n:Int),n,f,f⟩:=
 mops_get _ (opT_some (jump_all ⟨n,hn⟩ ⟨f,hf⟩))
theorem far_all:∀(j f:Fin 2),Strd.ZL[40+2*j.1+f.1]?.map opT=some ((6,(Strd.farWords.getD j.1 ([],0)).2,0,(f.1:Int)+1,(f.1:Int)+1):Int×Int×Int×Int×Int):=by decide +kernel
theorem mops_far (j f:Nat) (hj:j<2) (hf:f<2) (wd:Strd.Bs) (bs:Int) (hr:Strd.farWords.getD j ([],0)=(wd,bs)):(mops[40+2*j+f]'(by rw[mops_len];omega)).1=⟨6,bs,0,f+1,f+1⟩:=by
 have:=far_all ⟨j,hj⟩ ⟨f,hf⟩
 simp only[hr]at this
 exact mops_get _ (opT_some this)
theorem wpListIn_load_row {F:Fence} {nF:Nat} {P:Program} {ops:Array Oper} {rest:List Oper} {o:Oper} {a:Act} {w:World} {Q:Exit→Act→World→Prop} (hgd:o.guard=none) (ty:TypeId) (x:Operand) (ho:o.op=.load ty x)
  (g:Nat) (hx:a.eval x=.pointer (some ⟨g,0,none⟩)) (t:TypeId) (cs:Array Value) (fr:Nat×Nat) (d:TypeDesc) (hg:w.heap[g]? = some (.cells cs t fr))
  (hu:P.underlying ty=some d) (hd:(match d with|.struct _|.array _ _=>true|_=>false)=true) (hi:(P.info? ty).map (·.size)=some cs.size)
  (h:wpListIn F nF P ops Q rest (a.put o.dst (.agg cs)) w):wpListIn F nF P ops Q (o::rest) a w:=by
 refine wpListIn_plain hgd fun K' hK'=>?_
 unfold Oper.wpIn
 refine⟨by simp[Oper.about,ho],?_⟩
 rw[Oper.semAt_plain F _ _ (by rw[ho];intro c hc';cases hc')]
 simp only[execOp,ho,hx,Instr.loadAt,Instr.sureAddr,Sem.run_bind,Sem.run_pure,Result.andThen_ok,run_loadVar_row w g t ty cs fr d hg hu hd hi]
 exact hK' _ _ h
theorem grown_below {w w':World} (h:Below w.heap.size w w'):w.grownBy w' none:=⟨h.os,h.tape,h.output,h.size,fun k hk _=>h.block k hk⟩
structure KpC (n₀:Nat) (W W':World):Prop where
 below:Below n₀ W W'
 cells:∀(k:Nat) cs t fr,W.heap[k]? = some (Obj.cells cs t fr)→W'.heap[k]? = some (Obj.cells cs t fr)
theorem KpC.trans {n₀:Nat} {A B C:World} (h:KpC n₀ A B) (k:KpC n₀ B C):KpC n₀ A C:=⟨h.below.trans k.below,fun i cs t fr e=>k.cells i cs t fr (h.cells i cs t fr e)⟩
theorem KpC.book {n₀:Nat} {w:World} (hn:n₀≤w.heap.size) (W:World) (l:Nat) (o o':Obj) (hl:w.heap.size≤l) (h:W.heap[l]? = some o) (hc:o.isCells=false) (hw:o.isWalk=false):KpC n₀ W (W.putObj l o'):=
 ⟨belowK_b hn W l o o' hl h hc hw,fun k cs t fr e=>(World.putObj_heap_other (fun e2=>by subst e2;rw[h]at e;cases e;cases hc)).trans e⟩
theorem KpC.of_below {n₀:Nat} {W W':World} (hn:n₀≤W.heap.size) (h:Below W.heap.size W W'):KpC n₀ W W':=
 ⟨h.mono hn,fun k cs t fr e=>(h.block k (Array.getElem?_eq_some_iff.1 e).1).trans e⟩
theorem matchable_stops (n n₀:Nat) (hn1:1≤n) (w:World) (h11:11≤n₀) (hn:n₀≤w.heap.size) {tu:Bool} (hT:TabsX tu w) :
  SeqStopsK Fence.wide n Tryz.prog 130 #[] (fun x:MOp=>#[opV x.1]) (KpC n₀) (fun ys=>ys=mops) (fun pre=>pre <+: mops) 44 w:=fun l J Jx W hW hJ _ hY h0=>by
 have hJb:∀s A B,J s A→Below A.heap.size A B→J s B:=fun s A B h hb=>hJ s A B none h (grown_below hb) (fun r e=>by cases e)
 have hstep:∀k (hk:k<mops.length) W1,J (mops.take k) W1→YieldAt Fence.wide (n-1) Tryz.prog l #[opV (mops[k]).1] W1 fun e W'=>(e=.returned (.bool true)∧J (mops.take (k+1)) W'∧KpC n₀ W1 W')∨(e=.returned (.bool false)∧Jx (mops.take (k+1)) W'):=fun k hk W1 h=>by
  have:=hY (mops.take k) mops[k] W1 h (by rw[List.length_take];rw[mops_len]at hk;omega)
  rw[List.take_succ_eq_append_getElem hk]
  exact this
 have Hstep:=QB hstep
 have HJb:=QB hJb
 have hnW:n₀≤W.heap.size:=Nat.le_trans hn hW.size
 have hTW:=hT.below hW
 obtain⟨tf,ff,hgf⟩:=hTW.fixed
 obtain⟨tr,fr,hgr⟩:=hTW.far
 have Hgr:=QB hgr
 clear hY hJ hstep hJb hT hTW hgr
 refine callsIn_of_wp Tryz.func130 rfl trivial ?_ rfl
 simp only[Tryz.ntmps130,List.size_toArray,List.length_cons,List.length_nil,Nat.reduceAdd,Nat.reduceSub,Array.replicate_succ,Array.replicate_zero,List.push_toArray,List.append_toArray,List.nil_append,List.cons_append]
 gi_wp2_with (refine wpListIn_load_row rfl 189 _ rfl 2 rfl tf _ ff _ hgf Tryz.underlying189 rfl (by kernel_rfl) ?_)
 gi_loopw [10] (fun c wr=>∃j:Nat,j≤13∧c=.int .i64 j∧J (mops.take (min j 8)) wr∧Below n₀ W wr) (fun c _=>13-(intOf c).toNat)
 case atStart=>exact⟨0,by omega,rfl,by simpa using h0,Below.refl _ _⟩
 case round=>
  obtain⟨j,hj,rfl,hJr,hbl⟩:=hrel
  have HJr:=QB hJr
  clear hJr
  by_cases hlt:j<13
  ·have hix:=fixed_index j hlt
   obtain⟨wd,kd,bs,hrow⟩:∃wd kd bs,Strd.fixedWords.getD j ([],0,0)=(wd,kd,bs):=⟨_,_,_,rfl⟩
   rw[hrow]at hix
   have Hrow:=QB hrow
   clear hrow
   have hwr:n₀≤wr.heap.size:=Nat.le_trans hnW hbl.size
   have hba:Below n₀ wr (wr.alloc (.cells #[.string (bstr wd),.int .i64 kd,.int .i64 bs] 188)):=(QF wr _).mono hwr
   have hJa:=QA HJb _ _ _ (QA HJr) (QF wr (.cells #[.string (bstr wd),.int .i64 kd,.int .i64 bs] 188))
   by_cases h8:j<8
   ·obtain⟨hop,hk7⟩:=mops_fixed j h8 wd kd bs (QA Hrow)
    rw[Nat.min_eq_left (by omega)]at hJa
    obtain⟨fn,tmps,assign,body,hy,hR⟩:=QA Hstep j (by rw[mops_len];omega) _ hJa
    rw[hop]at hy
    clear hop hJa
    gi_wp2
    refine hR.mono ?_
    rintro e W3 (⟨rfl,hJ3,hk3⟩|⟨rfl,hJx3⟩)
    ·have HJ3:=QB hJ3
     clear hJ3
     gi_wp2
     go_roundw
     case rel=>exact⟨j+1,by omega,by go_num,by rw[Nat.min_eq_left (by omega)];exact QA HJ3,hbl.trans (hba.trans hk3.below)⟩
     case measure=>simp[intOf];omega
    ·gi_wp2
     refine bodyPost_ret (results_none rfl _ _ _) rfl ?_
     exact⟨⟨_,rfl⟩,.inr ⟨_,List.take_prefix _ _,hJx3⟩⟩
   ·have hk7:=fixed_late j (by omega) hlt wd kd bs (QA Hrow)
    have HJa:=QB hJa
    clear hJa
    gi_wp2
    refine⟨fun _ h=>(by cases h),?_⟩
    gi_wp2
    go_roundw
    case rel=>exact⟨j+1,by omega,by go_num,by have:=QA HJa;rw[Nat.min_eq_right (by omega)]at this ⊢;exact this,hbl.trans hba⟩
    case measure=>simp[intOf];omega
  ·obtain rfl:j=13:=by omega
   clear hlt hj
   simp only[show ((13:Nat):Int)=13 from rfl]
   gi_wp2
   gi_loopw [27] (fun c wq=>∃m:Nat,m≤16∧c=.int .i64 m∧J (mops.take (8+2*m)) wq∧Below n₀ W wq) (fun c _=>16-(intOf c).toNat)
   case atStart=>exact⟨0,by omega,rfl,QA HJr,hbl⟩
   case round=>
    obtain⟨m,hm,rfl,hJr2,hbl2⟩:=hrel
    have HJ2:=QB hJr2
    clear hJr2
    by_cases hlt:m<16
    ·have hltI:(m:Int)<16:=by omega
     gi_wp2
     gi_loopw [5] (fun c wq=>∃f:Nat,f≤2∧c=.int .i64 f∧J (mops.take (8+2*m+f)) wq∧Below n₀ W wq) (fun c _=>2-(intOf c).toNat)
     case atStart=>exact⟨0,by omega,rfl,QA HJ2,hbl2⟩
     case round=>
      obtain⟨f,hf,rfl,hJr3,hbl3⟩:=hrel
      have HJ3:=QB hJr3
      clear hJr3
      by_cases hlf:f<2
      ·have hfI:(f:Int)≤1:=by omega
       gi_wp2_with (refine⟨trivial,?_⟩;gi_at_call 128;refine(callsIn_wide.2 (jumpOp_c m f f _ ⟨by omega,by omega⟩)).mono ?_;rintro e wj ⟨rfl,hbj⟩;(obtain⟨fn,tmps,assign,body,hy,hR⟩:=QA Hstep (8+2*m+f) (by rw[mops_len];omega) _ (QA HJb _ _ _ (QA HJ3) hbj));rw[mops_jump m f hlt hlf]at hy)
       refine hR.mono ?_
       rintro e W3 (⟨rfl,hJ4,hk3⟩|⟨rfl,hJx3⟩)
       ·have HJ4:=QB hJ4
        clear hJ4
        have hbf:Below n₀ W W3:=hbl3.trans ((hbj.mono (Nat.le_trans hnW hbl3.size)).trans hk3.below)
        gi_wp2
        go_roundw
        case rel=>exact⟨f+1,by omega,by go_num,QA HJ4,hbf⟩
        case measure=>simp[intOf];omega
       ·gi_wp2
        refine bodyPost_ret (results_none rfl _ _ _) rfl ?_
        exact⟨⟨_,rfl⟩,.inr ⟨_,List.take_prefix _ _,hJx3⟩⟩
      ·obtain rfl:f=2:=by omega
       gi_wp2
       go_roundw
       case rel=>exact⟨m+1,by omega,by go_num,QA HJ3,hbl3⟩
       case measure=>simp[intOf];omega
    ·obtain rfl:m=16:=by omega
     have hgr:=(hbl2.block 1 (show 1<_ by omega)).trans (QA Hgr)
     clear hlt hm
     simp only[show ((16:Nat):Int)=16 from rfl]
     gi_wp2_with (refine wpListIn_load_row rfl 187 _ rfl 1 rfl tr _ fr _ hgr Tryz.underlying187 rfl (by kernel_rfl) ?_)
     gi_loopw [43] (fun c wq=>∃j:Nat,j≤2∧c=.int .i64 j∧J (mops.take (40+2*j)) wq∧Below n₀ W wq) (fun c _=>2-(intOf c).toNat)
     case atStart=>exact⟨0,by omega,rfl,QA HJ2,hbl2⟩
     case round=>
      obtain⟨j,hj,rfl,hJr4,hbl4⟩:=hrel
      have HJ5:=QB hJr4
      clear hJr4
      by_cases hlt:j<2
      ·have hltI:(j:Int)<2:=by omega
       have hix:=far_index j hlt
       obtain⟨wd,bs,hrow⟩:∃wd bs,Strd.farWords.getD j ([],0)=(wd,bs):=⟨_,_,rfl⟩
       rw[hrow]at hix
       have Hrow:=QB hrow
       clear hrow
       have hwr:n₀≤wr.heap.size:=Nat.le_trans hnW hbl4.size
       have hba:Below n₀ wr (wr.alloc (.cells #[.string (bstr wd),.int .i64 bs] 186)):=(QF wr _).mono hwr
       have HJa:=QB (QA HJb _ _ _ (QA HJ5) (QF wr (.cells #[.string (bstr wd),.int .i64 bs] 186)))
       have Hbx:=QB (QH wr (.cells #[.string (bstr wd),.int .i64 bs] 186))
       gi_wp2
       gi_loopw [8] (fun c wq=>∃f:Nat,f≤2∧c=.int .i64 ((f:Int)+1)∧J (mops.take (40+2*j+f)) wq∧Below n₀ W wq∧wq.heap[wr.heap.size]? = some (.cells #[.string (bstr wd),.int .i64 bs] 186)) (fun c _=>3-(intOf c).toNat)
       case atStart=>exact⟨0,by omega,rfl,QA HJa,hbl4.trans hba,QA Hbx⟩
       case round=>
        obtain⟨f,hf,rfl,hJr6,hbl6,hbx6⟩:=hrel
        have HJ6:=QB hJr6
        have Hbx6:=QB hbx6
        clear hJr6 hbx6
        by_cases hlf:f<2
        ·have hfI:(f:Int)+1≤2:=by omega
         have z1:=QC (QA Hbx6) 1
         simp only[gA,gZ,gS]at z1
         have hlz:=QD (QA Hbx6)
         gi_wp2_with (refine⟨trivial,?_⟩;gi_at_call 129;refine(callsIn_wide.2 (farJumpOp_c bs ((f:Int)+1) ((f:Int)+1) _)).mono ?_;rintro e wj ⟨rfl,hbj⟩;(obtain⟨fn,tmps,assign,body,hy,hR⟩:=QA Hstep (40+2*j+f) (by rw[mops_len];omega) _ (QA HJb _ _ _ (QA HJ6) hbj));rw[mops_far j f hlt hlf wd bs (QA Hrow)]at hy)
         refine hR.mono ?_
         rintro e W3 (⟨rfl,hJ7,hk3⟩|⟨rfl,hJx3⟩)
         ·have HJ7:=QB hJ7
          clear hJ7
          have hbf:Below n₀ W W3:=hbl6.trans ((hbj.mono (Nat.le_trans hnW hbl6.size)).trans hk3.below)
          have Hbx7:=QB (hk3.cells _ _ _ _ (bbox hbj (QA Hbx6)))
          gi_wp2
          go_roundw
          case rel=>exact⟨f+1,by omega,by go_num,QA HJ7,hbf,QA Hbx7⟩
          case measure=>simp[intOf];omega
         ·gi_wp2
          refine bodyPost_ret (results_none rfl _ _ _) rfl ?_
          exact⟨⟨_,rfl⟩,.inr ⟨_,List.take_prefix _ _,hJx3⟩⟩
        ·obtain rfl:f=2:=by omega
         gi_wp2
         go_roundw
         case rel=>exact⟨j+1,by omega,by go_num,QA HJ6,hbl6⟩
         case measure=>simp[intOf];omega
      ·obtain rfl:j=2:=by omega
       have Hall:Hid (J mops wr):=QB (by have:=QA HJ5;rwa[List.take_of_length_le (by rw[mops_len];omega)]at this)
       gi_wp2
       go_end0
       exact⟨⟨_,rfl⟩,.inl ⟨_,rfl,QA Hall⟩⟩
end Go.Proofs.YtegiloiojloaoaaGreatDoor
namespace Go.Proofs.YtegiloiojloaoaaGreatDoor
open Go.RowKit Go.Shelf Go.Sort Go.Maps
theorem uponIn_of {P:Program} {r n:Nat} {o:Oper} {a:Act} {K K':Act→World→Prop} {Q:Exit→Act→World→Prop} (hK:∀a w,K a w→K' a w) (x:Result Next) (h:o.upon P a K Q x):o.uponIn (Fence.wide.inRound r) n P a K' Q x:=by
 unfold Oper.upon at h
 split at h
 ·exact hK _ _ h
 ·exact hK _ _ h
 ·exact hK _ _ h
 ·refine⟨fun e=>(by cases e),?_⟩
  refine CallsIn.inRound r (callsIn_wide.2 (h.mono fun e w' he=>?_))
  cases e with
  |returned v=>exact hK _ _ he
  |panicked c=>exact he
  |outgrown=>exact he
 ·refine⟨fun e=>(by cases e),fun c cs _=>?_⟩
  obtain⟨v,w',hv,hs⟩:=h c cs
  exact⟨v,w',hK _ _ hv,stepsIn_wide.2 hs⟩
 ·exact h
 ·exact h.elim
theorem wpOpsIn_of {P:Program} {r n:Nat} {ops:Array Oper} {Q:Exit→Act→World→Prop} (hd:∀(i:Nat) (o:Oper),ops[i]? = some o→∀c,o.op≠.defer c) (hL:¬LetsOut Q):∀(l:List Nat) (a:Act) (w:World),wpOps P ops Q l a w→wpOpsIn (Fence.wide.inRound r) n P ops Q l a w
 |[],_,_,h=>h
 |i::l,a,w,h=>by
  unfold wpOps at h
  unfold wpOpsIn
  cases ho:ops[i]? with
  |none=>rw[ho]at h;exact wpOpsIn_of hd hL l a w h
  |some o=>
   rw[ho]at h
   simp only at h ⊢
   split
   ·rename_i hw
    rw[if_pos hw]at h
    rcases h with h|h
    ·refine⟨fun _ _=>trivial,?_⟩
     rw[Oper.semAt_plain _ _ _ (hd i o ho)]
     exact uponIn_of (fun a w h=>wpOpsIn_of hd hL l a w h) _ h
    ·exact(hL h.2).elim
   ·rename_i hw
    rw[if_neg hw]at h
    exact⟨fun _ _=>trivial,wpOpsIn_of hd hL l _ w h⟩
theorem wpIn_region_held {P:Program} {r n id:Nat} {ops:Array Oper} {Q:Exit→Act→World→Prop} {S:World→Prop} {a:Act} {w:World} (hd:∀(i:Nat) (o:Oper),ops[i]? = some o→∀c,o.op≠.defer c) (hL:¬LetsOut Q) (hm:P.follows .mixedOrders=true) (hS:S w.drew)
  (h:S w.drew→wpAnyH P .any ops Q S ops.size (Array.replicate ops.size false) a w.drew):(Code.region id ops true).wpIn (Fence.wide.inRound r) n P Q a w:=
 wpIn_region_draw fun t=>by
  simp only[Region.schedule,hm,Bool.true_or,if_true]
  exact wpOpsIn_of hd hL _ _ _ (wpAny_sound ops.size t _ a _ (wpAny_of_held _ _ _ _ (h hS)))
abbrev m2o0:Oper:={ dst:=some 9,op:=Op.load 94 (Operand.tmp 6),type:=94,pos := "match.go:8",after:=#[],guard:=none }
abbrev m2o1:Oper:={ dst:=some 10,op:=Op.load 94 (Operand.tmp 6),type:=94,pos := "match.go:8",after:=#[],guard:=none }
abbrev m2o2:Oper:={ dst:=some 11,op:=Op.load 9 (Operand.tmp 2),type:=9,pos := "match.go:8",after:=#[],guard:=none }
abbrev m2o3:Oper:={ dst:=some 12,op:=Op.load 3 (Operand.tmp 3),type:=3,pos := "match.go:8",after:=#[],guard:=none }
abbrev m2o4:Oper:={ dst:=some 13,op:=Op.call { callee:=Callee.value (Operand.func 131),args:=#[Operand.tmp 10,Operand.tmp 11,Operand.tmp 12],argTypes:=#[94,9,3] },type:=95,pos := "match.go:8",after:=#[{ on:=1,ground:=Ground.data },{ on:=2,ground:=Ground.data },{ on:=3,ground:=Ground.data }],guard:=none }
abbrev m2o5:Oper:={ dst:=some 14,op:=Op.build 97 #[(0,Operand.tmp 9),(1,Operand.tmp 13)],type:=97,pos := "match.go:8",after:=#[{ on:=0,ground:=Ground.data },{ on:=4,ground:=Ground.data }],guard:=none }
abbrev m2o6:Oper:={ dst:=some 7,op:=Op.alloc 97,type:=0,pos := "match.go:8",after:=#[],guard:=none }
abbrev m2o7:Oper:={ dst:=none,op:=Op.store 97 (Operand.tmp 7) (Operand.tmp 14),type:=0,pos := "match.go:8",after:=#[{ on:=6,ground:=Ground.data },{ on:=5,ground:=Ground.data },{ on:=4,ground:=Ground.chain },{ on:=0,ground:=Ground.phase },{ on:=1,ground:=Ground.phase },{ on:=2,ground:=Ground.phase },{ on:=3,ground:=Ground.phase },{ on:=4,ground:=Ground.phase },{ on:=5,ground:=Ground.phase },{ on:=6,ground:=Ground.phase }],guard:=none }
abbrev m2ops:Array Oper:=#[m2o0,m2o1,m2o2,m2o3,m2o4,m2o5,m2o6,m2o7]
theorem m2_plain:∀(i:Nat) (o:Oper),m2ops[i]? = some o→∀c,o.op≠.defer c:=fun i o h c hc=>by
 have:o∈m2ops:=Array.mem_of_getElem? h
 simp only[m2ops,List.mem_toArray,List.mem_cons,List.not_mem_nil,or_false]at this
 rcases this with rfl|rfl|rfl|rfl|rfl|rfl|rfl|rfl <;> cases hc
def OnlyN (R:Act→World→Prop):Exit→Act→World→Prop
 |.normal,a,w=>R a w
 |_,_,_=>False
theorem onlyN_out {R:Act→World→Prop}:¬LetsOut (OnlyN R):=fun ⟨_,_,h⟩=>h
theorem region2_c (o:Strd.Op) (ho:o∈Strd.ZL) (b:Strd.Bs) (ad:Int) (hl:b.length≤2^40) (ha:-2^31≤ad∧ad≤2^31) (r n B0 B1 R0 R1 Bx:Nat) (v0 v1 v8:Value) (W:World)
  (h0:W.heap[B0]? = some (.cells #[.string (bstr b)] 9 (0,0))) (h1:W.heap[B1]? = some (.cells #[.int .i64 ad] 3 (0,0))) (hx:W.heap[Bx]? = some (.cells #[.int .i64 o.kind,.int .i64 o.base,.int .i64 o.number,.int .i64 o.first,.int .i64 o.last] 94 (0,0))) :
  (Code.region 2 m2ops true).wpIn (Fence.wide.inRound r) n Tryz.prog (OnlyN fun a' W'=>∃Bi p c,W.heap.size≤Bi∧Below W.heap.size W W'∧W'.heap[Bi]? = some (.cells #[.int .i64 o.kind,.int .i64 o.base,.int .i64 o.number,.int .i64 o.first,.int .i64 o.last,.slice p (QX (Strd.QK o b ad)).length c] 97 (0,0))∧QS W' (.slice p (QX (Strd.QK o b ad)).length c) (QX (Strd.QK o b ad)) ∧
   a'={ tmps:=#[v0,v1,.pointer (some ⟨B0,0,none⟩),.pointer (some ⟨B1,0,none⟩),.pointer (some ⟨R0,0,none⟩),.pointer (some ⟨R1,0,none⟩),.pointer (some ⟨Bx,0,none⟩),.pointer (some ⟨Bi,0,none⟩),v8,opV o,opV o,.string (bstr b),.int .i64 ad,.slice p (QX (Strd.QK o b ad)).length c,.agg #[.int .i64 o.kind,.int .i64 o.base,.int .i64 o.number,.int .i64 o.first,.int .i64 o.last,.slice p (QX (Strd.QK o b ad)).length c],undef,undef,undef,undef,undef,undef],defers:=[] })
   { tmps:=#[v0,v1,.pointer (some ⟨B0,0,none⟩),.pointer (some ⟨B1,0,none⟩),.pointer (some ⟨R0,0,none⟩),.pointer (some ⟨R1,0,none⟩),.pointer (some ⟨Bx,0,none⟩),undef,v8,undef,undef,undef,undef,undef,undef,undef,undef,undef,undef,undef,undef],defers:=[] } W:=by
 refine wpIn_region_held (S:=fun X=>X.heap[B0]? = some (.cells #[.string (bstr b)] 9 (0,0))∧X.heap[B1]? = some (.cells #[.int .i64 ad] 3 (0,0))∧X.heap[Bx]? = some (.cells #[.int .i64 o.kind,.int .i64 o.base,.int .i64 o.number,.int .i64 o.first,.int .i64 o.last] 94 (0,0))) m2_plain onlyN_out (by kernel_rfl) ⟨h0,h1,hx⟩ (fun hHeld=>?_)
 refine wpAnyH_take (i:=0) (oi:=m2o0) (v:=opV o) rfl (by kernel_rfl) (by kernel_rfl) (by kernel_rfl) (fun _ _ _ h=>h) (Or.inl ⟨by rfl,?_⟩) (by assumption) ?_
 ·(intro w' hSw;obtain⟨s0,s1,s2⟩:=hSw;have z0:=QC s2 0;have z1:=QC s2 1;have z2:=QC s2 2;have z3:=QC s2 3;have z4:=QC s2 4;simp only[gA,gZ,gS]at z0 z1 z2 z3 z4;go_simp)
 (try simp only[Act.put,List.setIfInBounds_toArray,List.set_cons_zero,List.set_cons_succ])
 refine wpAnyH_take (i:=1) (oi:=m2o1) (v:=opV o) rfl (by kernel_rfl) (by kernel_rfl) (by kernel_rfl) (fun _ _ _ h=>h) (Or.inl ⟨by rfl,?_⟩) (by assumption) ?_
 ·(intro w' hSw;obtain⟨s0,s1,s2⟩:=hSw;have z0:=QC s2 0;have z1:=QC s2 1;have z2:=QC s2 2;have z3:=QC s2 3;have z4:=QC s2 4;simp only[gA,gZ,gS]at z0 z1 z2 z3 z4;go_simp)
 (try simp only[Act.put,List.setIfInBounds_toArray,List.set_cons_zero,List.set_cons_succ])
 refine wpAnyH_take (i:=2) (oi:=m2o2) (v:=.string (bstr b)) rfl (by kernel_rfl) (by kernel_rfl) (by kernel_rfl) (fun _ _ _ h=>h) (Or.inl ⟨by rfl,?_⟩) (by assumption) ?_
 ·(intro w' hSw;obtain⟨s0,s1,s2⟩:=hSw;have z0:=QC s0 0;simp only[gA,gZ]at z0;go_simp)
 (try simp only[Act.put,List.setIfInBounds_toArray,List.set_cons_zero,List.set_cons_succ])
 refine wpAnyH_take (i:=3) (oi:=m2o3) (v:=.int .i64 ad) rfl (by kernel_rfl) (by kernel_rfl) (by kernel_rfl) (fun _ _ _ h=>h) (Or.inl ⟨by rfl,?_⟩) (by assumption) ?_
 ·(intro w' hSw;obtain⟨s0,s1,s2⟩:=hSw;have z0:=QC s1 0;simp only[gA,gZ]at z0;go_simp)
 (try simp only[Act.put,List.setIfInBounds_toArray,List.set_cons_zero,List.set_cons_succ])
 refine wpAnyH_ready (rs:=[4,6]) (by kernel_rfl) (by simp) ?_
 refine AllReadyH.cons (o:=m2o4) rfl (fun K hK=>?_) ?_
 ·go_simp
  refine(operandsIn_c o ho b ad W.drew hl (by omega)).mono ?_
  rintro e wo ⟨vo,rfl,hO,hbo⟩
  obtain⟨p,c,rfl⟩:=hO.shape
  have hbW:Below W.heap.size W wo:=QE (QW (Below.refl _ W)) hbo
  dsimp only
  refine hK.out _ _ ?_ (fun hHeld=>?_)
  ·exact⟨bbox hbW h0,bbox hbW h1,bbox hbW hx⟩
  clear hK K
  (try simp only[Act.put,List.setIfInBounds_toArray,List.set_cons_zero,List.set_cons_succ])
  refine wpAnyH_take (i:=5) (oi:=m2o5) (v:=.agg #[.int .i64 o.kind,.int .i64 o.base,.int .i64 o.number,.int .i64 o.first,.int .i64 o.last,.slice p (QX (Strd.QK o b ad)).length c]) rfl (by kernel_rfl) (by kernel_rfl) (by kernel_rfl) (fun _ _ _ h=>h) (Or.inl ⟨by rfl,?_⟩) (by assumption) ?_
  ·(intro w' hSw;obtain⟨s0,s1,s2⟩:=hSw;go_simp)
  (try simp only[Act.put,List.setIfInBounds_toArray,List.set_cons_zero,List.set_cons_succ])
  refine wpAnyH_ready (rs:=[6]) (by kernel_rfl) (by simp) ?_
  refine AllReadyH.cons (o:=m2o6) rfl (fun K hK=>?_) AllReadyH.nil
  go_simp
  have hbA:=QE hbW (QF wo (.cells #[.int .i64 0,.int .i64 0,.int .i64 0,.int .i64 0,.int .i64 0,.slice none 0 0] 97))
  have hxA:=QH wo (.cells #[.int .i64 0,.int .i64 0,.int .i64 0,.int .i64 0,.int .i64 0,.slice none 0 0] 97)
  refine hK.out _ _ ?_ (fun hHeld=>?_)
  ·exact⟨bbox hbA h0,bbox hbA h1,bbox hbA hx⟩
  clear hK K
  (try simp only[Act.put,List.setIfInBounds_toArray,List.set_cons_zero,List.set_cons_succ])
  refine wpAnyH_ready (rs:=[7]) (by kernel_rfl) (by simp) ?_
  refine AllReadyH.cons (o:=m2o7) rfl (fun K hK=>?_) AllReadyH.nil
  rw[if_pos (show Region.wanted m2o7 _=true from rfl)]
  refine wp_store_row 97 (.tmp 7) (.tmp 14) rfl wo.heap.size #[.int .i64 o.kind,.int .i64 o.base,.int .i64 o.number,.int .i64 o.first,.int .i64 o.last,.slice p (QX (Strd.QK o b ad)).length c] rfl rfl 97 #[.int .i64 0,.int .i64 0,.int .i64 0,.int .i64 0,.int .i64 0,.slice none 0 0] hxA (by kernel_rfl) rfl (ins_one _ _ _ _ _ _ _ _) ?_
  have hbF:Below W.heap.size W _:=QT hbA hbW.size #[.int .i64 o.kind,.int .i64 o.base,.int .i64 o.number,.int .i64 o.first,.int .i64 o.last,.slice p (QX (Strd.QK o b ad)).length c]
  refine hK.out _ _ ?_ (fun hHeld=>?_)
  ·exact⟨bbox hbF h0,bbox hbF h1,bbox hbF hx⟩
  clear hK K
  (try simp only[Act.put,List.setIfInBounds_toArray,List.set_cons_zero,List.set_cons_succ])
  refine wpAnyH_done (by kernel_rfl) ?_ _
  exact⟨wo.heap.size,p,c,hbW.size,hbF,ZJ hxA,ZP (hO.below (QF wo (.cells #[.int .i64 0,.int .i64 0,.int .i64 0,.int .i64 0,.int .i64 0,.slice none 0 0] 97))) hxA (by decide),rfl⟩
 refine AllReadyH.cons (o:=m2o6) rfl (fun K hK=>?_) AllReadyH.nil
 go_simp
 have hbA:Below W.heap.size W _:=QE (QW (Below.refl _ W)) (QF W.drew (.cells #[.int .i64 0,.int .i64 0,.int .i64 0,.int .i64 0,.int .i64 0,.slice none 0 0] 97))
 have hxA:=QH W.drew (.cells #[.int .i64 0,.int .i64 0,.int .i64 0,.int .i64 0,.int .i64 0,.slice none 0 0] 97)
 refine hK.out _ _ ?_ (fun hHeld=>?_)
 ·exact⟨bbox hbA h0,bbox hbA h1,bbox hbA hx⟩
 clear hK K
 (try simp only[Act.put,List.setIfInBounds_toArray,List.set_cons_zero,List.set_cons_succ])
 refine wpAnyH_ready (rs:=[4]) (by kernel_rfl) (by simp) ?_
 refine AllReadyH.cons (o:=m2o4) rfl (fun K hK=>?_) ?_
 ·go_simp
  refine(operandsIn_c o ho b ad (W.drew.alloc (.cells #[.int .i64 0,.int .i64 0,.int .i64 0,.int .i64 0,.int .i64 0,.slice none 0 0] 97)) hl (by omega)).mono ?_
  rintro e wo ⟨vo,rfl,hO,hbo⟩
  obtain⟨p,c,rfl⟩:=hO.shape
  have hbW:Below W.heap.size W wo:=QE hbA hbo
  dsimp only
  refine hK.out _ _ ?_ (fun hHeld=>?_)
  ·exact⟨bbox hbW h0,bbox hbW h1,bbox hbW hx⟩
  clear hK K
  (try simp only[Act.put,List.setIfInBounds_toArray,List.set_cons_zero,List.set_cons_succ])
  refine wpAnyH_take (i:=5) (oi:=m2o5) (v:=.agg #[.int .i64 o.kind,.int .i64 o.base,.int .i64 o.number,.int .i64 o.first,.int .i64 o.last,.slice p (QX (Strd.QK o b ad)).length c]) rfl (by kernel_rfl) (by kernel_rfl) (by kernel_rfl) (fun _ _ _ h=>h) (Or.inl ⟨by rfl,?_⟩) (by assumption) ?_
  ·(intro w' hSw;obtain⟨s0,s1,s2⟩:=hSw;go_simp)
  (try simp only[Act.put,List.setIfInBounds_toArray,List.set_cons_zero,List.set_cons_succ])
  refine wpAnyH_ready (rs:=[7]) (by kernel_rfl) (by simp) ?_
  refine AllReadyH.cons (o:=m2o7) rfl (fun K hK=>?_) AllReadyH.nil
  rw[if_pos (show Region.wanted m2o7 _=true from rfl)]
  refine wp_store_row 97 (.tmp 7) (.tmp 14) rfl W.heap.size #[.int .i64 o.kind,.int .i64 o.base,.int .i64 o.number,.int .i64 o.first,.int .i64 o.last,.slice p (QX (Strd.QK o b ad)).length c] rfl rfl 97 #[.int .i64 0,.int .i64 0,.int .i64 0,.int .i64 0,.int .i64 0,.slice none 0 0] (bbox hbo hxA) (by kernel_rfl) rfl (ins_one _ _ _ _ _ _ _ _) ?_
  have hbF:Below W.heap.size W _:=QT hbW (Nat.le_refl _) #[.int .i64 o.kind,.int .i64 o.base,.int .i64 o.number,.int .i64 o.first,.int .i64 o.last,.slice p (QX (Strd.QK o b ad)).length c]
  refine hK.out _ _ ?_ (fun hHeld=>?_)
  ·exact⟨bbox hbF h0,bbox hbF h1,bbox hbF hx⟩
  clear hK K
  (try simp only[Act.put,List.setIfInBounds_toArray,List.set_cons_zero,List.set_cons_succ])
  refine wpAnyH_done (by kernel_rfl) ?_ _
  exact⟨W.heap.size,p,c,(Nat.le_refl _),hbF,ZJ (bbox hbo hxA),ZP hO (bbox hbo hxA) (by decide),rfl⟩
 exact AllReadyH.nil
end Go.Proofs.YtegiloiojloaoaaGreatDoor
namespace Go.Proofs.YtegiloiojloaoaaGreatDoor
open Go.RowKit Go.Shelf Go.Sort Go.Maps
attribute [local go_sem] Oper.semAt_some
abbrev mIns (b:Strd.Bs) (ad:Int) (x:MOp):Strd.Ins:=Strd.QQ x.1 (Strd.QK x.1 b ad)
theorem matchIns_mops (b:Strd.Bs) (ad:Int):Strd.matchIns b ad=(mops.map (mIns b ad)).find? fun i=>Strd.begins i b ad:=by
 unfold Strd.matchIns
 rw[←mops_map,List.map_map]
 rfl
theorem match_none {b:Strd.Bs} {ad:Int} (h:∀x∈mops,Strd.begins (mIns b ad x) b ad=false):Strd.matchIns b ad=none:=by
 rw[matchIns_mops,List.find?_eq_none]
 intro i hi
 obtain⟨x,hx,rfl⟩:=List.mem_map.1 hi
 rw[h x hx];decide
theorem match_some {b:Strd.Bs} {ad:Int} {q:List MOp} {x:MOp} (hp:q++[x] <+: mops) (hq:∀y∈q,Strd.begins (mIns b ad y) b ad=false) (hx:Strd.begins (mIns b ad x) b ad=true):Strd.matchIns b ad=some (mIns b ad x):=by
 obtain⟨t,ht⟩:=hp
 rw[matchIns_mops,←ht,List.append_assoc,List.map_append,List.find?_append,List.find?_eq_none.2,Option.none_or,List.singleton_append,List.map_cons,List.find?_cons_of_pos (by exact hx)]
 intro i hi
 obtain⟨y,hy,rfl⟩:=List.mem_map.1 hi
 rw[hq y hy];decide
theorem own_box {β:Type} (B b:Nat) (cs:β→Array Value) (t:TypeId):OwnFrom B (fun (s:β) W=>W.heap[b]? = some (.cells (cs s) t (0,0))):=fun _ X _ row hs hg hr=>
 (hg.block b (Array.getElem?_eq_some_iff.1 hs).1 (fun e=>by obtain⟨_,o,ho,hc⟩:=hr b e.symm;rw[show X.heap[b]? = _ from hs]at ho;cases ho;cases hc)).trans hs
theorem own_oprs {β:Type} (B:Nat) (v:β→Value) (os:β→List Strd.Opr):OwnFrom B (fun (s:β) W=>QS W (v s) (os s)):=fun _ X _ row h hg hr=>by
 obtain⟨h1,h2⟩:=h
 refine⟨h1,h2.imp id ?_⟩
 rintro ⟨g,cap,cur,hv,hb,hh,r⟩
 refine⟨g,cap,cur,hv,hb,?_,r⟩
 exact(hg.block g (Array.getElem?_eq_some_iff.1 hh).1 (fun e=>by obtain⟨_,o,ho,hc⟩:=hr g e.symm;rw[hh]at ho;cases ho;cases hc)).trans hh
theorem wpListIn_store_row {F:Fence} {nF:Nat} {P:Program} {ops:Array Oper} {rest:List Oper} {o:Oper} {a:Act} {w:World} {Q:Exit→Act→World→Prop} (hgd:o.guard=none) (ty:TypeId) (x y:Operand) (ho:o.op=.store ty x y)
  (g:Nat) (cells:Array Value) (hx:a.eval x=.pointer (some ⟨g,0,none⟩)) (hy:a.eval y=.agg cells)
  (t:TypeId) (old:Array Value) (hg:w.heap[g]? = some (.cells old t (0,0))) (hi:(P.info? ty).map (·.size)=some cells.size)
  (hold:old.size=cells.size) (h1:cells.all (·.oneCell')=true)
  (h:wpListIn F nF P ops Q rest (a.put o.dst undef) (w.setRow g cells)):wpListIn F nF P ops Q (o::rest) a w:=by
 refine wpListIn_plain hgd fun K' hK'=>?_
 unfold Oper.wpIn
 refine⟨by simp[Oper.about,ho],?_⟩
 rw[Oper.semAt_plain F _ _ (by rw[ho];intro c hc';cases hc')]
 simp only[execOp,ho,hx,hy,Instr.storeAt,Instr.sureAddr,Sem.run_bind,Sem.run_pure,Result.andThen_ok,run_storeVar_row w g t ty old cells hg hi hold h1]
 exact hK' _ _ h
theorem results92_at {w:World} (g k:Nat) (c0 c1 c2 c3 c4 c5 v:Value) (tmps:Array Value) (h4:tmps[4]?.getD undef=.pointer (some ⟨g,0,none⟩)) (h5:tmps[5]?.getD undef=.pointer (some ⟨k,0,none⟩))
  (hg:w.heap[g]? = some (.cells #[c0,c1,c2,c3,c4,c5] 97 (0,0))) (hk:w.cell? ⟨k,0,none⟩=some v):(results Tryz.f92 tmps).run Tryz.prog w=.ok (.tuple #[.agg #[c0,c1,c2,c3,c4,c5],v]) w:=by
 have z0:=QC hg 0
 have z1:=QC hg 1
 have z2:=QC hg 2
 have z3:=QC hg 3
 have z4:=QC hg 4
 have z5:=QC hg 5
 simp only[gA,gZ,gS]at z0 z1 z2 z3 z4 z5
 simp[results,Tryz.results92,h4,h5,asAddr,go_sem,hk,z0,z1,z2,z3,z4,z5]
theorem set_box1 {W:World} {b:Nat} {t:TypeId} {v u:Value} (h:W.heap[b]? = some (.cells #[v] t (0,0))):(W.setCell ⟨b,0,none⟩ u).heap[b]? = some (.cells #[u] t (0,0)):=by
 have:Boxed W b t v:=h
 exact this.set u
theorem setCell_box {W:World} {b g:Nat} (u:Value) (h:g≠b):(W.setCell ⟨b,0,none⟩ u).heap[g]? = W.heap[g]?:=by
 by_cases hlt:g<W.heap.size
 ·exact(grownBy_setCell' W b u).block g hlt (fun e=>h (by cases e;rfl))
 ·have hs:(W.setCell ⟨b,0,none⟩ u).heap.size=W.heap.size:=by simp
  rw[Array.getElem?_eq_none (by omega),Array.getElem?_eq_none (by omega)]
theorem oprs_set {W:World} {b:Nat} {t:TypeId} {cs:Array Value} {u v:Value} {os:List Strd.Opr} (h:QS W v os) (hb:W.heap[b]? = some (.cells cs t (0,0))) (hne:t≠136):QS (W.setCell ⟨b,0,none⟩ u) v os:=by
 obtain⟨h1,h2⟩:=h
 refine⟨h1,h2.imp id ?_⟩
 rintro ⟨g,cap,cur,hv,hbb,hh,r⟩
 refine⟨g,cap,cur,hv,hbb,?_,r⟩
 rw[setCell_box _ (fun e=>by subst e;rw[hb]at hh;cases hh;exact hne rfl)]
 exact hh
theorem below_set {B b:Nat} {A W:World} {u:Value} (h:Below B A W) (hb:B≤b):Below B A (W.setCell ⟨b,0,none⟩ u):=h.setCell (p:=⟨b,0,none⟩) hb u
theorem row_box {W:World} {g b:Nat} {o:Obj} (cs:Array Value) (h:W.heap[b]? = some o) (hne:b≠g):(W.setRow g cs).heap[b]? = some o:=(setRow_other W g b _ hne).trans h
theorem keepsFrom_below {B:Nat} {W W':World} (h:Below W.heap.size W W'):KeepsFrom B W W':=⟨h.size,fun k o _ hk _=>(h.block k (Array.getElem?_eq_some_iff.1 hk).1).trans hk⟩
theorem keepsFrom_row {B g:Nat} {W:World} {cs old:Array Value} {t:TypeId} (hg:W.heap[g]? = some (.cells old t (0,0))):KeepsFrom B W (W.setRow g cs):=⟨by simp[World.setRow],fun k o _ hk hc=>by
 rw[setRow_other W g k _ (fun e=>by subst e;rw[hg]at hk;cases hk;cases hc)];exact hk⟩
abbrev z6:Array Value:=#[.int .i64 0,.int .i64 0,.int .i64 0,.int .i64 0,.int .i64 0,.slice none 0 0]
theorem Match_c (b:Strd.Bs) (ad:Int) (hl:b.length≤2^40) (ha:-2^31≤ad∧ad≤2^31) (w:World) (h11:11≤w.heap.size) {tu:Bool} (hT:TabsX tu w) :
  Calls Tryz.prog 92 #[.string (bstr b),.int .i64 ad] w fun e w'=>∃o p n c,e=.returned (.tuple #[.agg #[.int .i64 o.kind,.int .i64 o.base,.int .i64 o.number,.int .i64 o.first,.int .i64 o.last,.slice p n c],.bool (Strd.matchIns b ad).isSome])∧InsOut w' (Strd.matchIns b ad) o p n c∧Below w.heap.size w w':=by
 refine(callsIn_wide (n:=3)).1 ?_
 refine callsIn_of_wp_marks Tryz.func92 rfl trivial ?_ rfl
 simp only[Tryz.ntmps92,List.size_toArray,List.length_cons,List.length_nil,Nat.reduceAdd,Nat.reduceSub,Array.replicate_succ,Array.replicate_zero,List.push_toArray,List.append_toArray,List.nil_append,List.cons_append]
 gi_wp2
 obtain⟨W0,hW0⟩:∃W0,(((w.alloc (.cells #[.string (bstr b)] 9)).alloc (.cells #[.int .i64 ad] 3)).alloc (.cells z6 97)).alloc (.cells #[.bool false] 4)=W0:=⟨_,rfl⟩
 have hB0:Below w.heap.size w W0:=by rw[←hW0];exact QE (QE (QE (QF w _) (QF _ _)) (QF _ _)) (QF _ _)
 have hsz:W0.heap.size=w.heap.size+4:=by rw[←hW0];simp
 have x0:W0.heap[w.heap.size]? = some (.cells #[.string (bstr b)] 9 (0,0)):=by rw[←hW0];exact bbox (QE (QE (QF _ _) (QF _ _)) (QF _ _)) (QH w _)
 have x1:W0.heap[w.heap.size+1]? = some (.cells #[.int .i64 ad] 3 (0,0)):=by rw[←hW0];have:=bbox (QE (QF _ (.cells z6 97)) (QF _ (.cells #[.bool false] 4))) (QH (w.alloc (.cells #[.string (bstr b)] 9)) (.cells #[.int .i64 ad] 3));simpa using this
 have x2:W0.heap[w.heap.size+2]? = some (.cells z6 97 (0,0)):=by rw[←hW0];have:=bbox (QF _ (.cells #[.bool false] 4)) (QH ((w.alloc (.cells #[.string (bstr b)] 9)).alloc (.cells #[.int .i64 ad] 3)) (.cells z6 97));simpa using this
 have x3:W0.heap[w.heap.size+3]? = some (.cells #[.bool false] 4 (0,0)):=by rw[←hW0];have:=QH (((w.alloc (.cells #[.string (bstr b)] 9)).alloc (.cells #[.int .i64 ad] 3)).alloc (.cells z6 97)) (.cells #[.bool false] 4);simpa using this
 rw[hW0]
 clear hW0
 simp only[Nat.add_assoc,Nat.reduceAdd]
 have hT0:=hT.below hB0
 refine wpIn_rangeFunc_ownH (F:=Fence.wide) (n:=3) rfl (by decide) (gf:=130) (lb:=#[]) rfl trivial (enters_of Tryz.func130 (by kernel_rfl) rfl)
  (matchable_stops 2 w.heap.size (by decide) W0 h11 (by omega) hT0) KpC.trans (KpC.book (by omega)) (Below.refl _ _) (fun _=>rfl)
  (fun pre W=>((((W.heap[w.heap.size]? = some (.cells #[.string (bstr b)] 9 (0,0))∧W.heap[w.heap.size+1]? = some (.cells #[.int .i64 ad] 3 (0,0)))∧W.heap[w.heap.size+2]? = some (.cells z6 97 (0,0)))∧W.heap[w.heap.size+3]? = some (.cells #[.bool false] 4 (0,0)))∧Below w.heap.size w W)∧∀y∈pre,Strd.begins (mIns b ad y) b ad=false)
  (fun c pre W=>∃(q:List MOp) (x:MOp) (p:Option Addr) (cp:Nat),(c=.ret∧pre=q++[x]∧(∀y∈q,Strd.begins (mIns b ad y) b ad=false)∧Strd.begins (mIns b ad x) b ad=true)∧W.heap[w.heap.size+2]? = some (.cells #[.int .i64 x.1.kind,.int .i64 x.1.base,.int .i64 x.1.number,.int .i64 x.1.first,.int .i64 x.1.last,.slice p (QX (Strd.QK x.1 b ad)).length cp] 97 (0,0))∧W.heap[w.heap.size+3]? = some (.cells #[.bool true] 4 (0,0))∧QS W (.slice p (QX (Strd.QK x.1 b ad)).length cp) (QX (Strd.QK x.1 b ad))∧Below w.heap.size w W)
  (OwnFrom.and (OwnFrom.and (OwnFrom.and (OwnFrom.and (OwnFrom.and (own_box _ _ (fun _=>_) _) (own_box _ _ (fun _=>_) _)) (own_box _ _ (fun _=>_) _)) (own_box _ _ (fun _=>_) _)) (ownFrom_below (Nat.le_refl _) (by omega))) (ownFrom_pure _ (fun pre=>∀y∈pre,Strd.begins (mIns b ad y) b ad=false)))
  (fun c s X Y row hs hg hr=>by
   obtain⟨q,x,p,cp,h1,h2,h3,h4,h5⟩:=hs
   exact⟨q,x,p,cp,h1,own_box (β:=Unit) _ _ (fun _=>_) _ () X Y row h2 hg hr,own_box (β:=Unit) _ _ (fun _=>_) _ () X Y row h3 hg hr,own_oprs (β:=Unit) _ (fun _=>_) (fun _=>_) () X Y row h4 hg hr,ownFrom_below (β:=Unit) (B:=W0.heap.size) (Nat.le_refl _) (by omega) () X Y row h5 hg hr⟩)
  ⟨⟨⟨⟨⟨x0,x1⟩,x2⟩,x3⟩,hB0⟩,fun y hy=>by cases hy⟩
  (fun x a' W=>∃Bx,W.heap[Bx]? = some (.cells #[.int .i64 x.1.kind,.int .i64 x.1.base,.int .i64 x.1.number,.int .i64 x.1.first,.int .i64 x.1.last] 94 (0,0))∧a'={ tmps:=#[.string (bstr b),.int .i64 ad,.pointer (some ⟨w.heap.size,0,none⟩),.pointer (some ⟨w.heap.size+1,0,none⟩),.pointer (some ⟨w.heap.size+2,0,none⟩),.pointer (some ⟨w.heap.size+3,0,none⟩),.pointer (some ⟨Bx,0,none⟩),undef,opV x.1,undef,undef,undef,undef,undef,undef,undef,undef,undef,undef,undef,undef],defers:=[] })
  (fun x a' s X Y row hs hg hr=>by obtain⟨Bx,h1,h2⟩:=hs;exact⟨Bx,own_box (β:=Unit) _ _ (fun _=>_) _ () X Y row h1 hg hr,h2⟩)
  ?assign ?body ?done ?stop
 case assign=>
  rintro l pre x W K ⟨⟨⟨⟨⟨y0,y1⟩,y2⟩,y3⟩,hB1⟩,hpre⟩ hK
  have hba:=QF W (.cells #[.int .i64 x.1.kind,.int .i64 x.1.base,.int .i64 x.1.number,.int .i64 x.1.first,.int .i64 x.1.last] 94)
  have hbx:=QH W (.cells #[.int .i64 x.1.kind,.int .i64 x.1.base,.int .i64 x.1.number,.int .i64 x.1.first,.int .i64 x.1.last] 94)
  gi_wp2
  exact hK _ _ (keepsFrom_below hba) (KpC.of_below hB1.size hba) ⟨⟨⟨⟨⟨bbox hba y0,bbox hba y1⟩,bbox hba y2⟩,bbox hba y3⟩,hB1.trans (hba.mono hB1.size)⟩,hpre⟩ ⟨W.heap.size,hbx,rfl⟩
 case body=>
  rintro l pre x a' W hlB ⟨r,hr⟩ ⟨⟨⟨⟨⟨y0,y1⟩,y2⟩,y3⟩,hB1⟩,hpre⟩ ⟨Bx,hbx,rfl⟩ hlt
  have Hpre:=QB hpre
  obtain⟨o,ho⟩:=x
  dsimp only at hbx ⊢
  gi_wp2
  refine wpIn_mono (region2_c o ho b ad hl ha l _ w.heap.size (w.heap.size+1) (w.heap.size+2) (w.heap.size+3) Bx (.string (bstr b)) (.int .i64 ad) (opV o) W y0 y1 hbx) ?_
  rintro e a' W2 hres
  cases e with
  |normal=>
   obtain⟨Bi,p,cp,hBi,hbW,hxi,hO,rfl⟩:=hres
   have Y0:=QB (bbox hbW y0)
   have Y1:=QB (bbox hbW y1)
   have Y2:=QB (bbox hbW y2)
   have Y3:=QB (bbox hbW y3)
   have HO:=QB hO
   have Hxi:=QB hxi
   clear y0 y1 y2 y3 hxi hO hpre
   have z0:=QC (QA Hxi) 0
   have z1:=QC (QA Hxi) 1
   have z2:=QC (QA Hxi) 2
   have z3:=QC (QA Hxi) 3
   have z4:=QC (QA Hxi) 4
   have z5:=QC (QA Hxi) 5
   have b0:=QC (QA Y0) 0
   have b1:=QC (QA Y1) 0
   simp only[gA,gZ,gS]at z0 z1 z2 z3 z4 z5 b0 b1
   have CB:=begins_c o ho b ad _ W2 hl ha (QA HO)
   generalize hbg:Strd.begins (Strd.QQ o (Strd.QK o b ad)) b ad=bg at CB
   have Hbg:=QB hbg
   clear hbg
   cases bg with
   |false=>
    gi_wp2_with (refine⟨trivial,?_⟩;gi_at_call 132;refine(CallsIn.inRound l (callsIn_wide.2 CB)).mono ?_;rintro e wB ⟨rfl,hbB⟩)
    have hbF:Below W.heap.size W wB:=QE hbW hbB
    exact⟨keepsFrom_below hbF,KpC.of_below hB1.size hbF,⟨⟨⟨⟨bbox hbB (QA Y0),bbox hbB (QA Y1)⟩,bbox hbB (QA Y2)⟩,bbox hbB (QA Y3)⟩,hB1.trans (hbF.mono hB1.size)⟩,fun y hy=>by
     rcases List.mem_append.1 hy with h|h
     ·exact QA Hpre y h
     ·rw[List.mem_singleton]at h;subst h;exact QA Hbg⟩
   |true=>
    gi_wp2_with (first
     |(refine⟨trivial,?_⟩;gi_at_call 132;refine(CallsIn.inRound l (callsIn_wide.2 CB)).mono ?_;rintro e wB ⟨rfl,hbB⟩;have q0:=QC (bbox hbB (QA Hxi)) 0;have q1:=QC (bbox hbB (QA Hxi)) 1;have q2:=QC (bbox hbB (QA Hxi)) 2;have q3:=QC (bbox hbB (QA Hxi)) 3;have q4:=QC (bbox hbB (QA Hxi)) 4;have q5:=QC (bbox hbB (QA Hxi)) 5;simp only[gA,gZ,gS]at q0 q1 q2 q3 q4 q5)
     |(refine wpListIn_store_row rfl 97 (.tmp 4) (.tmp 19) rfl (w.heap.size+2) #[.int .i64 o.kind,.int .i64 o.base,.int .i64 o.number,.int .i64 o.first,.int .i64 o.last,.slice p (QX (Strd.QK o b ad)).length cp] rfl rfl 97 z6 (by exact bbox hbB (QA Y2)) (by kernel_rfl) rfl (ins_one _ _ _ _ _ _ _ _) ?_;have yr:=row_box #[.int .i64 o.kind,.int .i64 o.base,.int .i64 o.number,.int .i64 o.first,.int .i64 o.last,.slice p (QX (Strd.QK o b ad)).length cp] (bbox hbB (QA Y3)) (show w.heap.size+3≠w.heap.size+2 by omega);have fr:=ZC yr 0;have c3:=QC yr 0;have lt3:=QD yr;simp only[gA,gZ]at c3))
    have hb2:=bbox hbB (QA Y2)
    have hr2:=ZJ (cs:=#[.int .i64 o.kind,.int .i64 o.base,.int .i64 o.number,.int .i64 o.first,.int .i64 o.last,.slice p (QX (Strd.QK o b ad)).length cp]) hb2
    have hbF:Below W.heap.size W wB:=QE hbW hbB
    have hO2:QS _ _ _:=ZP (cs:=#[.int .i64 o.kind,.int .i64 o.base,.int .i64 o.number,.int .i64 o.first,.int .i64 o.last,.slice p (QX (Strd.QK o b ad)).length cp]) ((QA HO).below hbB) hb2 (by decide)
    refine⟨(keepsFrom_below hbF).trans ((keepsFrom_row hb2).trans ((KeepsOthers.setCell _ _ _).from _)),pre,⟨o,ho⟩,p,cp,⟨rfl,rfl,QA Hpre,QA Hbg⟩,?_,set_box1 yr,?_,?_⟩
    ·exact(setCell_box _ (by omega)).trans hr2
    ·exact oprs_set hO2 yr (by decide)
    ·exact below_set (QT (hB1.trans (hbF.mono hB1.size)) (by omega) _) (by omega)
  |_=>exact hres.elim
 case done=>
  rintro D ys W hD rfl ⟨⟨⟨⟨⟨y0,y1⟩,y2⟩,y3⟩,hB1⟩,hpre⟩ hK
  have hnone:=QB (match_none hpre)
  clear hpre
  have HK:=QB hK
  have Y2:=QB y2
  have Y3:=QB y3
  have yr:=row_box z6 y3 (show w.heap.size+3≠w.heap.size+2 by omega)
  have fr:=ZC yr 0
  have lt3:=QD yr
  have c3:=QC yr 0
  simp only[gA,gZ]at c3
  clear hK y0 y1 y2 y3 hT hT0 x0 x1 x2 x3
  gi_wp2_with (refine wpListIn_store_row rfl 97 (.tmp 4) (.tmp 20) rfl (w.heap.size+2) z6 rfl rfl 97 z6 (by exact QA Y2) (by kernel_rfl) rfl (ins_one _ _ _ _ _ _ _ _) ?_)
  have hr2:=ZJ (cs:=z6) (QA Y2)
  have hK:=(keepsFrom_row (B:=0) (cs:=z6) (QA Y2)).same D _ (Nat.zero_le _) (QA HK) rfl
  have hK':=(KeepsOthers.setCell (W.setRow (w.heap.size+2) z6) ⟨w.heap.size+3,0,none⟩ (.bool false)).same D _ hK rfl
  refine⟨by simp,.inl ⟨_,_,rfl,run_takeDeferred hK',?_⟩⟩
  have h2':=(setCell_box (W:=W.setRow (w.heap.size+2) z6) (b:=w.heap.size+3) (.bool false) (show w.heap.size+2≠w.heap.size+3 by omega)).trans hr2
  have h3':=set_box1 (u:=.bool false) yr
  have h5:Below w.heap.size w _:=below_set (b:=w.heap.size+3) (u:=.bool false) (QT (g:=w.heap.size+2) hB1 (by omega) z6) (by omega)
  generalize (W.setRow (w.heap.size+2) z6).setCell ⟨w.heap.size+3,0,none⟩ (.bool false)=WF at *
  have hg:=grownBy_putObj' WF D (.deferred none)
  have hrow:∀r,some D=some r→W0.heap.size≤r∧∃o:Obj,WF.heap[r]? = some o∧o.isCells=false:=fun r e=>by cases e;exact⟨hD,_,hK',rfl⟩
  have h2:=own_box (β:=Unit) W0.heap.size _ (fun _=>_) _ () _ _ _ h2' hg hrow
  have h3:=own_box (β:=Unit) W0.heap.size _ (fun _=>_) _ () _ _ _ h3' hg hrow
  have h5':=ownFrom_below (β:=Unit) (B:=W0.heap.size) (Nat.le_refl _) (by omega) () _ _ _ h5 hg hrow
  have c3:=QC h3 0
  simp only[gA,gZ]at c3
  refine⟨_,results92_at (w.heap.size+2) (w.heap.size+3) _ _ _ _ _ _ _ _ rfl rfl h2 c3,⟨0,0,0,0,0⟩,none,0,0,?_,?_,h5'⟩
  ·rw[QA hnone];rfl
  ·rw[QA hnone];exact InsOut.none _ _ _ _ _
 case stop=>
  rintro D c pre W hD hpx ⟨q,x,p,cp,⟨rfl,rfl,hq,hx⟩,h2,h3,h4,h5⟩ hK
  have Hsome:=QB (match_some hpx hq hx)
  have HK:=QB hK
  have H2:=QB h2
  have H3:=QB h3
  have H4:=QB h4
  clear hK h2 h3 h4 hq hx hT hT0 x0 x1 x2 x3
  gi_wp2
  have hK:=QA HK
  refine⟨by simp,.inl ⟨_,_,rfl,run_takeDeferred hK,?_⟩⟩
  have hg:=grownBy_putObj' W D (.deferred none)
  have hrow:∀r,some D=some r→W0.heap.size≤r∧∃o:Obj,W.heap[r]? = some o∧o.isCells=false:=fun r e=>by cases e;exact⟨hD,_,hK,rfl⟩
  have h2:=own_box (β:=Unit) W0.heap.size _ (fun _=>_) _ () _ _ _ (QA H2) hg hrow
  have h3:=own_box (β:=Unit) W0.heap.size _ (fun _=>_) _ () _ _ _ (QA H3) hg hrow
  have h4:=own_oprs (β:=Unit) W0.heap.size (fun _=>_) (fun _=>_) () _ _ _ (QA H4) hg hrow
  have h5':=ownFrom_below (β:=Unit) (B:=W0.heap.size) (Nat.le_refl _) (by omega) () _ _ _ h5 hg hrow
  have c3:=QC h3 0
  simp only[gA,gZ]at c3
  refine⟨_,results92_at (w.heap.size+2) (w.heap.size+3) _ _ _ _ _ _ _ _ rfl rfl h2 c3,x.1,p,(QX (Strd.QK x.1 b ad)).length,cp,?_,?_,h5'⟩
  ·rw[QA Hsome];rfl
  ·rw[QA Hsome];intro i hi;cases hi;exact⟨rfl,h4⟩
end Go.Proofs.YtegiloiojloaoaaGreatDoor
namespace Go.Proofs.YtegiloiojloaoaaGreatDoor
open Go.RowKit Go.Shelf Go.Sort Go.Maps
theorem with_c (wd:Strd.Bs) (o:Strd.Op) (hf:Strd.find wd=some o) (hwl:wd.length≤100) (n:Int) (w:World) {tu:Bool} (hT:TabsX tu w) (h11:11≤w.heap.size) :
  Calls Tryz.prog 50 #[.string (bstr wd),.int .i64 n] w fun e w'=>∃p c,e=.returned (.agg #[.int .i64 o.kind,.int .i64 o.base,.int .i64 o.number,.int .i64 o.first,.int .i64 o.last,.slice p 1 c])∧QS w' (.slice p 1 c) (QX [n])∧Below w.heap.size w w':=by
 have hb1:=QF w (.cells z6 97)
 have Hx1:=QB (QH w (.cells z6 97))
 have HF:=QB (fun W hW=>Find_c (tu:=tu) (bstr wd) W (by rw[ZA];omega) hW)
 have HT1:=QB (hT.below hb1)
 clear hT
 go_enter Tryz.func50,Tryz.ntmps50
 go_wp2_with (first
  |(go_at_call 91;refine(QA HF _ (QA HT1)).mono ?_;rintro e w2 ⟨q,rfl,hq,hb2⟩;have Hq:=QB (hq o hf);clear hq;have Hx2:=QB (bbox (QE hb2 (QE (QF w2 (.cells #[.int .i64 q.kind,.int .i64 q.base,.int .i64 q.number,.int .i64 q.first,.int .i64 q.last] 94)) (QF _ (.cells #[.string ⟨#[]⟩,.int .i64 n] 136)))) (QA Hx1)))
  |(refine wpList_store_row rfl 97 (.tmp 4) (.tmp 16) rfl w.heap.size #[.int .i64 q.kind,.int .i64 q.base,.int .i64 q.number,.int .i64 q.first,.int .i64 q.last,.slice (some ⟨w2.heap.size+1,0,none⟩) 1 1] rfl rfl 97 z6 (by exact QA Hx2) (by kernel_rfl) rfl (ins_one _ _ _ _ _ _ _ _) ?_))
 refine bodyPost_ret (v:=.agg #[.int .i64 q.kind,.int .i64 q.base,.int .i64 q.number,.int .i64 q.first,.int .i64 q.last,.slice (some ⟨w2.heap.size+1,0,none⟩) 1 1]) (by exact results_cell_row Tryz.results50 _ _ w.heap.size 97 _ _ _ rfl (by exact ZJ (QA Hx2)) Tryz.underlying97 rfl (by kernel_rfl)) rfl ?_
 have hbF:=QE hb2 (QE (QF w2 (.cells #[.int .i64 q.kind,.int .i64 q.base,.int .i64 q.number,.int .i64 q.first,.int .i64 q.last] 94)) (QF _ (.cells #[.string ⟨#[]⟩,.int .i64 n] 136)))
 have hnew:((w2.alloc (.cells #[.int .i64 q.kind,.int .i64 q.base,.int .i64 q.number,.int .i64 q.first,.int .i64 q.last] 94)).alloc (.cells #[.string ⟨#[]⟩,.int .i64 n] 136)).heap[w2.heap.size+1]? = some (.cells #[.string ⟨#[]⟩,.int .i64 n] 136 (0,0)):=by
  have:=QH (w2.alloc (.cells #[.int .i64 q.kind,.int .i64 q.base,.int .i64 q.number,.int .i64 q.first,.int .i64 q.last] 94)) (.cells #[.string ⟨#[]⟩,.int .i64 n] 136)
  rwa[World.size_alloc]at this
 have hO:QS ((w2.alloc (.cells #[.int .i64 q.kind,.int .i64 q.base,.int .i64 q.number,.int .i64 q.first,.int .i64 q.last] 94)).alloc (.cells #[.string ⟨#[]⟩,.int .i64 n] 136)) (.slice (some ⟨w2.heap.size+1,0,none⟩) 1 1) (QX [n]):=⟨rfl,.inr ⟨w2.heap.size+1,1,#[.string ⟨#[]⟩,.int .i64 n],rfl,Nat.zero_le _,hnew,Nat.le_refl _,by decide,rfl,rfl⟩⟩
 refine⟨some ⟨w2.heap.size+1,0,none⟩,1,by rw[QA Hq],ZP hO (QA Hx2) (by decide),QT (QE hb1 hbF) (Nat.le_refl _) _⟩
theorem find_bytes:Strd.find [100,99,46,98]=some Strd.bytesOp:=by
 have h:=Strd.told_find Strd.bytesOp (by unfold Strd.toldOps;simp)
 rwa[show Strd.Q2 Strd.bytesOp=[100,99,46,98] by decide +kernel]at h
theorem find_words:Strd.find [100,99,46,119]=some Strd.wordsOp:=by
 have h:=Strd.told_find Strd.wordsOp (by unfold Strd.toldOps;simp)
 rwa[show Strd.Q2 Strd.wordsOp=[100,99,46,119] by decide +kernel]at h
theorem find_org:Strd.find [111,114,103]=some Strd.orgOp:=by
 have h:=Strd.told_find Strd.orgOp (by unfold Strd.toldOps;simp)
 rwa[show Strd.Q2 Strd.orgOp=[111,114,103] by decide +kernel]at h
theorem first_some (s:Strd.Bs) (a:Int) (hl:s.length≤2^40) (ha:-2^31≤a∧a≤2^31) (w:World) {tu:Bool} (hT:TabsX tu w) (h11:11≤w.heap.size) (i:Strd.Ins) (hm:Strd.matchIns s a=some i) :
  Calls Tryz.prog 51 #[.string (bstr s),.int .i64 a] w fun e w'=>∃p n c,e=.returned (.agg #[.int .i64 i.op.kind,.int .i64 i.op.base,.int .i64 i.op.number,.int .i64 i.op.first,.int .i64 i.op.last,.slice p n c])∧QS w' (.slice p n c) i.oprs∧Below w.heap.size w w':=by
 have hb1:=QF w (.cells z6 97)
 have Hx1:=QB (QH w (.cells z6 97))
 have HM:=QB (Match_c s a hl ha (w.alloc (.cells z6 97)) (Nat.le_trans h11 hb1.size) (hT.below hb1))
 have Hm:=QB hm
 clear hT hm
 go_enter Tryz.func51,Tryz.ntmps51
 go_wp2_with (first
  |(go_at_call 92;refine(QA HM).mono ?_;rintro e w2 ⟨o,p,n,c,rfl,hin,hb2⟩;rw[QA Hm];have Hin:=QB (hin i (QA Hm));clear hin;have Hx2:=QB (bbox (QE hb2 (QF w2 (.cells #[.int .i64 o.kind,.int .i64 o.base,.int .i64 o.number,.int .i64 o.first,.int .i64 o.last,.slice p n c] 97))) (QA Hx1)))
  |(refine wpList_store_row rfl 97 (.tmp 4) (.tmp 14) rfl w.heap.size #[.int .i64 o.kind,.int .i64 o.base,.int .i64 o.number,.int .i64 o.first,.int .i64 o.last,.slice p n c] rfl rfl 97 z6 (by exact QA Hx2) (by kernel_rfl) rfl (ins_one _ _ _ _ _ _ _ _) ?_))
 refine bodyPost_ret (v:=.agg #[.int .i64 o.kind,.int .i64 o.base,.int .i64 o.number,.int .i64 o.first,.int .i64 o.last,.slice p n c]) (by exact results_cell_row Tryz.results51 _ _ w.heap.size 97 _ _ _ rfl (by exact ZJ (QA Hx2)) Tryz.underlying97 rfl (by kernel_rfl)) rfl ?_
 obtain⟨ho,hO⟩:=QA Hin
 have hba:=QF w2 (.cells #[.int .i64 o.kind,.int .i64 o.base,.int .i64 o.number,.int .i64 o.first,.int .i64 o.last,.slice p n c] 97)
 refine⟨p,n,c,by rw[ho],ZP (QS.below hO hba) (QA Hx2) (by decide),QT (QE hb1 (QE hb2 hba)) (Nat.le_refl _) _⟩
theorem first_one (c0:UInt8) (a:Int) (ha:-2^31≤a∧a≤2^31) (w:World) {tu:Bool} (hT:TabsX tu w) (h11:11≤w.heap.size) (hm:Strd.matchIns [c0] a=none) :
  Calls Tryz.prog 51 #[.string (bstr [c0]),.int .i64 a] w fun e w'=>∃p c,e=.returned (.agg #[.int .i64 8,.int .i64 0,.int .i64 0,.int .i64 0,.int .i64 0,.slice p 1 c])∧QS w' (.slice p 1 c) (QX [(c0.toNat:Int)])∧Below w.heap.size w w':=by
 have hb1:=QF w (.cells z6 97)
 have Hx1:=QB (QH w (.cells z6 97))
 have HM:=QB (Match_c [c0] a (by simp) ha (w.alloc (.cells z6 97)) (Nat.le_trans h11 hb1.size) (hT.below hb1))
 have Hm:=QB hm
 have e0:=Rf.ZQ (show [c0][0]? = some c0 from rfl)
 have r0:=c0.toNat_lt
 have HT1:=QB (hT.below hb1)
 have h11':=Nat.le_trans h11 hb1.size
 have HW:=QB (fun W hT h=>with_c (tu:=tu) [100,99,46,98] _ find_bytes (by decide) (c0.toNat:Int) W hT h)
 have hl1:(bstr [c0]).size=1:=by rw[ZA];rfl
 clear hT hm
 go_enter Tryz.func51,Tryz.ntmps51
 go_wp2_with (first
  |(go_at_call 92;refine(QA HM).mono ?_;rintro e w2 ⟨o,p,n,c,rfl,hin,hb2⟩;rw[QA Hm];clear hin;have hba:=QE hb2 (QF w2 (.cells #[.int .i64 o.kind,.int .i64 o.base,.int .i64 o.number,.int .i64 o.first,.int .i64 o.last,.slice p n c] 97));have Hx2:=QB (bbox hba (QA Hx1)))
  |(go_at_call 50;refine(QA HW _ ((QA HT1).below hba) (Nat.le_trans h11' hba.size)).mono ?_;rintro e w3 ⟨pw,cw,rfl,hO3,hb3⟩;have Hx3:=QB (bbox hb3 (QA Hx2));have HO3:=QB hO3;clear hO3)
  |(refine wpList_store_row rfl 97 (.tmp 4) (.tmp 21) rfl w.heap.size #[.int .i64 8,.int .i64 0,.int .i64 0,.int .i64 0,.int .i64 0,.slice pw 1 cw] rfl rfl 97 z6 (by exact QA Hx3) (by kernel_rfl) rfl (ins_one _ _ _ _ _ _ _ _) ?_))
 refine bodyPost_ret (v:=.agg #[.int .i64 8,.int .i64 0,.int .i64 0,.int .i64 0,.int .i64 0,.slice pw 1 cw]) (by exact results_cell_row Tryz.results51 _ _ w.heap.size 97 _ _ _ rfl (by exact ZJ (QA Hx3)) Tryz.underlying97 rfl (by kernel_rfl)) rfl ?_
 refine⟨pw,cw,rfl,ZP (QA HO3) (QA Hx3) (by decide),QT (QE hb1 (QE hba hb3)) (Nat.le_refl _) _⟩
abbrev f6o0:Oper:={ dst:=some 22,op:=Op.move (Operand.tmp 0),type:=9,pos := "back.go:44",after:=#[],guard:=none }
abbrev f6o1:Oper:={ dst:=some 23,op:=Op.index 9 (Operand.tmp 22) (Operand.const (Value.int IntKind.i64 0)),type:=5,pos := "back.go:44",after:=#[{ on:=0,ground:=Ground.data }],guard:=none }
abbrev f6o2:Oper:={ dst:=some 24,op:=Op.convert 5 3 (Operand.tmp 23),type:=3,pos := "back.go:44",after:=#[{ on:=1,ground:=Ground.data }],guard:=none }
abbrev f6o3:Oper:={ dst:=some 25,op:=Op.binOp BinOp.shl 3 (Operand.tmp 24) (Operand.const (Value.int IntKind.u64 8)) 166,type:=3,pos := "back.go:44",after:=#[{ on:=2,ground:=Ground.data }],guard:=none }
abbrev f6o4:Oper:={ dst:=some 26,op:=Op.move (Operand.tmp 0),type:=9,pos := "back.go:44",after:=#[],guard:=none }
abbrev f6o5:Oper:={ dst:=some 27,op:=Op.index 9 (Operand.tmp 26) (Operand.const (Value.int IntKind.i64 1)),type:=5,pos := "back.go:44",after:=#[{ on:=4,ground:=Ground.data }],guard:=none }
abbrev f6o6:Oper:={ dst:=some 28,op:=Op.convert 5 3 (Operand.tmp 27),type:=3,pos := "back.go:44",after:=#[{ on:=5,ground:=Ground.data }],guard:=none }
abbrev f6o7:Oper:={ dst:=some 29,op:=Op.binOp BinOp.add 3 (Operand.tmp 25) (Operand.tmp 28) 3,type:=3,pos := "back.go:44",after:=#[{ on:=3,ground:=Ground.data },{ on:=6,ground:=Ground.data }],guard:=none }
abbrev f6o8:Oper:={ dst:=some 30,op:=Op.call { callee:=Callee.value (Operand.func 50),args:=#[Operand.const (Value.string { data:=#[100,99,46,119] }),Operand.tmp 29],argTypes:=#[9,3] },type:=97,pos := "back.go:44",after:=#[{ on:=7,ground:=Ground.data }],guard:=none }
abbrev f6o9:Oper:={ dst:=none,op:=Op.store 97 (Operand.tmp 4) (Operand.tmp 30),type:=0,pos := "back.go:44",after:=#[{ on:=8,ground:=Ground.data },{ on:=8,ground:=Ground.chain },{ on:=0,ground:=Ground.phase },{ on:=1,ground:=Ground.phase },{ on:=2,ground:=Ground.phase },{ on:=3,ground:=Ground.phase },{ on:=4,ground:=Ground.phase },{ on:=5,ground:=Ground.phase },{ on:=6,ground:=Ground.phase },{ on:=7,ground:=Ground.phase },{ on:=8,ground:=Ground.phase }],guard:=none }
theorem first_two (c0 c1:UInt8) (t:Strd.Bs) (a:Int) (hl:(c0::c1::t).length≤2^40) (ha:-2^31≤a∧a≤2^31) (w:World) {tu:Bool} (hT:TabsX tu w) (h11:11≤w.heap.size) (hm:Strd.matchIns (c0::c1::t) a=none) :
  Calls Tryz.prog 51 #[.string (bstr (c0::c1::t)),.int .i64 a] w fun e w'=>∃p c,e=.returned (.agg #[.int .i64 7,.int .i64 0,.int .i64 0,.int .i64 0,.int .i64 0,.slice p 1 c])∧QS w' (.slice p 1 c) (QX [256*(c0.toNat:Int)+(c1.toNat:Int)])∧Below w.heap.size w w':=by
 have hb1:=QF w (.cells z6 97)
 have Hx1:=QB (QH w (.cells z6 97))
 have HM:=QB (Match_c (c0::c1::t) a hl ha (w.alloc (.cells z6 97)) (Nat.le_trans h11 hb1.size) (hT.below hb1))
 have Hm:=QB hm
 have e0:=Rf.ZQ (show (c0::c1::t)[0]? = some c0 from rfl)
 have e1:=Rf.ZQ (show (c0::c1::t)[1]? = some c1 from rfl)
 have r0:=c0.toNat_lt
 have r1:=c1.toNat_lt
 have HT1:=QB (hT.below hb1)
 have h11':=Nat.le_trans h11 hb1.size
 have HW:=QB (fun n W hT h=>with_c (tu:=tu) [100,99,46,119] _ find_words (by decide) n W hT h)
 have hl1:(bstr (c0::c1::t)).size=t.length+2:=by rw[ZA];rfl
 have hl2:(((c0::c1::t).length:Nat):Int)≠1:=by simp only[List.length_cons];omega
 have hl3:((((c0::c1::t).length:Nat):Int)==1)=false:=by simp only[beq_eq_false_iff_ne];exact hl2
 have hl4:(0:Int)<(((c0::c1::t).length:Nat):Int):=by simp only[List.length_cons];omega
 have hl5:(1:Int)<(((c0::c1::t).length:Nat):Int):=by simp only[List.length_cons];omega
 generalize (c0::c1::t)=S at *
 clear hT hm hl1 hl2
 go_enter Tryz.func51,Tryz.ntmps51
 go_wp2_with (go_at_call 92;refine(QA HM).mono ?_;rintro e w2 ⟨o,p,n,c,rfl,hin,hb2⟩;rw[QA Hm];clear hin;have hba:=QE hb2 (QF w2 (.cells #[.int .i64 o.kind,.int .i64 o.base,.int .i64 o.number,.int .i64 o.first,.int .i64 o.last,.slice p n c] 97));have Hx2:=QB (bbox hba (QA Hx1)))
 have hbd:Below w.heap.size w ((w2.alloc (.cells #[.int .i64 o.kind,.int .i64 o.base,.int .i64 o.number,.int .i64 o.first,.int .i64 o.last,.slice p n c] 97)).drew):=QE hb1 (QW hba)
 have HTd:=QB ((QA HT1).below (QW hba))
 have h11d:=Nat.le_trans h11' (QW hba).size
 have Hxd:=QB (bbox (QW hba) (QA Hx1))
 refine wp_region_noPanic ?_
 refine wp_region_held_drew (S:=fun _=>True) (by kernel_rfl) trivial (fun hHeld=>?_)
 refine wpAnyH_take (i:=0) (oi:=f6o0) (v:=.string (bstr S)) rfl (by kernel_rfl) (by kernel_rfl) (by kernel_rfl) (fun _ _ _ h=>h) (Or.inl ⟨by rfl,?hy0⟩) (by assumption) ?rest0
 case hy0=>(intro w' hSw;go_simp;(try first|done|(intro hS0;rw[hS0]at hl4;simp at hl4;done)|(rw[IntWalk.i64_in _ (by omega)];done)|(rw[IntWalk.i64_in _ (by omega)];omega)))
 (try simp only[Act.put,List.setIfInBounds_toArray,List.set_cons_zero,List.set_cons_succ])
 refine wpAnyH_take (i:=1) (oi:=f6o1) (v:=.int .u8 (c0.toNat:Int)) rfl (by kernel_rfl) (by kernel_rfl) (by kernel_rfl) (fun _ _ _ h=>h) (Or.inl ⟨by rfl,?hy1⟩) (by assumption) ?rest1
 case hy1=>(intro w' hSw;go_simp;(try first|done|(intro hS0;rw[hS0]at hl4;simp at hl4;done)|(rw[IntWalk.i64_in _ (by omega)];done)|(rw[IntWalk.i64_in _ (by omega)];omega)))
 (try simp only[Act.put,List.setIfInBounds_toArray,List.set_cons_zero,List.set_cons_succ])
 refine wpAnyH_take (i:=2) (oi:=f6o2) (v:=.int .i64 (c0.toNat:Int)) rfl (by kernel_rfl) (by kernel_rfl) (by kernel_rfl) (fun _ _ _ h=>h) (Or.inl ⟨by rfl,?hy2⟩) (by assumption) ?rest2
 case hy2=>(intro w' hSw;go_simp;(try first|done|(intro hS0;rw[hS0]at hl4;simp at hl4;done)|(rw[IntWalk.i64_in _ (by omega)];done)|(rw[IntWalk.i64_in _ (by omega)];omega)))
 (try simp only[Act.put,List.setIfInBounds_toArray,List.set_cons_zero,List.set_cons_succ])
 refine wpAnyH_take (i:=3) (oi:=f6o3) (v:=.int .i64 (256*(c0.toNat:Int))) rfl (by kernel_rfl) (by kernel_rfl) (by kernel_rfl) (fun _ _ _ h=>h) (Or.inl ⟨by rfl,?hy3⟩) (by assumption) ?rest3
 case hy3=>(intro w' hSw;go_simp;(try first|done|(intro hS0;rw[hS0]at hl4;simp at hl4;done)|(rw[IntWalk.i64_in _ (by omega)];done)|(rw[IntWalk.i64_in _ (by omega)];omega)))
 (try simp only[Act.put,List.setIfInBounds_toArray,List.set_cons_zero,List.set_cons_succ])
 refine wpAnyH_take (i:=4) (oi:=f6o4) (v:=.string (bstr S)) rfl (by kernel_rfl) (by kernel_rfl) (by kernel_rfl) (fun _ _ _ h=>h) (Or.inl ⟨by rfl,?hy4⟩) (by assumption) ?rest4
 case hy4=>(intro w' hSw;go_simp;(try first|done|(intro hS0;rw[hS0]at hl4;simp at hl4;done)|(rw[IntWalk.i64_in _ (by omega)];done)|(rw[IntWalk.i64_in _ (by omega)];omega)))
 (try simp only[Act.put,List.setIfInBounds_toArray,List.set_cons_zero,List.set_cons_succ])
 refine wpAnyH_take (i:=5) (oi:=f6o5) (v:=.int .u8 (c1.toNat:Int)) rfl (by kernel_rfl) (by kernel_rfl) (by kernel_rfl) (fun _ _ _ h=>h) (Or.inl ⟨by rfl,?hy5⟩) (by assumption) ?rest5
 case hy5=>(intro w' hSw;go_simp;(try first|done|(intro hS0;rw[hS0]at hl4;simp at hl4;done)|(rw[IntWalk.i64_in _ (by omega)];done)|(rw[IntWalk.i64_in _ (by omega)];omega)))
 (try simp only[Act.put,List.setIfInBounds_toArray,List.set_cons_zero,List.set_cons_succ])
 refine wpAnyH_take (i:=6) (oi:=f6o6) (v:=.int .i64 (c1.toNat:Int)) rfl (by kernel_rfl) (by kernel_rfl) (by kernel_rfl) (fun _ _ _ h=>h) (Or.inl ⟨by rfl,?hy6⟩) (by assumption) ?rest6
 case hy6=>(intro w' hSw;go_simp;(try first|done|(intro hS0;rw[hS0]at hl4;simp at hl4;done)|(rw[IntWalk.i64_in _ (by omega)];done)|(rw[IntWalk.i64_in _ (by omega)];omega)))
 (try simp only[Act.put,List.setIfInBounds_toArray,List.set_cons_zero,List.set_cons_succ])
 refine wpAnyH_take (i:=7) (oi:=f6o7) (v:=.int .i64 (256*(c0.toNat:Int)+(c1.toNat:Int))) rfl (by kernel_rfl) (by kernel_rfl) (by kernel_rfl) (fun _ _ _ h=>h) (Or.inl ⟨by rfl,?hy7⟩) (by assumption) ?rest7
 case hy7=>(intro w' hSw;go_simp;(try first|done|(intro hS0;rw[hS0]at hl4;simp at hl4;done)|(rw[IntWalk.i64_in _ (by omega)];done)|(rw[IntWalk.i64_in _ (by omega)];omega)))
 (try simp only[Act.put,List.setIfInBounds_toArray,List.set_cons_zero,List.set_cons_succ])
 refine wpAnyH_ready (rs:=[8]) (by kernel_rfl) (by simp) ?_
 refine AllReadyH.cons (o:=f6o8) rfl (fun K hK=>?_) AllReadyH.nil
 go_simp
 refine(QA HW (256*(c0.toNat:Int)+(c1.toNat:Int)) _ (QA HTd) h11d).mono ?_
 rintro e w3 ⟨pw,cw,rfl,hO3,hb3⟩
 have Hx3:=QB (bbox hb3 (QA Hxd))
 have HO3:=QB hO3
 clear hO3
 dsimp only
 refine hK.out _ _ trivial (fun hHeld=>?_)
 clear hK K
 (try simp only[Act.put,List.setIfInBounds_toArray,List.set_cons_zero,List.set_cons_succ])
 refine wpAnyH_ready (rs:=[9]) (by kernel_rfl) (by simp) ?_
 refine AllReadyH.cons (o:=f6o9) rfl (fun K hK=>?_) AllReadyH.nil
 rw[if_pos (show Region.wanted f6o9 _=true from rfl)]
 refine wp_store_row 97 (.tmp 4) (.tmp 30) rfl w.heap.size #[.int .i64 7,.int .i64 0,.int .i64 0,.int .i64 0,.int .i64 0,.slice pw 1 cw] rfl rfl 97 z6 (by exact QA Hx3) (by kernel_rfl) rfl (ins_one _ _ _ _ _ _ _ _) ?_
 refine hK.out _ _ trivial (fun hHeld=>?_)
 clear hK K
 (try simp only[Act.put,List.setIfInBounds_toArray,List.set_cons_zero,List.set_cons_succ])
 refine wpAnyH_done (by kernel_rfl) ?_ _
 refine NoPanic.normal ?_
 go_wp2
 refine bodyPost_ret (v:=.agg #[.int .i64 7,.int .i64 0,.int .i64 0,.int .i64 0,.int .i64 0,.slice pw 1 cw]) (by exact results_cell_row Tryz.results51 _ _ w.heap.size 97 _ _ _ rfl (by exact ZJ (QA Hx3)) Tryz.underlying97 rfl (by kernel_rfl)) rfl ?_
 refine⟨pw,cw,rfl,ZP (QA HO3) (QA Hx3) (by decide),QT (QE hbd hb3) (Nat.le_refl _) _⟩
theorem first_c (s:Strd.Bs) (hs:s≠[]) (a:Int) (hl:s.length≤2^40) (ha:-2^31≤a∧a≤2^31) (w:World) {tu:Bool} (hT:TabsX tu w) (h11:11≤w.heap.size) :
  Calls Tryz.prog 51 #[.string (bstr s),.int .i64 a] w fun e w'=>∃p n c,e=.returned (.agg #[.int .i64 (Strd.ZH s a).op.kind,.int .i64 (Strd.ZH s a).op.base,.int .i64 (Strd.ZH s a).op.number,.int .i64 (Strd.ZH s a).op.first,.int .i64 (Strd.ZH s a).op.last,.slice p n c])∧QS w' (.slice p n c) (Strd.ZH s a).oprs∧Below w.heap.size w w':=by
 cases hm:Strd.matchIns s a with
 |some i=>
  have e:Strd.ZH s a=i:=by unfold Strd.ZH;rw[hm]
  rw[e]
  exact first_some s a hl ha w hT h11 i hm
 |none=>
  cases s with
  |nil=>exact(hs rfl).elim
  |cons c0 t=>
   cases t with
   |nil=>
    have e:Strd.ZH [c0] a=Strd.QQ Strd.bytesOp [(c0.toNat:Int)]:=by unfold Strd.ZH;rw[hm];rfl
    rw[e]
    refine(first_one c0 a ha w hT h11 hm).mono ?_
    rintro e w' ⟨p,c,rfl,hO,hb⟩
    exact⟨p,1,c,rfl,hO,hb⟩
   |cons c1 t=>
    have e:Strd.ZH (c0::c1::t) a=Strd.QQ Strd.wordsOp [256*(c0.toNat:Int)+(c1.toNat:Int)]:=by
     unfold Strd.ZH;rw[hm]
     simp only
     rw[if_neg (by simp)]
     rfl
    rw[e]
    refine(first_two c0 c1 t a hl ha w hT h11 hm).mono ?_
    rintro e w' ⟨p,c,rfl,hO,hb⟩
    exact⟨p,1,c,rfl,hO,hb⟩
theorem mayBe_c (org:Int) (s:Strd.Bs) (w:World) (ho:-2^60≤org∧org≤2^60) (hl:s.length≤2^40) :
  Calls Tryz.prog 48 #[.agg #[.int .i64 org,.string (bstr s)]] w fun e w'=>e=.returned (.bool (Strd.mayBe org s))∧Below w.heap.size w w':=by
 have HA:=QB (fun W=>Allows_c 11 org W ho)
 have hx:Strd.allows 11 org=Strd.isPlace org:=rfl
 rw[hx]at HA
 generalize hX:Strd.mayBe org s=X
 unfold Strd.mayBe at hX
 have Hbx:=QB (QH w (.cells #[.int .i64 org,.string (bstr s)] 23))
 have hba:=QF w (.cells #[.int .i64 org,.string (bstr s)] 23)
 have hw1:IntKind.i64.wrap (org+(s.length:Int))=org+(s.length:Int):=IntWalk.i64_in _ (by omega)
 have hw2:IntKind.i64.wrap (org+(s.length:Int)-1)=org+(s.length:Int)-1:=IntWalk.i64_in _ (by omega)
 have hl2:List.length s≤9223372036854775807:=by omega
 cases hp:Strd.isPlace org with
 |false=>
  rw[hp]at hX HA
  have HX:=QB hX
  clear hX
  go_enter Tryz.func48,Tryz.ntmps48
  go_wp2_with (go_at_call 84;refine(QA HA _).mono ?_;rintro e w' ⟨rfl,rfl⟩)
  go_ret
  exact⟨by rw[←QA HX];rfl,hba⟩
 |true=>
  rw[hp]at hX HA
  by_cases h4:s.length≤400
  ·have h4I:¬(400:Int)<(s.length:Int):=by omega
   by_cases h5:org+(s.length:Int)-1≤0xfffffe
   ·have HX:Hid (X=true):=QB (by rw[←hX];simp[h4,h5])
    clear hX
    go_enter Tryz.func48,Tryz.ntmps48
    go_wp2_with (go_at_call 84;refine(QA HA _).mono ?_;rintro e w' ⟨rfl,rfl⟩)
    go_ret
    exact⟨by rw[QA HX];first|(simp;omega)|(simp;done),hba⟩
   ·have HX:Hid (X=false):=QB (by rw[←hX];simp[h4,h5])
    clear hX
    go_enter Tryz.func48,Tryz.ntmps48
    go_wp2_with (go_at_call 84;refine(QA HA _).mono ?_;rintro e w' ⟨rfl,rfl⟩)
    go_ret
    exact⟨by rw[QA HX];first|(simp;omega)|(simp;done),hba⟩
  ·have h4I:(400:Int)<(s.length:Int):=by omega
   have HX:Hid (X=false):=QB (by rw[←hX];simp[h4])
   clear hX
   go_enter Tryz.func48,Tryz.ntmps48
   go_wp2_with (go_at_call 84;refine(QA HA _).mono ?_;rintro e w' ⟨rfl,rfl⟩)
   go_ret
   exact⟨by rw[QA HX];rfl,hba⟩
end Go.Proofs.YtegiloiojloaoaaGreatDoor
