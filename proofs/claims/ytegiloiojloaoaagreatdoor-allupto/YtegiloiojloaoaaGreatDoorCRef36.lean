/- The law's book in memory: lists that came out, each full of a mark. -/
import Derived.Test.YtegiloiojloaoaaGreatDoorCSpec
import Derived.Test.YtegiloiojloaoaaGreatDoorCRef34
import Derived.Test.YtegiloiojloaoaaGreatDoorCRef26
import Derived.Deep.CutBlock
import Derived.Deep.DeepCutAuto
import Derived.Test.YtegiloiojloaoaaGreatDoorCAsmL
set_option linter.unusedVariables false
set_option linter.unusedSimpArgs false
set_option maxHeartbeats 8000000
set_option maxRecDepth 1000000
namespace Go.Proofs.YtegiloiojloaoaaGreatDoor
open Go.RowKit Go.Shelf Go.Sort Go.Maps
namespace Rf
def encK (e:Sl×Int):List Value:=[.slice e.1.1 e.1.2.1 e.1.2.2,.int .i64 e.2]
def markB:Strd.Bs:=[109,97,114,107]
def MarkAt (w:World) (e:Sl×Int):Prop:=∀i,i<e.1.2.1→∃b,e.1.1=some ⟨b,0,none⟩∧b<w.heap.size∧w.cell? ⟨b,i*2,none⟩=some (.string (bstr markB))∧w.cell? ⟨b,i*2+1,none⟩=some (.int .i64 e.2)∧∃cur,w.heap[b]? = some (.cells cur 37 (0,0))
structure BookAt (base:Nat) (w:World) (g:Nat) (E:List (Sl×Int)) (cnt:Int) (pa:Option Addr) (ca:Nat):Prop where
 box:w.heap[g]? = some (.cells #[.slice pa E.length ca,.int .i64 cnt] 31 (0,0))
 row:w.ownsRow base 110 2 (.slice pa E.length ca) E.length (E.flatMap encK)
 marks:∀e∈E,MarkAt w e
 gb:base≤g
theorem MarkAt.below {w w':World} {e:Sl×Int} (h:MarkAt w e) (hb:Below w.heap.size w w'):MarkAt w' e:=fun i hi=>by
 obtain⟨b,h1,h2,h3,h4,cur,h5⟩:=h i hi
 exact⟨b,h1,Nat.lt_of_lt_of_le h2 hb.size,(hb.cell (p:=⟨b,i*2,none⟩) h2).trans h3,(hb.cell (p:=⟨b,i*2+1,none⟩) h2).trans h4,cur,bbox hb h5⟩
theorem BookAt.below {base:Nat} {w w':World} {g:Nat} {E:List (Sl×Int)} {cnt:Int} {pa:Option Addr} {ca:Nat} (h:BookAt base w g E cnt pa ca) (hb:Below w.heap.size w w'):BookAt base w' g E cnt pa ca:=
 ⟨bbox hb h.box,QO h.row hb,fun e he=>(h.marks e he).below hb,h.gb⟩
theorem MarkAt.same {w w':World} {e:Sl×Int} (h:MarkAt w e) (hs:w.heap.size≤w'.heap.size) (hb:∀b,e.1.1=some ⟨b,0,none⟩→0<e.1.2.1→w'.heap[b]? = w.heap[b]?):MarkAt w' e:=fun i hi=>by
 obtain⟨b,h1,h2,h3,h4,cur,h5⟩:=h i hi
 have:=hb b h1 (by omega)
 refine⟨b,h1,by omega,?_,?_,cur,by rw[this];exact h5⟩
 ·rw[World.cell?_of_block (a:=⟨b,i*2,none⟩) this];exact h3
 ·rw[World.cell?_of_block (a:=⟨b,i*2+1,none⟩) this];exact h4
theorem labCells_rep (n:Nat) (m:Int):∀j,j<n→(ZD (List.replicate n (markB,m)))[j*2]? = some (.string (bstr markB))∧(ZD (List.replicate n (markB,m)))[j*2+1]? = some (.int .i64 m):=by
 intro j hj
 have e:(List.replicate n (markB,m))[j]? = some (markB,m):=by rw[List.getElem?_replicate,if_pos hj]
 have h0:=flatMap_get encLab 2 (fun _=>rfl) (List.replicate n (markB,m)) j 0 _ e (by omega)
 have h1:=flatMap_get encLab 2 (fun _=>rfl) (List.replicate n (markB,m)) j 1 _ e (by omega)
 exact⟨by simpa [ZD,encLab] using h0,by simpa [ZD,encLab] using h1⟩
theorem mark_row {w:World} {B n c:Nat} {p:Option Addr} {m:Int} (h:w.ownsRow B 37 2 (.slice p n c) n (ZD (List.replicate n (markB,m)))) {q:Option Addr} {k d:Nat} (hk:k≤n) (hq:q=p):MarkAt w ((q,k,d),m):=fun i hi=>by
 have hn:0<n:=by
  have:i<k:=hi
  omega
 obtain⟨b,h1,_,_,h4,h5⟩:=ownsRow_cell h hn
 have hi':i<n:=by
  have:i<k:=hi
  omega
 obtain⟨c0,c1⟩:=labCells_rep n m i hi'
 refine⟨b,by rw[←h1];exact hq,h4,h5 _ _ c0,h5 _ _ c1,?_⟩
 rcases h.2 with ⟨h0,h0'⟩|⟨g',c',cur,hv,_,hh,_⟩
 ·omega
 ·rw[h1]at hv
  simp only[Value.slice.injEq,Option.some.injEq,Addr.mk.injEq]at hv
  obtain⟨⟨rfl,_⟩,_⟩:=hv
  exact⟨cur,hh⟩
theorem MarkAt.tag {w w':World} {e:Sl×Int} {B:Nat} {D:Obj→Prop} (h:MarkAt w e) (hk:Kept B D w w') (hD:∀cur,¬D (.cells cur 37 (0,0))):MarkAt w' e:=h.same hk.size (fun b h1 h2=>by
 obtain⟨b',e1,e2,_,_,cur,e5⟩:=h 0 h2
 rw[h1]at e1
 cases e1
 exact hk.block b e2 (.inr (fun o ho hd=>by rw[e5]at ho;cases ho;exact hD _ hd)))
theorem MarkAt.ne {w:World} {e:Sl×Int} (h:MarkAt w e) {g:Nat} {cs:Array Value} (hg:w.heap[g]? = some (.cells cs 31 (0,0))):∀b,e.1.1=some ⟨b,0,none⟩→0<e.1.2.1→b≠g:=by
 intro b h1 h2 hbg
 obtain⟨b',e1,_,_,_,cur,e5⟩:=h 0 h2
 rw[h1]at e1
 cases e1
 rw[hbg,hg]at e5
 cases e5
theorem row_setCell {w:World} {base size n c b j:Nat} {e:TypeId} {xs:List Value} (v:Value) (h:w.ownsRow base e size (.slice (some ⟨b,0,none⟩) n c) n xs) (hj:j<xs.length) :
  (w.setCell ⟨b,j,none⟩ v).ownsRow base e size (.slice (some ⟨b,0,none⟩) n c) n (xs.set j v)∧Kept base (Tag e) w (w.setCell ⟨b,j,none⟩ v)∧w.frozen? ⟨b,j,none⟩=false∧b<w.heap.size∧base≤b∧∃u,w.cell? ⟨b,j,none⟩=some u:=by
 have hl:=h.1
 rcases h.2 with ⟨h1,_⟩|⟨g,cap,cur,hv,hb,hh,hc,hm,hs,ht⟩
 ·cases h1
 ·simp only[Value.slice.injEq,Option.some.injEq,Addr.mk.injEq]at hv
  obtain⟨⟨rfl,_⟩,_,rfl⟩:=hv
  refine⟨⟨by rw[List.length_set];exact hl,.inr ⟨b,c,cur.set! j v,rfl,hb,?_,hc,hm,by simpa using hs,?_⟩⟩,?_,ZC hh j,QD hh,hb,?_⟩
  ·simp[World.setCell,Array.getElem?_modify,hh]
  ·rw[Array.set!,Array.toList_setIfInBounds,List.take_set,ht]
  ·refine⟨rfl,rfl,rfl,Nat.le_of_eq (Rf.ZF w b j _).symm,fun k _ hd=>Below.heap_setCell _ _ _ _ ?_⟩
   rintro rfl
   rcases hd with hd|hd
   ·omega
   ·exact hd _ hh ⟨_,_,rfl⟩
  ·refine⟨xs[j],?_⟩
   rw[QC hh j,←Array.getElem?_toList]
   have:(cur.toList.take (n*size))[j]? = some xs[j]:=by rw[ht,gE hj]
   rw[List.getElem?_take_of_lt (by omega)]at this
   exact this
theorem labCells_len (l:List (Strd.Bs×Int)):(ZD l).length=l.length*2:=by
 unfold ZD
 induction l with
 |nil=>rfl
 |cons p l ih=>simp only[List.flatMap_cons,List.length_append,List.length_cons,ih];simp[encLab];omega
theorem labCells_set:∀(l:List (Strd.Bs×Int)) (i:Nat) (x:Strd.Bs×Int),i<l.length→((ZD l).set (i*2) (.string (bstr x.1))).set (i*2+1) (.int .i64 x.2)=ZD (l.set i x)
 |[],_,_,h=>by simp at h
 |p::l,0,x,_=>by simp[ZD,encLab]
 |p::l,i+1,x,h=>by
  have ih:=labCells_set l i x (by simpa using h)
  have e:(i+1)*2=i*2+2:=by omega
  rw[List.set_cons_succ,e]
  show (([Value.string (bstr p.1),.int .i64 p.2]++ZD l).set (i*2+2) _).set (i*2+2+1) _=[Value.string (bstr p.1),.int .i64 p.2]++ZD (l.set i x)
  rw[←ih]
  simp
theorem rep_set (l:List (Strd.Bs×Int)) (n i:Nat) (x:Strd.Bs×Int) (hl:l.length=n) (hi:i<n):(List.replicate i x++l.drop i).set i x=List.replicate (i+1) x++l.drop (i+1):=by
 rw[List.set_append_right _ _ (by simp),List.length_replicate,Nat.sub_self,List.drop_eq_getElem_cons (by omega),List.set_cons_zero,List.replicate_succ',List.append_assoc]
 rfl
def KTag (o:Obj):Prop:=Tag 31 o∨Tag 37 o∨Tag 110 o
theorem encK_one (e:Sl×Int):∀u∈encK e,u.oneCell'=true:=by
 intro u hu
 simp only[encK,List.mem_cons,List.not_mem_nil,or_false]at hu
 rcases hu with rfl|rfl <;> rfl
theorem news_encK (w:World) (x:Sl×Int) (t:TypeId):∀j u,(encK x)[j]? = some u→(w.alloc (.cells (encK x).toArray t)).drew.cell? ((⟨w.heap.size,0,none⟩:Addr).add j)=some u:=by
 intro j u h
 have hb:=QC (box_new_d w (.cells (encK x).toArray t)) j
 rw[gA]at hb
 rw[Addr.add_lit,Nat.zero_add]
 exact hb.trans h
end Rf
namespace Rf
theorem info110:(Tryz.prog.info? 110).map (fun i=>(i.zero,i.size,i.bytes))=some (some (.agg #[.slice none 0 0,.int .i64 0]),2,32):=by kernel_rfl
noncomputable def ops9:Array Oper:=((Tryz.f30.body.bind (opsOf 9)).getD #[])
def Left9 (tmps:Array Value) (R:World→Prop) (e:Exit) (a:Act) (w:World):Prop:=match e with
 |.normal=>a.defers=[]∧a.tmps.size=tmps.size∧(∀i,i<35∨50<i→a.tmps[i]? = tmps[i]?)∧R w
 |_=>False
theorem frame9 {t t':Array Value} (hs:t'.size=t.size) (h51:51≤t.size) (h:∀i,i<35∨50<i→t'[i]? = t[i]?):∃x0 x1 x2 x3 x4 x5 x6 x7 x8 x9 y0 y1 y2 y3 y4 y5,t'=(t.toList.take 35++[x0,x1,x2,x3,x4,x5,x6,x7,x8,x9,y0,y1,y2,y3,y4,y5]++t.toList.drop 51).toArray:=by
 refine⟨t'[35]'(by omega),t'[36]'(by omega),t'[37]'(by omega),t'[38]'(by omega),t'[39]'(by omega),t'[40]'(by omega),t'[41]'(by omega),t'[42]'(by omega),t'[43]'(by omega),t'[44]'(by omega),t'[45]'(by omega),t'[46]'(by omega),t'[47]'(by omega),t'[48]'(by omega),t'[49]'(by omega),t'[50]'(by omega),?_⟩
 have hl:(t.toList.take 35).length=35:=by rw[List.length_take,Array.length_toList];omega
 apply Array.ext_getElem?
 intro i
 rw[List.append_assoc]
 refine Eq.trans ?_ List.getElem?_toArray.symm
 by_cases h1:i<35
 ·rw[List.getElem?_append_left (by omega),List.getElem?_take_of_lt h1,Array.getElem?_toList]
  exact h i (.inl h1)
 ·rw[List.getElem?_append_right (by omega),hl]
  by_cases h2:50<i
  ·rw[List.getElem?_append_right (by simp;omega),List.getElem?_drop,Array.getElem?_toList]
   rw[h i (.inr h2)]
   show t[i]? = t[51+(i-35-16)]?
   rw[show 51+(i-35-16)=i by omega]
  ·have hc:i=35∨i=36∨i=37∨i=38∨i=39∨i=40∨i=41∨i=42∨i=43∨i=44∨i=45∨i=46∨i=47∨i=48∨i=49∨i=50:=by omega
   rcases hc with rfl|rfl|rfl|rfl|rfl|rfl|rfl|rfl|rfl|rfl|rfl|rfl|rfl|rfl|rfl|rfl <;> (rw[Array.getElem?_eq_getElem (by omega)];rfl)
end Rf
theorem region9 (base g:Nat) (wr:World) (EE:List (Sl×Int)) (cn mk:Int) (pa:Option Addr) (ca:Nat) (p':Option Addr) (n' c':Nat) (tmps:Array Value) (R:World→Prop)
  (hsz:tmps.size=55) (h0:tmps[0]? = some (.pointer (some ⟨g,0,none⟩))) (h1:tmps[1]? = some (.slice p' n' c'))
  (hbk:Rf.BookAt base wr g EE cn pa ca) (hb:base≤wr.heap.size) (hE:EE.length≤20000000) (hmk:IntKind.i64.wrap (-cn)=mk)
  (hR:∀w6 p6 cap6,Kept base (Tag 110) ((wr.alloc (.cells #[.slice p' n' c',.int .i64 mk] 110)).drew) w6→w6.ownsRow base 110 2 (.slice p6 (EE.length+1) cap6) (EE.length+1) (EE.flatMap Rf.encK++Rf.encK ((p',n',c'),mk))→R (w6.setCell ⟨g,0,none⟩ (.slice p6 (EE.length+1) cap6))) :
  (Code.region 9 Rf.ops9 true).wp Tryz.prog (Rf.Left9 tmps R) ⟨tmps,[]⟩ wr:=by
 obtain⟨i1,hi1,hy0,hy1,hy2⟩:=info_parts Rf.info110
 have KB:Hid (∀W6,Kept base (Tag 110) ((wr.alloc (.cells #[.slice p' n' c',.int .i64 mk] 110)).drew) W6→W6.cell? ⟨g,0,none⟩=some (.slice pa EE.length ca)∧W6.frozen? ⟨g,0,none⟩=false∧g<W6.heap.size):=QB (fun W6 hk=>by
  have hb:=kboxE hk (bbox (QW (QF wr (.cells #[.slice p' n' c',.int .i64 mk] 110))) hbk.box) (by decide)
  have k:=QC hb 0
  simp only[gA,gZ,gS]at k
  exact⟨k,ZC hb 0,QD hb⟩)
 have g0:=QC hbk.box 0
 have g1:=QC hbk.box 1
 simp only[gA,gZ,gS]at g0 g1
 have hgl:=QD hbk.box
 have Hrow:=QB hbk.row
 have HR:=QB hR
 clear hbk hR
 have h0':tmps[0]'(by omega)=.pointer (some ⟨g,0,none⟩):=(Array.getElem?_eq_some_iff.1 h0).2
 have h1':tmps[1]'(by omega)=.slice p' n' c':=(Array.getElem?_eq_some_iff.1 h1).2
 clear h0 h1
 conv=>arg 2;arg 2;whnf
 rw[Rf.mk_arr]
 go_region_law (refine step_append_own rfl (.tmp 39) (.tmp 47) 29 rfl base 110 i1 (.agg #[.slice none 0 0,.int .i64 0]) 2 32 Tryz.underlying29 hi1 hy0 hy1 hy2 rfl (by decide) _ _ _ (by simp[Act.eval,Act.put,hsz]) (QO (QA Hrow) (QW (QF wr _))) ⟨wr.heap.size,0,none⟩ 1 1 (Rf.encK ((p',n',c'),mk)) (by simp[Act.eval,Act.put,hsz]) rfl (Rf.news_encK _ _ _) (Rf.encK_one _) (by unfold maxLen;omega) (by omega) (by simp;omega) ?_;intro v6 w6 hown6 hk6;obtain⟨p6,cap6,hv6⟩:=Rf.row_shape hown6;subst hv6;have Hown:=QB hown6;have Hk:=QB hk6;clear hown6 hk6;obtain⟨k6,f6,hs6⟩:=QA KB w6 (QA Hk))
 all_goals refine⟨rfl,by simp,fun i hi=>?_,QA HR w6 p6 cap6 (QA Hk) (QA Hown)⟩
 all_goals repeat rw[Array.getElem?_setIfInBounds_ne (by omega)]
namespace Rf
theorem bookN {base:Nat} {w:World} {g:Nat} {E:List (Sl×Int)} {cnt:Int} {pa:Option Addr} {ca:Nat} (h:BookAt base w g E cnt pa ca) (x:Int) (hlt:∀e∈E,∀b,e.1.1=some ⟨b,0,none⟩→0<e.1.2.1→b≠g):BookAt base (w.setCell ⟨g,1,none⟩ (.int .i64 x)) g E x pa ca∧Kept base KTag w (w.setCell ⟨g,1,none⟩ (.int .i64 x)):=by
 refine⟨⟨?_,own_set h.row h.box (by decide),fun e he=>(h.marks e he).same (Nat.le_of_eq (Rf.ZF _ _ _ _).symm) (fun b h1 h2=>Below.heap_setCell _ _ _ _ (hlt e he b h1 h2)),h.gb⟩,?_⟩
 ·rw[box_set h.box];simp
 ·refine⟨rfl,rfl,rfl,Nat.le_of_eq (Rf.ZF _ _ _ _).symm,fun j _ hd=>Below.heap_setCell _ _ _ _ ?_⟩
  rintro rfl
  rcases hd with hd|hd
  ·have:=h.gb;omega
  ·exact hd _ h.box (.inl ⟨_,_,rfl⟩)
theorem BookAt.names {base B:Nat} {w w':World} {g:Nat} {E:List (Sl×Int)} {cnt:Int} {pa:Option Addr} {ca:Nat} (h:BookAt base w g E cnt pa ca) (hk:Kept B (Tag 37) w w') (hlt:∀e∈E,∀b,e.1.1=some ⟨b,0,none⟩→0<e.1.2.1→b<B):BookAt base w' g E cnt pa ca:=
 ⟨kboxE hk h.box (by decide),ZN h.row hk (not_tag (by decide)),fun e he=>(h.marks e he).same hk.size (fun b h1 h2=>by
  obtain⟨b',e1,e2,_,_,_⟩:=h.marks e he 0 h2
  rw[h1]at e1
  cases e1
  exact hk.block b e2 (.inl (hlt e he b h1 h2))),h.gb⟩
theorem BookAt.add {base:Nat} {w w6:World} {g:Nat} {E:List (Sl×Int)} {cnt:Int} {pa:Option Addr} {ca:Nat} (h:BookAt base w g E cnt pa ca) {x:Sl×Int} (hx:MarkAt w x) {p6:Option Addr} {cap6:Nat} (hk6:Kept base (Tag 110) w w6) (hown:w6.ownsRow base 110 2 (.slice p6 (E.length+1) cap6) (E.length+1) (E.flatMap encK++encK x)) :
  BookAt base (w6.setCell ⟨g,0,none⟩ (.slice p6 (E.length+1) cap6)) g (E++[x]) cnt p6 cap6∧Kept base KTag w (w6.setCell ⟨g,0,none⟩ (.slice p6 (E.length+1) cap6)):=by
 have hb6:w6.heap[g]? = _:=kboxE hk6 h.box (by decide)
 have hk7:Kept base (Tag 31) w6 (w6.setCell ⟨g,0,none⟩ (.slice p6 (E.length+1) cap6)):=by
  refine⟨rfl,rfl,rfl,Nat.le_of_eq (Rf.ZF _ _ _ _).symm,fun j _ hd=>Below.heap_setCell _ _ _ _ ?_⟩
  rintro rfl
  rcases hd with hd|hd
  ·have:=h.gb;omega
  ·exact hd _ hb6 ⟨_,_,rfl⟩
 refine⟨⟨?_,?_,?_,h.gb⟩,(hk6.mono (Nat.le_refl _) (fun o ho=>.inr (.inr ho))).trans (hk7.mono (Nat.le_refl _) (fun o ho=>.inl ho))⟩
 ·rw[box_set hb6,List.length_append,List.length_singleton]
  simp
 ·have:=own_set (i:=0) (x:=.slice p6 (E.length+1) cap6) hown hb6 (by decide)
  rw[List.length_append,List.length_singleton,List.flatMap_append]
  simpa using this
 ·intro e he
  rcases List.mem_append.1 he with he|he
  ·exact((h.marks e he).tag hk6 (not_tag (by decide))).tag hk7 (not_tag (by decide))
  ·rw[List.mem_singleton]at he
   subst he
   exact(hx.tag hk6 (not_tag (by decide))).tag hk7 (not_tag (by decide))
theorem BookAt.grown {base B:Nat} {w w8:World} {g bl N C:Nat} {EE:List (Sl×Int)} {cn mk:Int} {pa:Option Addr} {ca:Nat} (h:BookAt base w g EE cn pa ca) (hg:w.grownBy w8 (some bl)) (hk:Kept B (Tag 37) w w8) (hrow:w8.ownsRow B 37 2 (.slice (some ⟨bl,0,none⟩) N C) N (ZD (List.replicate N (markB,mk)))) (ho:∀e∈EE,(∀b,e.1.1=some ⟨b,0,none⟩→0<e.1.2.1→b≠bl)∨(e.2=mk∧e.1.2.1≤N)):BookAt base w8 g EE cn pa ca:=by
 refine⟨kboxE hk h.box (by decide),ZN h.row hk (not_tag (by decide)),fun e he=>?_,h.gb⟩
 have same:(∀b,e.1.1=some ⟨b,0,none⟩→0<e.1.2.1→b≠bl)→MarkAt w8 e:=fun hn=>(h.marks e he).same hk.size (fun b h1 h2=>by
  obtain⟨b',e1,e2,_,_,_⟩:=h.marks e he 0 h2
  rw[h1]at e1
  cases e1
  exact hg.block b e2 (fun hb=>hn b h1 h2 (Option.some.inj hb)))
 rcases ho e he with hn|⟨h1,h2⟩
 ·exact same hn
 ·by_cases hb:e.1.1=some ⟨bl,0,none⟩
  ·have:=mark_row hrow (q:=e.1.1) (k:=e.1.2.1) (d:=e.1.2.2) h2 hb
   rw[←h1]at this
   exact this
  ·exact same (fun b hb' _ hbl=>hb (by rw[hb',hbl]))
theorem grown_none {w w':World} (h:w.grownBy w' none):Below w.heap.size w w':=⟨h.os,h.tape,h.output,h.size,fun k hk=>h.block k hk (by simp)⟩
end Rf
theorem keep_c (base g B:Nat) (w:World) (E:List (Sl×Int)) (cnt:Int) (pa:Option Addr) (ca:Nat) (p:Option Addr) (n c:Nat) (l:List (Strd.Bs×Int)) (hl:l.length=n) (hBk:Rf.BookAt base w g E cnt pa ca) (hrow:w.ownsRow B 37 2 (.slice p n c) n (Rf.ZD l)) (hE:∀e∈E,∀b,e.1.1=some ⟨b,0,none⟩→0<e.1.2.1→b<B) (hbB:base≤B) (hBw:B≤w.heap.size) (hgB:g<B) (hn:n≤2000000) (hc:0≤cnt∧cnt≤10000000) (hEl:E.length≤10000000) :
  Calls Tryz.prog 30 #[.pointer (some ⟨g,0,none⟩),.slice p n c] w fun e w'=>e=.returned (.tuple #[])∧(∃E' pa' ca',Rf.BookAt base w' g E' (cnt+1) pa' ca'∧E'.length=E.length+4∧∀e∈E',e∈E∨e.1.2.1≤n+4)∧Kept base Rf.KTag w w':=by
 obtain⟨i0,hi0,hz0,hz1,hz2⟩:=info_parts Rf.info37r
 have c1:=QC hBk.box 1
 have f1:=ZC hBk.box 1
 simp only[gA,gZ,gS]at c1
 have hgl:=QD hBk.box
 have q0:IntKind.i64.wrap (cnt+1)=cnt+1:=IntWalk.i64_in _ (by omega)
 have q1:IntKind.i64.wrap (-(cnt+1))=-(cnt+1):=IntWalk.i64_in _ (by omega)
 obtain⟨hBk1,hK1⟩:=Rf.bookN hBk (cnt+1) (fun e he=>(hBk.marks e he).ne hBk.box)
 have hrow1:=Rf.own_set (i:=1) (x:=.int .i64 (cnt+1)) hrow hBk.box (by decide)
 have c1':=QC hBk1.box 1
 simp only[gA,gZ,gS]at c1'
 have hgl1:=QD hBk1.box
 have Hpb:Hid (∀b,p=some ⟨b,0,none⟩→b<w.heap.size∧B≤b):=QB (fun b hb=>by
  rcases hrow.2 with ⟨h0,_⟩|⟨g',c',cur,hv,hBg,hh,_⟩
  ·cases h0;cases hb
  ·cases hv
   cases hb
   exact⟨QD hh,hBg⟩)
 have HBk1:=QB hBk1
 have Hrow1:=QB hrow1
 have HE:=QB hE
 clear hBk hrow hBk1 hrow1 hE
 go_enter Tryz.func30,Tryz.ntmps30
 go_upto_region 2 with fail
 have hba:=QF (w.setCell ⟨g,1,none⟩ (.int .i64 (cnt+1))) (.cells #[.string ⟨#[109,97,114,107]⟩,.int .i64 (-(cnt+1))] 37)
 have Hbx:=QB (QH (w.setCell ⟨g,1,none⟩ (.int .i64 (cnt+1))) (.cells #[.string ⟨#[109,97,114,107]⟩,.int .i64 (-(cnt+1))] 37))
 rw[Rf.ZF]at Hbx
 have HBk2:=QB ((QA HBk1).below hba)
 have Hrow2:=QB (QO (QA Hrow1) hba)
 have hK2:=hK1.trans (Kept.of_below hba)
 generalize (w.setCell ⟨g,1,none⟩ (.int .i64 (cnt+1))).alloc (.cells #[.string ⟨#[109,97,114,107]⟩,.int .i64 (-(cnt+1))] 37)=W2 at *
 have hs2:w.heap.size<W2.heap.size:=QD (QA Hbx)
 obtain⟨gx,hgx⟩:∃x,x=w.heap.size:=⟨_,rfl⟩
 rw[←hgx]at Hbx ⊢
 have Hgx:=QB hgx
 clear hgx HBk1 Hrow1 hK1 c1 f1 c1' hgl1 hba
 have q5:=q1
 generalize hmk:-(cnt+1)=mk at *
 have q5':IntKind.i64.wrap (-(cnt+1))=mk:=by rw[hmk];exact q1
 clear q5
 have Hmk:=QB hmk
 clear hmk
 go_upto_block 0 with fail
 go_cut [] (fun wq=>wq.ownsRow B 37 2 (.slice p n c) n (Rf.ZD (List.replicate n (Rf.markB,mk)))∧Rf.BookAt base wq g E (cnt+1) pa ca∧wq.heap[gx]? = some (.cells #[.string ⟨#[109,97,114,107]⟩,.int .i64 mk] 37 (0,0))∧Kept base Rf.KTag w wq)
 case first=>
  as_aux_lemma=>
   go_wp2_with fail
   go_loopw [5] (fun c5 wr=>∃i:Nat,i≤n∧c5=.int .i64 i∧wr.ownsRow B 37 2 (.slice p n c) n (Rf.ZD (List.replicate i (Rf.markB,mk)++l.drop i))∧Rf.BookAt base wr g E (cnt+1) pa ca∧wr.heap[gx]? = some (.cells #[.string ⟨#[109,97,114,107]⟩,.int .i64 mk] 37 (0,0))∧Kept base Rf.KTag w wr) (fun c _=>n-(intOf c).toNat)
   case atStart=>exact⟨0,by omega,rfl,QA Hrow2,QA HBk2,QA Hbx,hK2⟩
   case round=>
    obtain⟨i,hi,rfl,hr,hbk,hbx,hk⟩:=hrel
    by_cases hlt:i<n
    ·have hln:(List.replicate i (Rf.markB,mk)++l.drop i).length=n:=by rw[List.length_append,List.length_replicate,List.length_drop];omega
     obtain⟨b,rfl,_,hBb,hbl,hcell⟩:=ownsRow_cell hr (by omega)
     have hLc:=Rf.labCells_len (List.replicate i (Rf.markB,mk)++l.drop i)
     obtain⟨r1,k1,fz1,_,_,u1,hu1⟩:=Rf.row_setCell (.string ⟨#[109,97,114,107]⟩) hr (j:=i*2) (by omega)
     obtain⟨r2,k2,fz2,hbl2,_,u2,hu2⟩:=Rf.row_setCell (.int .i64 mk) r1 (j:=i*2+1) (by rw[List.length_set];omega)
     have e2:=Rf.labCells_set (List.replicate i (Rf.markB,mk)++l.drop i) i (Rf.markB,mk) (by omega)
     rw[Rf.rep_set l n i _ hl hlt]at e2
     rw[show ((Rf.ZD (List.replicate i (Rf.markB,mk)++l.drop i)).set (i*2) (.string ⟨#[109,97,114,107]⟩)).set (i*2+1) (.int .i64 mk)=_ from e2]at r2
     have hbg:b≠gx:=by
      have h1:=QA Hgx
      have h2:=(QA Hpb b rfl).1
      omega
     have hbk2:=(hbk.names k1 (QA HE)).names k2 (QA HE)
     have hbx2:((wr.setCell ⟨b,i*2,none⟩ (.string ⟨#[109,97,114,107]⟩)).setCell ⟨b,i*2+1,none⟩ (.int .i64 mk)).heap[gx]? = some (.cells #[.string ⟨#[109,97,114,107]⟩,.int .i64 mk] 37 (0,0)):=Rf.box_other (Rf.box_other hbx (fun h=>hbg h.symm)) (fun h=>hbg h.symm)
     have hk2':=hk.trans ((k1.mono hbB (fun o h=>.inr (.inl h))).trans (k2.mono hbB (fun o h=>.inr (.inl h))))
     have x0:=QC hbx 0
     have x1:=QC hbx 1
     simp only[gA,gZ,gS]at x0 x1
     have hxl:=QD hbx
     have hltI:(i:Int)<(n:Int):=by omega
     have q3:IntKind.i64.wrap ((i:Int)+1)=(i:Int)+1:=IntWalk.i64_in _ (by omega)
     have Hr2:=QB r2
     have Hbk2:=QB hbk2
     have Hbx2:=QB hbx2
     have Hk2:=QB hk2'
     clear r1 r2 k1 k2 hbk2 hbx2 hk2' hbk hbx hk hr hcell hLc hln
     clear e2
     go_wp2
     go_roundw
     case rel=>exact⟨i+1,by omega,by go_num,QA Hr2,QA Hbk2,QA Hbx2,QA Hk2⟩
     case measure=>simp[intOf];omega
    ·obtain rfl:i=n:=by omega
     have hltI:¬(i:Int)<(i:Int):=by omega
     have Hr:=QB hr
     have Hb:=QB hbk
     have Hx:=QB hbx
     clear hr hbk hbx
     go_wp2
     go_meet
     have:=QA Hr
     rw[List.drop_eq_nil_of_le (by omega),List.append_nil]at this
     exact⟨this,QA Hb,QA Hx,hk⟩
 case rest=>
  as_aux_lemma=>
   obtain⟨hr,hbk,hbx,hk⟩:=hcut
   obtain⟨w3,hw3⟩:∃x,x=wc:=⟨_,rfl⟩
   subst hw3
   have Hr3:=QB hr
   have Hb3:=QB hbk
   have Hx3:=QB hbx
   have Hpx:Hid (∀b,p=some ⟨b,0,none⟩→b≠gx):=QB (fun b hb=>by
    have h1:=QA Hgx
    have h2:=(QA Hpb b hb).1
    omega)
   clear hr hbk hbx HBk2 Hrow2 Hbx hK2
   go_wp2_with fail
   go_loopw [1,6] (fun c1 c6 wr=>∃(k:Nat) (p':Option Addr) (c':Nat) (E1:List (Sl×Int)) (pa':Option Addr) (ca':Nat),k≤4∧c6=.int .i64 k∧c1=.slice p' (n+k) c'∧wr.ownsRow B 37 2 (.slice p' (n+k) c') (n+k) (Rf.ZD (List.replicate (n+k) (Rf.markB,mk)))∧Rf.BookAt base wr g (E++E1) (cnt+1) pa' ca'∧E1.length=k∧(∀e∈E1,e.2=mk∧e.1.2.1≤n+k)∧wr.heap[gx]? = some (.cells #[.string ⟨#[109,97,114,107]⟩,.int .i64 mk] 37 (0,0))∧(∀b,p'=some ⟨b,0,none⟩→b≠gx)∧Kept base Rf.KTag w wr) (fun _ c _=>4-(intOf c).toNat)
   case atStart=>exact⟨0,p,c,[],pa,ca,by omega,rfl,rfl,QA Hr3,by rw[List.append_nil];exact QA Hb3,rfl,fun e he=>(by cases he),QA Hx3,QA Hpx,hk⟩
   case round=>
    obtain⟨k,p',c',E1,pa',ca',hk4,rfl,rfl,hr,hbk,hE1,hE1m,hbx,hpx,hkr⟩:=hrel
    by_cases hlt:k<4
    ·
     as_aux_lemma=>
      have hltI:(k:Int)<4:=by omega
      have q6:IntKind.i64.wrap ((k:Int)+1)=(k:Int)+1:=IntWalk.i64_in _ (by omega)
      have g0:=QC hbk.box 0
      have g1:=QC hbk.box 1
      simp only[gA,gZ,gS]at g0 g1
      have hglr:=QD hbk.box
      have hbwr:base≤wr.heap.size:=Nat.le_trans (Nat.le_trans hbB hBw) hkr.size
      have hEE:(E++E1).length=E.length+k:=by rw[List.length_append,hE1]
      have Hbk:=QB hbk
      have Hr:=QB hr
      have Hbxr:=QB hbx
      have HE1:=QB hE1m
      have Hpx':=QB hpx
      have hE1':=QB hE1
      have HEE:=QB hEE
      have hEb:(E++E1).length≤10000004:=by omega
      generalize hEEg:E++E1=EE at *
      have HEEg:=QB hEEg
      clear hbk hr hbx hE1m hpx hE1 hEE hEEg
      go_upto_region 9 with fail
      go_cut [] (fun wz=>∃(p6:Option Addr) (cap6:Nat),Rf.BookAt base wz g (EE++[((p',n+k,c'),mk)]) (cnt+1) p6 cap6∧wz.ownsRow B 37 2 (.slice p' (n+k) c') (n+k) (Rf.ZD (List.replicate (n+k) (Rf.markB,mk)))∧wz.heap[gx]? = some (.cells #[.string ⟨#[109,97,114,107]⟩,.int .i64 mk] 37 (0,0))∧Kept base Rf.KTag w wz)
      case first=>
       as_aux_lemma=>
        have hgg:gx≠g:=by have:=QA Hgx;omega
        have HRr:Hid (∀w6 p6 cap6,Kept base (Tag 110) ((wr.alloc (.cells #[.slice p' (n+k) c',.int .i64 mk] 110)).drew) w6→w6.ownsRow base 110 2 (.slice p6 (EE.length+1) cap6) (EE.length+1) (EE.flatMap Rf.encK++Rf.encK ((p',n+k,c'),mk))→∃(p9:Option Addr) (cap9:Nat),Rf.BookAt base (w6.setCell ⟨g,0,none⟩ (.slice p6 (EE.length+1) cap6)) g (EE++[((p',n+k,c'),mk)]) (cnt+1) p9 cap9∧(w6.setCell ⟨g,0,none⟩ (.slice p6 (EE.length+1) cap6)).ownsRow B 37 2 (.slice p' (n+k) c') (n+k) (Rf.ZD (List.replicate (n+k) (Rf.markB,mk)))∧(w6.setCell ⟨g,0,none⟩ (.slice p6 (EE.length+1) cap6)).heap[gx]? = some (.cells #[.string ⟨#[109,97,114,107]⟩,.int .i64 mk] 37 (0,0))∧Kept base Rf.KTag w (w6.setCell ⟨g,0,none⟩ (.slice p6 (EE.length+1) cap6))):=QB (fun w6 p6 cap6 hk hown=>by
         have hbX:=QW (QF wr (.cells #[.slice p' (n+k) c',.int .i64 mk] 110))
         have hbkX:=(QA Hbk).below hbX
         have hrX:=QO (QA Hr) hbX
         have hbxX:=bbox hbX (QA Hbxr)
         obtain⟨h1,h2⟩:=hbkX.add (x:=((p',n+k,c'),mk)) (Rf.mark_row hrX (Nat.le_refl _) rfl) hk hown
         have hb6:=kboxE hk hbkX.box (by decide)
         exact⟨p6,cap6,h1,Rf.own_set (ZN hrX hk (not_tag (by decide))) hb6 (by decide),Rf.box_other (kboxE hk hbxX (by decide)) hgg,(hkr.trans (Kept.of_below hbX)).trans h2⟩)
        refine Code.wp_mono ?_ (region9 base g wr EE (cnt+1) mk pa' ca' p' (n+k) c' _ (fun w9=>∃(p6:Option Addr) (cap6:Nat),Rf.BookAt base w9 g (EE++[((p',n+k,c'),mk)]) (cnt+1) p6 cap6∧w9.ownsRow B 37 2 (.slice p' (n+k) c') (n+k) (Rf.ZD (List.replicate (n+k) (Rf.markB,mk)))∧w9.heap[gx]? = some (.cells #[.string ⟨#[109,97,114,107]⟩,.int .i64 mk] 37 (0,0))∧Kept base Rf.KTag w w9) rfl rfl rfl (QA Hbk) hbwr (by omega) q5' (QA HRr))
        intro e a w9 hh
        cases e
        case normal=>
         obtain⟨hd,hs,hsame,hR9⟩:=hh
         obtain⟨tm,df⟩:=a
         simp only at hd hs hsame
         subst hd
         obtain⟨x0,x1,x2,x3,x4,x5,x6,x7,x8,x9,z0,z1,z2,z3,z4,z5,rfl⟩:=Rf.frame9 hs (Nat.le_of_ble_eq_true rfl) hsame
         simp only[List.take_succ_cons,List.take_zero,List.drop_succ_cons,List.drop_zero,List.cons_append,List.nil_append]
         have HR9:=QB hR9
         clear hR9 hs hsame
         go_wp2
         go_meet
         exact QA HR9
        all_goals exact hh.elim
      case rest=>
       as_aux_lemma=>
        obtain⟨p6,cap6,hbk,hr,hbx,hkz⟩:=hcut
        obtain⟨w7,hw7⟩:∃x,x=wc:=⟨_,rfl⟩
        subst hw7
        have x0:=QC hbx 0
        have x1:=QC hbx 1
        simp only[gA,gZ,gS]at x0 x1
        have hxl:=QD hbx
        have Hb7:=QB hbk
        have Hr7:=QB hr
        have Hx7:=QB hbx
        have hbw7:B≤w7.heap.size:=Nat.le_trans hBw hkz.size
        have hlb:∀e∈E,∀b,e.1.1=some ⟨b,0,none⟩→0<e.1.2.1→b<B:=QA HE
        have HlB:=QB hlb
        have Hxn:Hid (Rf.ZD (List.replicate (n+k) (Rf.markB,mk))++[.string ⟨#[109,97,114,107]⟩,.int .i64 mk]=Rf.ZD (List.replicate (n+(k+1)) (Rf.markB,mk))):=QB (by
         rw[show n+(k+1)=(n+k)+1 by omega,List.replicate_succ',Rf.labCells_app]
         rfl)
        clear hbk hr hbx hlb Hbk Hr Hbxr
        have hszx:w7.heap.size<(w7.alloc (.cells #[.string ⟨#[109,97,114,107]⟩,.int .i64 mk] 37)).heap.size:=by rw[World.size_alloc];omega
        have hbax:=QF w7 (.cells #[.string ⟨#[109,97,114,107]⟩,.int .i64 mk] 37)
        have HEm:Hid (∀e∈EE++[((p',n+k,c'),mk)],e∈E∨(e.2=mk∧e.1.2.1≤n+k)):=QB (fun e he=>by
         rw[←QA HEEg]at he
         rcases List.mem_append.1 he with he|he
         ·rcases List.mem_append.1 he with he|he
          ·exact .inl he
          ·exact .inr (QA HE1 e he)
         ·rw[List.mem_singleton]at he
          subst he
          exact .inr ⟨rfl,Nat.le_refl _⟩)
        have HE1n:Hid (∀e∈E1++[((p',n+k,c'),mk)],e.2=mk∧e.1.2.1≤n+(k+1)):=QB (fun e he=>by
         rcases List.mem_append.1 he with he|he
         ·have:=QA HE1 e he
          exact⟨this.1,by omega⟩
         ·rw[List.mem_singleton]at he
          subst he
          exact⟨rfl,by show n+k≤n+(k+1);omega⟩)
        have HEas:Hid (E++(E1++[((p',n+k,c'),mk)])=EE++[((p',n+k,c'),mk)]):=QB (by rw[←QA HEEg,List.append_assoc])
        by_cases hcap:n+k+1≤c'
        ·
         as_aux_lemma=>
          obtain⟨bl,hp',hBl⟩:∃bl,p'=some ⟨bl,0,none⟩∧B≤bl:=by
           rcases (QA Hr7).2 with ⟨h0,_⟩|⟨g',c'',cur,hv,hBg,_⟩
           ·simp only[Value.slice.injEq]at h0
            omega
           ·simp only[Value.slice.injEq]at hv
            exact⟨g',hv.1,hBg⟩
          subst hp'
          have hblx:=QA Hpx' bl rfl
          go_wp2_with (first|(at_builtin;refine wpList_append_fits _ rfl _ _ 33 rfl B 37 i0 2 Tryz.underlying33 hi0 hz1 bl (n+k) c' _ rfl ((QA Hr7).alloc _) ⟨w7.heap.size,0,none⟩ 1 1 [.string ⟨#[109,97,114,107]⟩,.int .i64 mk] rfl rfl (Rf.cells_two _ _ _ _) (Rf.lab_one Rf.markB mk) hcap ?_;intro w8 hown hgrow;have Hown:=QB hown;have Hgr:=QB hgrow;clear hown hgrow)|go_in)
          go_roundw
          case rel=>
           have hown:=QA Hown
           rw[QA Hxn]at hown
           have hkk:Kept B (Tag 37) (w7.alloc (.cells #[.string ⟨#[109,97,114,107]⟩,.int .i64 mk] 37)) w8:=Kept.of_grown (v:=.slice (some ⟨bl,0,none⟩) (n+k) c') (QA Hgr) ((QA Hr7).alloc _)
           have hbk8:=((QA Hb7).below hbax).grown (QA Hgr) hkk hown (fun e he=>by
            rcases QA HEm e he with h|⟨h1,h2⟩
            ·exact .inl (fun b hb h2=>by have:=QA HlB e h b hb h2;omega)
            ·exact .inr ⟨h1,by omega⟩)
           have hbx8:w8.heap[gx]? = some (.cells #[.string ⟨#[109,97,114,107]⟩,.int .i64 mk] 37 (0,0)):=by
            rw[(QA Hgr).block gx (by omega) (fun h=>hblx (Option.some.inj h).symm)]
            exact bbox hbax (QA Hx7)
           refine⟨k+1,some ⟨bl,0,none⟩,c',E1++[((some ⟨bl,0,none⟩,n+k,c'),mk)],p6,cap6,by omega,by go_num,rfl,hown,?_,by rw[List.length_append,QA hE1',List.length_singleton],QA HE1n,hbx8,fun b hb=>by cases hb;exact hblx,hkz.trans ((Kept.of_below hbax).trans (hkk.mono hbB (fun o ho=>.inr (.inl ho))))⟩
           rw[QA HEas]
           exact hbk8
          case measure=>simp[intOf];omega
        ·
         as_aux_lemma=>
          go_wp2_with (first|(at_builtin;refine wpList_append_grows _ rfl _ _ 33 rfl 37 i0 (.agg #[.string ⟨#[]⟩,.int .i64 0]) 2 24 Tryz.underlying33 hi0 hz0 hz1 hz2 rfl (by decide) p' (n+k) c' (Rf.ZD (List.replicate (n+k) (Rf.markB,mk))) rfl (fun h=>by
            rcases (QA Hr7).2 with ⟨h0,_⟩|⟨g',c'',cur,hv,_⟩
            ·simp only[Value.slice.injEq]at h0
             exact⟨h0.2.1,h0.2.2⟩
            ·rw[h]at hv;cases hv) (QA Hr7).1 (fun b hb j u hj=>by
            rcases (QA Hr7).2 with ⟨h0,h0'⟩|⟨g',c'',cur,hv,_⟩
            ·rw[hb]at h0;cases h0
            ·have hn0:0<n+k:=by
              have:=(QA Hr7).1
              have h2:=(List.getElem?_eq_some_iff.1 hj).1
              omega
             obtain⟨b',e1,_,_,e4,e5⟩:=ownsRow_cell (QA Hr7) hn0
             rw[hb]at e1
             cases e1
             rw[Addr.add_lit,Nat.zero_add]
             exact(hbax.cell (p:=⟨b',j,none⟩) e4).trans (e5 j u hj)) ⟨w7.heap.size,0,none⟩ 1 1 [.string ⟨#[109,97,114,107]⟩,.int .i64 mk] rfl rfl (Rf.cells_two _ _ _ _) (Rf.lab_one Rf.markB mk) (by omega) (by unfold maxLen;omega) (by omega) ?_;intro v8 w8 hown hgrow;obtain⟨p9,c9,rfl⟩:=Rf.row_shape hown;have Hown:=QB hown;have Hgr:=QB hgrow;clear hown hgrow)|go_in)
          go_roundw
          case rel=>
           have hown:=QA Hown
           rw[QA Hxn]at hown
           have hb8:=Rf.grown_none (QA Hgr)
           have hb78:=QE hbax hb8
           refine⟨k+1,p9,c9,E1++[((p',n+k,c'),mk)],p6,cap6,by omega,by go_num,rfl,Rf.row_base hown (by omega),?_,by rw[List.length_append,QA hE1',List.length_singleton],QA HE1n,bbox hb78 (QA Hx7),fun b hb=>?_,hkz.trans (Kept.of_below hb78)⟩
           ·rw[QA HEas]
            exact(QA Hb7).below hb78
           ·rcases hown.2 with ⟨h0,_⟩|⟨g',c'',cur,hv,hBg,_⟩
            ·rw[hb]at h0;cases h0
            ·rw[hb]at hv
             cases hv
             omega
          case measure=>simp[intOf];omega
    ·
     as_aux_lemma=>
      obtain rfl:k=4:=by omega
      have hltI:¬((4:Nat):Int)<4:=by omega
      have Hbk:=QB hbk
      have hB:=hkr
      have hEE:(E++E1).length=E.length+4:=by rw[List.length_append,hE1]
      have HEm:Hid (∀e∈E++E1,e∈E∨e.1.2.1≤n+4):=QB (fun e he=>(List.mem_append.1 he).imp id (fun h=>(hE1m e h).2))
      clear hbk hr hbx hpx hE1m hkr
      go_wp2
      go_end0
      first|exact⟨rfl,⟨E++E1,pa',ca',QA Hbk,hEE,QA HEm⟩,hB⟩|exact⟨rfl,⟨E++E1,⟨pa',ca',QA Hbk⟩,hEE,QA HEm⟩,hB⟩|(refine⟨rfl,⟨E++E1,⟨pa',ca',QA Hbk⟩,hEE,?_⟩,hB⟩;intro a b c d he;exact QA HEm ((a,b,c),d) (by simpa using he))
namespace Rf
theorem BookAt.at {base:Nat} {w:World} {g:Nat} {E:List (Sl×Int)} {cnt:Int} {pa:Option Addr} {ca:Nat} (h:BookAt base w g E cnt pa ca) (i:Nat) (hi:i<E.length):∃b,pa=some ⟨b,0,none⟩∧b<w.heap.size∧w.cell? ⟨b,i*2,none⟩=some (.slice E[i].1.1 E[i].1.2.1 E[i].1.2.2)∧w.cell? ⟨b,i*2+1,none⟩=some (.int .i64 E[i].2):=by
 obtain⟨b,hp,_,_,hb,hc⟩:=ownsRow_cell h.row (by omega)
 have e:E[i]? = some E[i]:=gE hi
 have h0:=flatMap_get encK 2 (fun _=>rfl) E i 0 E[i] e (by omega)
 have h1:=flatMap_get encK 2 (fun _=>rfl) E i 1 E[i] e (by omega)
 exact⟨b,hp,hb,hc _ _ (by simpa [encK] using h0),hc _ _ (by simpa [encK] using h1)⟩
end Rf
theorem holds_c (base g:Nat) (w:World) (E:List (Sl×Int)) (cnt:Int) (pa:Option Addr) (ca:Nat) (hBk:Rf.BookAt base w g E cnt pa ca) (hE:E.length≤10000004) (hn:∀e∈E,e.1.2.1≤3000000) :
  Calls Tryz.prog 31 #[.pointer (some ⟨g,0,none⟩)] w fun e w'=>e=.returned (.bool true)∧Below w.heap.size w w':=by
 have HBk:=QB hBk
 have Hn:=QB hn
 clear hBk hn
 go_enter Tryz.func31,Tryz.ntmps31
 go_wp2_with fail
 go_loopw [3] (fun c3 wr=>∃i:Nat,i≤E.length∧c3=.int .i64 i∧Below w.heap.size w wr) (fun c _=>E.length-(intOf c).toNat)
 case atStart=>exact⟨0,by omega,rfl,Below.refl _ _⟩
 case round=>
  obtain⟨i,hi,rfl,hBr⟩:=hrel
  have hbr:=(QA HBk).below hBr
  have g0:=QC hbr.box 0
  simp only[gA,gZ,gS]at g0
  have hgl:=QD hbr.box
  by_cases hlt:i<E.length
  ·have hltI:(i:Int)<(E.length:Int):=by omega
   have q1:IntKind.i64.wrap ((i:Int)+1)=(i:Int)+1:=IntWalk.i64_in _ (by omega)
   have hm:=QA Hn _ (List.getElem_mem hlt)
   clear hbr
   go_wp2_with fail
   go_loopw [4] (fun c4 wv=>∃k:Nat,k≤E[i].1.2.1∧c4=.int .i64 k∧Below w.heap.size w wv) (fun c _=>E[i].1.2.1-(intOf c).toNat)
   case atStart=>exact⟨0,by omega,rfl,hBr⟩
   case round=>
    clear g0 hgl hBr
    obtain⟨k,hk,rfl,hBv⟩:=hrel
    have hbv:=(QA HBk).below hBv
    have g0:=QC hbv.box 0
    simp only[gA,gZ,gS]at g0
    have hgl:=QD hbv.box
    obtain⟨ba,hpa,hbal,e0,e1⟩:=hbv.at i hlt
    subst hpa
    have hmk:=hbv.marks _ (List.getElem_mem hlt)
    generalize hei:E[i]=ei at *
    obtain⟨⟨pe,ne,ce⟩,me⟩:=ei
    simp only at e0 e1 hmk hk hm
    by_cases hlk:k<ne
    ·obtain⟨b,hpb,hbl,m0,m1,_⟩:=hmk k hlk
     simp only at hpb m1
     subst hpb
     have hlkI:(k:Int)<(ne:Int):=by omega
     have q2:IntKind.i64.wrap ((k:Int)+1)=(k:Int)+1:=IntWalk.i64_in _ (by omega)
     have m0':wr.cell? ⟨b,k*2,none⟩=some (.string ⟨#[109,97,114,107]⟩):=m0
     clear m0 hmk hbv hei
     go_upto_region 7 with fail
     go_quiet (fail)
     go_wp2
     go_roundw
     case rel=>exact⟨k+1,by omega,by go_num,Rf.below_dn hBv _⟩
     case measure=>simp[intOf];omega
    ·have hlkI:¬(k:Int)<(ne:Int):=by omega
     clear hmk hbv hei
     go_wp2
     go_roundw
     case rel=>exact⟨i+1,by omega,by go_num,hBv⟩
     case measure=>simp[intOf];omega
  ·have hltI:¬(i:Int)<(E.length:Int):=by omega
   clear hbr
   go_wp2
   go_ret
   exact⟨rfl,hBr⟩
theorem names_len (s:Strd.Bs):(namesAns s).length≤1048576:=by
 unfold namesAns
 split
 ·simp
 ·have h:=(source_wfR s).len
  unfold namesOf
  rw[List.length_map,(List.mergeSort_perm _ _).length_eq]
  unfold labelsOf
  exact Nat.le_trans (List.length_filter_le _ _) (by rw[List.length_map];exact h)
theorem listed_c (base g:Nat) (s:Strd.Bs) (w:World) (E:List (Sl×Int)) (cnt:Int) (pa:Option Addr) (ca:Nat) (hBk:Rf.BookAt base w g E cnt pa ca) (hsl:s.length≤9223372036854775807) (h11:11≤w.heap.size) (hT:Tabs w) (hbw:base≤w.heap.size) (hc:0≤cnt∧cnt≤10000000) (hE:E.length≤10000000) (hn:∀e∈E,e.1.2.1≤3000000) :
  Calls Tryz.prog 12 #[.string (bstr s),.pointer (some ⟨g,0,none⟩)] w fun e w'=>e=.returned (.bool true)∧(∃E' pa' ca',Rf.BookAt base w' g E' (cnt+1) pa' ca'∧E'.length=E.length+4∧∀e∈E',e.1.2.1≤3000000)∧Kept base Rf.KTag w w':=by
 have hnl:=names_len s
 have CN:=QB (Names_any s w hsl h11 hT)
 have CR:=QB (fun V=>Names_ref s V hsl)
 have HBk:=QB hBk
 have Hn:=QB hn
 have hgl0:=QD hBk.box
 clear hBk hn hT
 generalize hNA:namesAns s=NA at *
 generalize (Strd.assemble s).2=A2 at *
 obtain⟨ln,er⟩:=A2
 simp only at CN CR
 have CM:=QB (fun V=>num_l er V)
 clear hNA
 go_enter Tryz.func12,Tryz.ntmps12
 go_upto_region 2 with (go_at_call 13;refine(QA CN).mono ?_;rintro e w1 ⟨p1,c1,rfl,hr1,hb1⟩;have Hr1:=QB hr1;clear hr1)
 go_upto_region 3 with (go_at_call 29;refine(QA CR _).mono ?_;rintro e w2 ⟨p2,c2,rfl,hr2,hb2⟩;have Hr2:=QB hr2;clear hr2)
 have HR1:=QB (QO (QA Hr1) hb2)
 have hB2:=QE hb1 hb2
 have HB2:=QB ((QA HBk).below hB2)
 clear Hr1 hb1 hb2 CN CR
 go_upto_block 0 with (go_at_call 28;refine(QA CM _).mono ?_;rintro e w5 ⟨rfl,hw5⟩;have hw5':=hw5.symm;subst hw5')
 go_cut [11] (fun c11 wz=>c11=.bool true∧Below w2.heap.size w2 wz)
 case first=>
  as_aux_lemma=>
   go_wp2_with fail
   go_loopw [11,12] (fun c11 c12 wr=>∃i:Nat,i≤NA.length∧c12=.int .i64 i∧c11=.bool true∧Below w2.heap.size w2 wr) (fun _ c _=>NA.length-(intOf c).toNat)
   case atStart=>exact⟨0,by omega,rfl,rfl,Below.refl _ _⟩
   case round=>
    obtain⟨i,hi,rfl,rfl,hBr⟩:=hrel
    by_cases hlt:i<NA.length
    ·have hltI:(i:Int)<(NA.length:Int):=by omega
     have q1:IntKind.i64.wrap ((i:Int)+1)=(i:Int)+1:=IntWalk.i64_in _ (by omega)
     obtain⟨b1,hp1,hb1l,x0,x1⟩:=Rf.row_at2 (QO (QA HR1) hBr) rfl i hlt
     obtain⟨b2,hp2,hb2l,y0,y1⟩:=Rf.row_at2 (QO (QA Hr2) hBr) rfl i hlt
     subst hp1
     subst hp2
     generalize NA[i].1=nm at *
     generalize NA[i].2=pl at *
     go_upto_region 7 with fail
     go_quiet (fail)
     go_wp2
     go_roundw
     case rel=>exact⟨i+1,by omega,by go_num,rfl,Rf.below_dn hBr _⟩
     case measure=>simp[intOf];omega
    ·have hltI:¬(i:Int)<(NA.length:Int):=by omega
     go_wp2
     go_meet
     exact⟨rfl,hBr⟩
 case rest=>
  as_aux_lemma=>
   obtain⟨rfl,hBz⟩:=hcut
   obtain⟨w3,hw3⟩:∃x,x=wc:=⟨_,rfl⟩
   subst hw3
   have hB3:=QE hB2 hBz
   have CK:=QB (keep_c base g w.heap.size w3 E cnt pa ca p1 NA.length c1 NA rfl ((QA HB2).below hBz) (QO (QA HR1) hBz) (fun e he b h1 h2=>by
    obtain⟨b',e1,e2,_⟩:=(QA HBk).marks e he 0 h2
    rw[h1]at e1
    cases e1
    exact e2) hbw hB3.size hgl0 (by omega) hc hE)
   go_wp2_with fail
   refine(QA CK).mono ?_
   rintro e w4 ⟨rfl,⟨E',pa',ca',hbk4,hl4,hm4⟩,hb4⟩
   have hn4:∀e∈E',e.1.2.1≤3000000:=fun e he=>by
    rcases hm4 e he with h|h
    ·exact QA Hn e h
    ·omega
   have CH:=QB (holds_c base g w4 E' (cnt+1) pa' ca' hbk4 (by omega) hn4)
   have Hbk4:=QB hbk4
   have Hn4:=QB hn4
   clear hbk4 hm4 hn4 CK
   go_wp2_with (go_at_call 31;refine(QA CH).mono ?_;rintro e w5 ⟨rfl,hb5⟩)
   go_ret
   have hbf:Kept base Rf.KTag w w5:=((Kept.of_below hB3).trans hb4).trans (Kept.of_below hb5)
   first|exact⟨rfl,⟨E',pa',ca',(QA Hbk4).below hb5,hl4,QA Hn4⟩,hbf⟩|(refine⟨rfl,⟨E',⟨pa',ca',(QA Hbk4).below hb5⟩,hl4,?_⟩,hbf⟩;intro a b c d he;exact QA Hn4 ((a,b,c),d) (by simpa using he))
namespace Rf
theorem BookAt.start (w:World):BookAt w.heap.size (w.alloc (.cells #[.slice none 0 0,.int .i64 0] 31)) w.heap.size [] 0 none 0:=
 ⟨QH w _,World.ownsRow_nil _ _ _ _,(fun e he=>by cases he),Nat.le_refl _⟩
end Rf
end Go.Proofs.YtegiloiojloaoaaGreatDoor
