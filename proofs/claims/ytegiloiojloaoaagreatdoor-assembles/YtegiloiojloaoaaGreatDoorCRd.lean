/- The reader in memory: the struct, the lines, the labels' map. -/
import Derived.Test.YtegiloiojloaoaaGreatDoorCSpec
import Derived.Test.YtegiloiojloaoaaGreatDoorCLabel
import Derived.Maps.OwnSet
import Derived.Maps.OwnOps
import Derived.Deep.RegionLaw
set_option linter.unusedVariables false
set_option linter.unusedSimpArgs false
set_option maxHeartbeats 4000000
set_option maxRecDepth 1000000
namespace Go.Proofs.YtegiloiojloaoaaGreatDoor
open Go.RowKit Go.Maps
theorem law9:Keyed Tryz.prog 9:=string_keyed Tryz.underlying9
theorem zero3 (w:World):(zeroValue 3).run Tryz.prog w=.ok (.int .i64 0) w:=by kernel_rfl
def Z0 (w:World) (b n:Nat) (lines:List Strd.Line):Prop:=
 ∃D:DataW Unit,w.ownsMap Tryz.prog 9 (plainElem Tryz.prog 3) b n D∧(∀s:Strd.Bs,Maps.has D (.string s)=Strd.hasLabel lines s) ∧
  (∀(s:Strd.Bs) (j:Nat),s≠[]→Strd.labelAt lines s=some j→D.atKey (.string s) (.lit (.int .i64 0))=.lit (.int .i64 j))
theorem ownsMap_block {w w':World} {k:TypeId} {R:Value→Option (DataW Unit×List MemPlace)} {b n:Nat} {D:DataW Unit} (h:w.ownsMap Tryz.prog k R b n D) (hb:w'.heap[b]? = w.heap[b]?):w'.ownsMap Tryz.prog k R b n D:=by
 obtain⟨es,clock,h1,F,h2,h3⟩:=h
 exact⟨es,clock,by rw[hb];exact h1,F,h2,h3⟩
theorem Z0.lt {w:World} {b n:Nat} {lines:List Strd.Line} (h:Z0 w b n lines):b<w.heap.size:=let ⟨_,h,_⟩:=h;h.lt
theorem Z0.block {w w':World} {b n:Nat} {lines:List Strd.Line} (h:Z0 w b n lines) (hb:w'.heap[b]? = w.heap[b]?):Z0 w' b n lines:=
 let ⟨D,h1,h2,h3⟩:=h;⟨D,ownsMap_block h1 hb,h2,h3⟩
theorem Z0.below {w w':World} {b n:Nat} {lines:List Strd.Line} (h:Z0 w b n lines) (hb:Below w.heap.size w w'):Z0 w' b n lines:=h.block (hb.block b h.lt)
theorem hasLabel_snoc (lines:List Strd.Line) (l:Strd.Line) (s:Strd.Bs):Strd.hasLabel (lines++[l]) s=(Strd.hasLabel lines s||(s != []&&l.label==s)):=by
 unfold Strd.hasLabel
 rw[List.any_append]
 simp only[List.any_cons,List.any_nil,Bool.or_false]
 cases (s != []) <;> simp
theorem labelAt_snoc (lines:List Strd.Line) (l:Strd.Line) (s:Strd.Bs) (j:Nat) (h:Strd.labelAt (lines++[l]) s=some j):Strd.labelAt lines s=some j∨(Strd.labelAt lines s=none∧l.label=s∧j=lines.length):=by
 unfold Strd.labelAt at h ⊢
 rw[List.findIdx?_append]at h
 cases h1:lines.findIdx? (fun l=>l.label==s) with
 |some k=>rw[h1]at h;simp only[Option.some_or]at h;exact .inl h
 |none=>
  rw[h1]at h
  right
  simp only[Option.none_or,List.findIdx?_cons,List.findIdx?_nil]at h
  split at h
  ·rename_i hl
   simp at h
   exact⟨rfl,by simpa using hl,h.symm⟩
  ·simp at h
theorem labelAt_has (lines:List Strd.Line) (s:Strd.Bs) (hs:s≠[]):(Strd.labelAt lines s).isSome=Strd.hasLabel lines s:=by
 unfold Strd.labelAt Strd.hasLabel
 rw[List.findIdx?_isSome]
 have:(s != [])=true:=by simpa using hs
 rw[this];rfl
theorem Z0.skip {w:World} {b n:Nat} {lines:List Strd.Line} (h:Z0 w b n lines) (l:Strd.Line) (hl:l.label=[]):Z0 w b (n+1) (lines++[l]):=by
 obtain⟨D,h1,h2,h3⟩:=h
 refine⟨D,h1.mono (by omega),fun s=>?_,fun s j hs hj=>?_⟩
 ·rw[h2,hasLabel_snoc,hl]
  cases s <;> simp
 ·rcases labelAt_snoc _ _ _ _ hj with h|⟨_,h,_⟩
  ·exact h3 s j hs h
  ·exact absurd (h.symm.trans hl) hs
theorem labs_put {w:World} {b n:Nat} {D:DataW Unit} {lines:List Strd.Line} (l:Strd.Line) (h1:w.ownsMap Tryz.prog 9 (plainElem Tryz.prog 3) b (n+1) (D.put (.string l.label) (.lit (.int .i64 lines.length)))) (hD:IsMap D)
  (h2:∀s:Strd.Bs,Maps.has D (.string s)=Strd.hasLabel lines s) (h3:∀(s:Strd.Bs) (j:Nat),s≠[]→Strd.labelAt lines s=some j→D.atKey (.string s) (.lit (.int .i64 0))=.lit (.int .i64 j)) (hl:l.label≠[]) (hn:Strd.hasLabel lines l.label=false):Z0 w b (n+1) (lines++[l]):=by
 refine⟨_,h1,fun s=>?_,fun s j hs hj=>?_⟩
 ·by_cases e:s=l.label
  ·subst e
   rw[has_put_same (k:=.string l.label) hD trivial,hasLabel_snoc]
   have:(l.label != [])=true:=by simpa using hl
   simp[this]
  ·rw[has_put_other (by intro h;cases h;exact e rfl),h2,hasLabel_snoc]
   have:(l.label==s)=false:=by simpa using fun h=>e h.symm
   simp[this]
 ·rcases labelAt_snoc _ _ _ _ hj with h|⟨h,e,rfl⟩
  ·have hne:s≠l.label:=by
    intro e
    subst e
    rw[←labelAt_has _ _ hs,h]at hn
    cases hn
   rw[atKey_put_other (by intro h;cases h;exact hne rfl)]
   exact h3 s j hs h
  ·subst e
   rw[atKey_put_same (k:=.string l.label) hD trivial]
abbrev Sl:=Option Addr×Nat×Nat
def encLine (l:Strd.Line) (q:Sl):List Value:=[.string (bstr l.label),.int .i64 l.ins.op.kind,.int .i64 l.ins.op.base,.int .i64 l.ins.op.number,.int .i64 l.ins.op.first,.int .i64 l.ins.op.last,.slice q.1 q.2.1 q.2.2]
def encLines (qs:List (Strd.Line×Sl)):List Value:=qs.flatMap fun x=>encLine x.1 x.2
structure ZS (base:Nat) (w:World) (v:Value) (lines:List Strd.Line) (qs:List (Strd.Line×Sl)):Prop where
 fst:qs.map (·.1)=lines
 row:w.ownsRow base 99 7 v qs.length (encLines qs)
 oprs:∀x∈qs,QS w (.slice x.2.1 x.2.2.1 x.2.2.2) x.1.ins.oprs
theorem ZS.len {base:Nat} {w:World} {v:Value} {lines:List Strd.Line} {qs:List (Strd.Line×Sl)} (h:ZS base w v lines qs):qs.length=lines.length:=by rw[←h.fst,List.length_map]
theorem ZS.below {base:Nat} {w w':World} {v:Value} {lines:List Strd.Line} {qs:List (Strd.Line×Sl)} (h:ZS base w v lines qs) (hb:Below w.heap.size w w'):ZS base w' v lines qs:=
 ⟨h.fst,QO h.row hb,fun x hx=>QO (h.oprs x hx) hb⟩
theorem ZS.shape {base:Nat} {w:World} {v:Value} {lines:List Strd.Line} {qs:List (Strd.Line×Sl)} (h:ZS base w v lines qs):∃p cap,v=.slice p lines.length cap:=by
 rw[←h.len]
 rcases h.row.2 with ⟨rfl,h0⟩|⟨g,cap,cur,rfl,_⟩
 ·exact⟨none,0,by rw[h0]⟩
 ·exact⟨_,_,rfl⟩
theorem step_append_own {P:Program} {ops:Array Oper} {o:Oper} {a:Act} {w:World} {K:Act→World→Prop} {Q:Exit→Act→World→Prop} {E:Prop}
  (hg:o.guard=none) (s x:Operand) (t:TypeId) (hop:o.op=Op.call { callee:=Callee.builtin Builtin.append,args:=#[s,x],argTypes:=#[t,t] })
  (base:Nat) (e:TypeId) (i:TypeInfo) (z:Value) (size bytes:Nat) (h1:P.underlying t=some (.slice e)) (h2:P.info? e=some i) (h3:i.zero=some z) (h4:i.size=size) (h5:i.bytes=bytes) (h6:z.cells.size=size) (h7:0<size)
  (v:Value) (n:Nat) (olds:List Value) (hs:a.eval s=v) (hown:w.ownsRow base e size v n olds)
  (ad:Addr) (m c:Nat) (news:List Value) (hx:a.eval x=.slice (some ad) m c) (hn:news.length=m*size) (hc:∀j u,news[j]? = some u→w.cell? (ad.add j)=some u) (h1c:∀u∈news,u.oneCell'=true)
  (b1:n+m≤maxLen) (b2:(n+m)*bytes≤140737488355328) (hbase:base≤w.heap.size)
  (hK:∀v' w',w'.ownsRow base e size v' (n+m) (olds++news)→Kept base (Tag e) w w'→K (a.put o.dst v') w') :
  if Region.wanted o (yielded ops a.tmps)=true then Oper.wp P o a w K Q else E:=by
 have hw:Region.wanted o (yielded ops a.tmps)=true:=by simp[Region.wanted,hg]
 rw[if_pos hw]
 obtain⟨v',w',hrun,r1,r2,_⟩:=run_append_own (P:=P) w base t o.type e i z size bytes h1 h2 h3 h4 h5 h6 h7 v n olds hown ad m c news hn hc h1c b1 b2 hbase
 unfold Oper.wp
 simp[execOp,hop,resolve,invoke,builtin,hs,hx,hrun,Result.andThen]
 exact hK v' w' r1 (Kept.of_grown r2 hown)
theorem Q0 (w:World) (g i k:Nat) (x:Value) (h:k≠g):(w.setCell ⟨g,i,none⟩ x).heap[k]? = w.heap[k]?:=Below.heap_setCell _ _ _ _ h
theorem ZF (w:World) (g i:Nat) (x:Value):(w.setCell ⟨g,i,none⟩ x).heap.size=w.heap.size:=by simp[World.setCell]
def RdTag (o:Obj):Prop:=Tag 99 o∨Tag 128 o∨∃es c,o=.map es c
structure ReaderAt (base:Nat) (w:World) (g gm:Nat) (r:Strd.Rd):Prop where
 intro ::
 box:∃vl qs,w.heap[g]? = some (.cells #[.int .i64 r.org,vl,.map (some gm),.bool r.begun] 128 (0,0))∧ZS base w vl r.lines qs
 labs:Z0 w gm r.lines.length r.lines
 gb:base≤g
 mb:base≤gm
theorem kept_set {base g i:Nat} {cs:Array Value} {w:World} (x:Value) (hb:w.heap[g]? = some (.cells cs 128 (0,0))):Kept base RdTag w (w.setCell ⟨g,i,none⟩ x)∨g<base:=by
 by_cases hg:g<base
 ·exact .inr hg
 ·refine .inl ⟨rfl,rfl,rfl,Nat.le_of_eq (ZF w g i x).symm,fun k _ hd=>Q0 w g i k x ?_⟩
  rintro rfl
  rcases hd with hd|hd
  ·exact hg hd
  ·exact hd _ hb (.inr (.inl ⟨_,_,rfl⟩))
theorem kept_set' {base g i:Nat} {cs:Array Value} {w:World} (x:Value) (hb:w.heap[g]? = some (.cells cs 128 (0,0))) (hg:base≤g):Kept base RdTag w (w.setCell ⟨g,i,none⟩ x):=
 (kept_set x hb).resolve_right (by omega)
theorem oprs_kept {base:Nat} {w w':World} {v:Value} {os:List Strd.Opr} (h:QS w v os) (hk:Kept base RdTag w w'):QS w' v os:=ZN h hk (fun cur h=>by
 rcases h with ⟨_,_,h⟩|⟨_,_,h⟩|⟨_,_,h⟩ <;> cases h)
theorem ZS.set {base:Nat} {w w':World} {v:Value} {lines:List Strd.Line} {qs:List (Strd.Line×Sl)} (h:ZS base w v lines qs) (hk:Kept base RdTag w w') (hr:∀k cur,v.ownBlock=some k→w.heap[k]? = some (.cells cur 99 (0,0))→w'.heap[k]? = w.heap[k]?):ZS base w' v lines qs:=by
 refine⟨h.fst,?_,fun x hx=>oprs_kept (h.oprs x hx) hk⟩
 obtain⟨h1,h2⟩:=h.row
 refine⟨h1,?_⟩
 rcases h2 with h2|⟨g,cap,cur,hv,hb,hh,rr⟩
 ·exact .inl h2
 ·exact .inr ⟨g,cap,cur,hv,hb,by rw[hr g cur (by rw[hv];rfl) hh];exact hh,rr⟩
end Go.Proofs.YtegiloiojloaoaaGreatDoor
namespace Go.Proofs.YtegiloiojloaoaaGreatDoor
open Go.RowKit Go.Shelf Go.Sort Go.Maps
theorem Tryz.info99:(Tryz.prog.info? 99).map (fun i=>(i.zero,i.size,i.bytes))=some (some (.agg #[.string ⟨#[]⟩,.int .i64 0,.int .i64 0,.int .i64 0,.int .i64 0,.int .i64 0,.slice none 0 0]),7,80):=by kernel_rfl
theorem row_shape {w:World} {base n size:Nat} {e:TypeId} {v:Value} {xs:List Value} (h:w.ownsRow base e size v n xs):∃p cap,v=.slice p n cap:=by
 rcases h.2 with ⟨rfl,h0⟩|⟨g,cap,cur,rfl,_⟩
 ·exact⟨none,0,by rw[h0]⟩
 ·exact⟨_,_,rfl⟩
theorem kboxE {base:Nat} {e:TypeId} {W w1:World} {b:Nat} {cs:Array Value} {t:TypeId} (hk:Kept base (Tag e) W w1) (hb:W.heap[b]? = some (.cells cs t (0,0))) (ht:t≠e):w1.heap[b]? = some (.cells cs t (0,0)):=by
 rw[hk.block b (Array.getElem?_eq_some_iff.1 hb).1 (.inr fun o ho hd=>by rw[hb]at ho;cases ho;obtain⟨_,_,h⟩:=hd;cases h;exact ht rfl)]
 exact hb
theorem headD_at (l:List Strd.Opr) (h:l.length=1):l.headD ⟨[],0⟩=l[0]:=by
 cases l with
 |nil=>cases h
 |cons a t=>rfl
theorem line_cells_one (l:Strd.Line) (q:Sl):∀u∈encLine l q,u.oneCell'=true:=by
 intro u hu
 simp only[encLine,List.mem_cons,List.not_mem_nil,or_false]at hu
 rcases hu with rfl|rfl|rfl|rfl|rfl|rfl|rfl <;> rfl
theorem news_cells (w:World) (l:Strd.Line) (q:Sl) (t:TypeId):∀j u,(encLine l q)[j]? = some u→(w.alloc (.cells (encLine l q).toArray t)).drew.cell? ((⟨w.heap.size,0,none⟩:Addr).add j)=some u:=by
 intro j u h
 have hb:=QC (box_new_d w (.cells (encLine l q).toArray t)) j
 rw[gA]at hb
 have e:(⟨w.heap.size,0,none⟩:Addr).add j=⟨w.heap.size,j,none⟩:=by
  unfold Addr.add
  split
  ·rename_i h0;subst h0;rfl
  ·simp
 rw[e]
 exact hb.trans h
theorem add_fin {base g gm:Nat} {r:Strd.Rd} {l:Strd.Line} {org:Int} {b:Bool} {w w5 w6 X:World} {qs:List (Strd.Line×Sl)} {p1 p6:Option Addr} {n1 c1 cap6:Nat} {vl:Value} (hgb:base≤g) (hmb:base≤gm) (hne2:g≠gm) (hK5:Kept base RdTag w w5)
  (HL5:ZS base w5 vl r.lines qs) (HLb5:Z0 w5 gm (r.lines.length+1) (r.lines++[l])) (HO5:QS w5 (.slice p1 n1 c1) l.ins.oprs) (hX:Below w5.heap.size w5 X) (hk6:Kept base (Tag 99) X w6)
  (hown6:w6.ownsRow base 99 7 (.slice p6 (qs.length+1) cap6) (qs.length+1) (encLines qs++encLine l (p1,n1,c1))) (Hb6:w6.heap[g]? = some (.cells #[.int .i64 org,vl,.map (some gm),.bool b] 128 (0,0))) (m:Nat) (hm:m=qs.length+1) :
  ReaderAt base (w6.setCell ⟨g,1,none⟩ (.slice p6 m cap6)) g gm ⟨org,r.lines++[l],b⟩∧Kept base RdTag w (w6.setCell ⟨g,1,none⟩ (.slice p6 m cap6)):=by
 subst hm
 have hk6':Kept base RdTag X w6:=hk6.mono (Nat.le_refl _) (fun o h=>.inl h)
 have hkS:Kept base RdTag w6 (w6.setCell ⟨g,1,none⟩ (.slice p6 (qs.length+1) cap6)):=kept_set' _ Hb6 hgb
 have hk5S:Kept base RdTag w5 (w6.setCell ⟨g,1,none⟩ (.slice p6 (qs.length+1) cap6)):=(Kept.of_below hX).trans (hk6'.trans hkS)
 refine⟨⟨⟨.slice p6 (qs.length+1) cap6,qs++[(l,p1,n1,c1)],?_,?_⟩,?_,hgb,hmb⟩,hK5.trans hk5S⟩
 ·simp[World.setCell,Array.getElem?_modify,Hb6]
 ·refine⟨by rw[List.map_append,HL5.fst];rfl,?_,?_⟩
  ·have e:encLines (qs++[(l,p1,n1,c1)])=encLines qs++encLine l (p1,n1,c1):=by simp[encLines]
   rw[e,List.length_append,List.length_singleton]
   obtain⟨h1,h2⟩:=hown6
   refine⟨h1,?_⟩
   rcases h2 with h2|⟨k,cap,cur,hv,hb,hh,rr⟩
   ·exact .inl h2
   ·refine .inr ⟨k,cap,cur,hv,hb,?_,rr⟩
    rw[Q0 _ _ _ _ _ (by rintro rfl;rw[Hb6]at hh;cases hh)]
    exact hh
  ·intro x hx
   rcases List.mem_append.1 hx with h|h
   ·exact oprs_kept (HL5.oprs x h) hk5S
   ·rw[List.mem_singleton]at h
    subst h
    exact oprs_kept HO5 hk5S
 ·rw[List.length_append,List.length_singleton]
  refine HLb5.block ?_
  rw[Q0 _ _ _ _ _ (fun h=>hne2 h.symm)]
  obtain⟨D,⟨es,clk,h,_⟩,_⟩:=HLb5
  have hlt:=QD h
  rw[hk6.block gm (Nat.lt_of_lt_of_le hlt hX.size) (.inr fun o ho hd=>by
   rw[hX.block gm hlt,h]at ho
   cases ho
   obtain⟨_,_,e⟩:=hd
   cases e),hX.block gm hlt]
theorem add_c (base g gm:Nat) (r:Strd.Rd) (s:ByteArray) (w:World) (hs:s.size≤2^20) (hT:Tabs w) (h11:11≤base) (hbw:base≤w.heap.size) (hR:ReaderAt base w g gm r) (hn:r.lines.length≤2^20) :
  Calls Tryz.prog 58 #[.pointer (some ⟨g,0,none⟩),.string s] w fun e w'=>e=.returned (.int .i64 (Strd.add r s.data.toList).2)∧((Strd.add r s.data.toList).2=0→ReaderAt base w' g gm (Strd.add r s.data.toList).1)∧Kept base RdTag w w':=by
 generalize hA:Strd.add r s.data.toList=A
 obtain⟨⟨vl,qs,hbox,hL⟩,hLab,hgb,hmb⟩:=hR
 obtain⟨pl,capl,rfl⟩:=hL.shape
 obtain⟨i0,hi,hz0,hz1,hz2⟩:=info_parts Tryz.info99
 have HA:=QB hA
 have HL:=QB hL
 have HLab:=QB hLab
 have Hbox:=QB hbox
 have HT:=QB hT
 clear hA hL hLab hbox hT
 go_enter Tryz.func58,Tryz.ntmps58
 go_wp2_with fail
 refine(readLine_c _ _ hs (QA HT)).mono ?_
 rintro e w1 ⟨lb,o,p1,n1,c1,rfl,hLO,hb1⟩
 have Hbox1:=QB (bbox hb1 (QA Hbox))
 have HL1:=QB ((QA HL).below hb1)
 have HLab1:=QB ((QA HLab).below hb1)
 have hK1:Kept base RdTag w w1:=.of_below hb1
 have hbw1:base≤w1.heap.size:=Nat.le_trans hbw hb1.size
 clear Hbox HL HLab hb1 hbw
 unfold linCells
 cases hRL:Strd.readLine s.data.toList with
 |none=>
  have Hfin:Hid (A=(r,1)):=QB (by rw[←QA HA];unfold Strd.add;rw[hRL])
  clear hRL HA
  go_wp2
  go_ret
  exact⟨by rw[QA Hfin];rfl,fun h=>(by rw[QA Hfin]at h;cases h),hK1.alloc _⟩
 |some l=>
  rw[hRL]at hLO
  obtain⟨rfl,rfl,hO⟩:=hLO l rfl
  have hwf:=readLine_wf _ _ hRL
  have hAe:A=if Strd.hasLabel r.lines l.label then (r,3) else if Strd.Q9 l.ins=false then (r,4) else
   if l.ins.op.kind=11∧(r.begun||l.label != [])=true then (r,5)
   else (⟨if l.ins.op.kind=11 then (l.ins.oprs.headD ⟨[],0⟩).num else r.org,r.lines++[l],(r.begun||l.label != [])||decide (l.ins.op.kind≠0)⟩,0):=by
   rw[←QA HA];unfold Strd.add;rw[hRL]
  have HAe:=QB hAe
  have HO:=QB hO
  have Hwf:=QB hwf
  clear hAe HA hLO hwf hO
  obtain⟨D,hown,hhas,hat⟩:=QA HLab1
  have hkl:(bstr l.label).size≤maxLen:=by
   have h1:=readLine_label _ _ hRL
   have h2:=ZY s
   rw[ZA];unfold maxLen;omega
  clear hRL
  obtain⟨u,ps,hlook,_⟩:=((hown.alloc (.cells #[.string (bstr l.label),.int .i64 l.ins.op.kind,.int .i64 l.ins.op.base,.int .i64 l.ins.op.number,.int .i64 l.ins.op.first,.int .i64 l.ins.op.last,.slice p1 n1 c1] 99)).drew).look_ok law9 Tryz.underlying62 (zero3 _) (plainElem_int Tryz.underlying3 (by decide)) (WideMaps.keyOf_string_mk Tryz.underlying9 hkl)
  rw[Q4,hhas]at hlook
  have Hown:=QB hown
  have Hhas:=QB hhas
  have Hat:=QB hat
  clear hown hhas hat HLab1
  have c0:=QC (QA Hbox1) 0
  have c1':=QC (QA Hbox1) 1
  have c2:=QC (QA Hbox1) 2
  have c3:=QC (QA Hbox1) 3
  simp only[gA,gZ,gS]at c0 c1' c2 c3
  have hg1:=QD (QA Hbox1)
  cases hHL:Strd.hasLabel r.lines l.label
  ·rw[hHL]at hlook
   have hA2:A=if Strd.Q9 l.ins=false then (r,4) else if l.ins.op.kind=11∧(r.begun||l.label != [])=true then (r,5)
    else (⟨if l.ins.op.kind=11 then (l.ins.oprs.headD ⟨[],0⟩).num else r.org,r.lines++[l],(r.begun||l.label != [])||decide (l.ins.op.kind≠0)⟩,0):=by
    rw[QA HAe,hHL];rfl
   have HA2:=QB hA2
   have HHL:=QB hHL
   clear hA2 HAe hHL
   go_upto_region 4 with fail
   go_region
   go_wp2_with fail
   have hbL:Below w1.heap.size w1 (w1.alloc (.cells #[.string (bstr l.label),.int .i64 l.ins.op.kind,.int .i64 l.ins.op.base,.int .i64 l.ins.op.number,.int .i64 l.ins.op.first,.int .i64 l.ins.op.last,.slice p1 n1 c1] 99)).drew:=QW (QF _ _)
   refine(numbersMayBe_c l.ins _ _ (QO (QA HO) hbL) (QA Hwf).len (Nat.le_trans (QA Hwf).le (by omega)) (QA Hwf).nums).mono ?_
   rintro e w2 ⟨rfl,hb2⟩
   have HBl:=QB (bbox hb2 (box_new_d w1 (.cells #[.string (bstr l.label),.int .i64 l.ins.op.kind,.int .i64 l.ins.op.base,.int .i64 l.ins.op.number,.int .i64 l.ins.op.first,.int .i64 l.ins.op.last,.slice p1 n1 c1] 99)))
   have hbT:Below w1.heap.size w1 w2:=QE hbL hb2
   have Hbox2:=QB (bbox hbT (QA Hbox1))
   have HL2:=QB ((QA HL1).below hbT)
   have Hown2:=QB (ownsMap_block (QA Hown) (hbT.block gm (QA Hown).lt))
   have HO2:=QB (QO (QA HO) hbT)
   have hK2:Kept base RdTag w w2:=hK1.trans (.of_below hbT)
   have hbw2:base≤w2.heap.size:=Nat.le_trans hbw1 hbT.size
   have hne:w1.heap.size≠g:=by omega
   have hlt1:=QD (QA HBl)
   have hg2:=QD (QA Hbox2)
   clear hb2 hbL hbT Hbox1 HL1 Hown HO hK1 hbw1 c0 c1' c2 c3 hg1 hlook
   have d0:=QC (QA HBl) 0
   have d1:=QC (QA HBl) 1
   have d2:=QC (QA HBl) 2
   have d3:=QC (QA HBl) 3
   have d4:=QC (QA HBl) 4
   have d5:=QC (QA HBl) 5
   have d6:=QC (QA HBl) 6
   have c0:=QC (QA Hbox2) 0
   have c1':=QC (QA Hbox2) 1
   have c2:=QC (QA Hbox2) 2
   have c3:=QC (QA Hbox2) 3
   have f3:=ZC (QA Hbox2) 3
   simp only[gA,gZ,gS]at c0 c1' c2 c3 d0 d1 d2 d3 d4 d5 d6
   cases hNM:Strd.Q9 l.ins
   ·have Hfin:Hid (A=(r,4)):=QB (by rw[QA HA2,hNM];rfl)
    clear hNM HA2
    go_wp2
    go_ret
    exact⟨by rw[QA Hfin];rfl,fun h=>(by rw[QA Hfin]at h;cases h),hK2⟩
   ·have HA3:Hid (A=if l.ins.op.kind=11∧(r.begun||l.label != [])=true then (r,5)
     else (⟨if l.ins.op.kind=11 then (l.ins.oprs.headD ⟨[],0⟩).num else r.org,r.lines++[l],(r.begun||l.label != [])||decide (l.ins.op.kind≠0)⟩,0)):=QB (by rw[QA HA2,hNM];rfl)
    clear hNM HA2
    by_cases hlb:l.label=[]
    ·have hbe:bstr l.label=⟨#[]⟩:=by rw[hlb]
     have hne2:g≠gm:=by
      rintro rfl
      obtain⟨es,clk,h,_⟩:=QA Hown2
      rw[QA Hbox2]at h
      cases h
     have Hbx:=Hbox2
     have HL:=HL2
     have HO:Hid (QS w2 (.slice p1 n1 c1) l.ins.oprs):=HO2
     have hK:=hK2
     have hbW:=hbw2
     have HLb:=QB (Z0.skip ⟨_,QA Hown2,QA Hhas,QA Hat⟩ l hlb)
     have HA:Hid (A=if l.ins.op.kind=11∧r.begun=true then (r,5) else (⟨if l.ins.op.kind=11 then (l.ins.oprs.headD ⟨[],0⟩).num else r.org,r.lines++[l],r.begun||decide (l.ins.op.kind≠0)⟩,0)):=QB (by
      rw[QA HA3]
      have:(l.label != [])=false:=by simpa using hlb
      rw[this,Bool.or_false])
     rw[hbe]at d0
     go_upto_region 12 with fail
     clear hlb hbe
     generalize r.begun=bg at Hbx HA
     clear Hbox2 HL2 HO2 hK2 hbw2 Hown2 Hhas Hat HA3 d0 d1 d2 d3 d4 d5 d6 c0 c1' c2 c3 f3
     have d0:=QC (QA HBl) 0
     have d1:=QC (QA HBl) 1
     have d6:=QC (QA HBl) 6
     have c0:=QC (QA Hbx) 0
     have c3:=QC (QA Hbx) 3
     have f0:=ZC (QA Hbx) 0
     have f3:=ZC (QA Hbx) 3
     simp only[gA,gZ,gS]at c0 c3 d0 d1 d6
     have hgl:=QD (QA Hbx)
     have hll:=QD (QA HBl)
     by_cases hk:l.ins.op.kind=11
     ·have hon:l.ins.oprs.length=1:=by
       have h:=(QA Hwf).len
       rw[hk]at h
       exact h.symm
      rw[hk]at d1
      cases bg
      ·obtain⟨bo,hp,hn1,hbo,hn0,hnm⟩:=QS.at (QA HO) 0 (by omega)
       subst hp
       rw[hon]at hn1
       subst hn1
       simp only[Nat.zero_mul,Nat.zero_add]at hn0 hnm
       have hbog:bo≠g:=by
        rintro rfl
        obtain⟨_,h|⟨g',cap,cur,hv,_,hh,_⟩⟩:=QA HO
        ·cases h.1
        ·simp only[Value.slice.injEq,Option.some.injEq,Addr.mk.injEq]at hv
         obtain⟨⟨rfl,_⟩,_⟩:=hv
         rw[QA Hbx]at hh
         cases hh
       clear hn0
       go_upto_region 17 with fail
       have Hk:=QB hk
       clear hk
       have hbx0:(w2.setCell ⟨g,0,none⟩ (.int .i64 l.ins.oprs[0].num)).heap[g]? = some (.cells #[.int .i64 l.ins.oprs[0].num,.slice pl r.lines.length capl,.map (some gm),.bool false] 128 (0,0)):=by simp[World.setCell,Array.getElem?_modify,QA Hbx]
       have hKs:Kept base RdTag w2 ((w2.setCell ⟨g,0,none⟩ (.int .i64 l.ins.oprs[0].num)).setCell ⟨g,3,none⟩ (.bool true)):=(kept_set' _ (QA Hbx) hgb).trans (kept_set' _ hbx0 hgb)
       have HBl5:Hid (((w2.setCell ⟨g,0,none⟩ (.int .i64 l.ins.oprs[0].num)).setCell ⟨g,3,none⟩ (.bool true)).heap[w1.heap.size]? = _):=QB ((Q0 _ _ _ _ _ hne).trans ((Q0 _ _ _ _ _ hne).trans (QA HBl)))
       have Hbx5:Hid (((w2.setCell ⟨g,0,none⟩ (.int .i64 l.ins.oprs[0].num)).setCell ⟨g,3,none⟩ (.bool true)).heap[g]? = some (.cells #[.int .i64 l.ins.oprs[0].num,.slice pl r.lines.length capl,.map (some gm),.bool true] 128 (0,0))):=QB (by
        rw[show ((w2.setCell ⟨g,0,none⟩ (.int .i64 l.ins.oprs[0].num)).setCell ⟨g,3,none⟩ (.bool true)).heap[g]? = _ from rfl]
        simp[World.setCell,Array.getElem?_modify,QA Hbx])
       have HL5:=QB ((QA HL).set hKs (fun k cur _ h=>(Q0 _ _ _ _ _ (by rintro rfl;rw[QA Hbx]at h;cases h)).trans (Q0 _ _ _ _ _ (by rintro rfl;rw[QA Hbx]at h;cases h))))
       have HLb5:=QB ((QA HLb).block ((Q0 _ g 3 gm (.bool true) (fun h=>hne2 h.symm)).trans (Q0 w2 g 0 gm (.int .i64 l.ins.oprs[0].num) (fun h=>hne2 h.symm))))
       have HO5:=QB (oprs_kept (QA HO) hKs)
       have hK5:=hK.trans hKs
       have hb5:base≤((w2.setCell ⟨g,0,none⟩ (.int .i64 l.ins.oprs[0].num)).setCell ⟨g,3,none⟩ (.bool true)).heap.size:=by rw[ZF,ZF];exact hbW
       generalize ((w2.setCell ⟨g,0,none⟩ (.int .i64 l.ins.oprs[0].num)).setCell ⟨g,3,none⟩ (.bool true))=w5 at *
       clear Hbx hbx0 HBl HL HLb HO hK hKs hbW d0 d1 d6 c0 c3 f0 f3 hgl hll
       have HF:Hid (A=(⟨l.ins.oprs[0].num,r.lines++[l],true⟩,0)):=QB (by rw[QA HA,if_neg (fun h=>by cases h.2),if_pos (QA Hk),headD_at _ hon];simp[QA Hk])
       have e0:=QC (QA HBl5) 0
       have e1:=QC (QA HBl5) 1
       have e2:=QC (QA HBl5) 2
       have e3:=QC (QA HBl5) 3
       have e4:=QC (QA HBl5) 4
       have e5:=QC (QA HBl5) 5
       have e6:=QC (QA HBl5) 6
       have k1:=QC (QA Hbx5) 1
       simp only[gA,gZ,gS]at e0 e1 e2 e3 e4 e5 e6 k1
       have hs5:=QD (QA Hbx5)
       have hs5':=QD (QA HBl5)
       have hql:=(QA HL5).len
       go_region_law (refine step_append_own rfl (.tmp 89) (.tmp 91) 61 rfl base 99 i0 (.agg #[.string ⟨#[]⟩,.int .i64 0,.int .i64 0,.int .i64 0,.int .i64 0,.int .i64 0,.slice none 0 0]) 7 80 Tryz.underlying61 hi hz0 hz1 hz2 rfl (by decide) _ _ _ (by simp[Act.eval,Act.put]) (QO (QA HL5).row (QW (QF w5 _))) ⟨w5.heap.size,0,none⟩ 1 1 (encLine l ((some ⟨bo,0,none⟩),1,c1)) (by simp[Act.eval,Act.put]) rfl (news_cells _ _ _ _) (line_cells_one _ _) (by unfold maxLen;omega) (by omega) (by simp;omega) ?_;intro v6 w6 hown6 hk6;have Hb6:=QB (kboxE hk6 (bbox (QW (QF w5 _)) (QA Hbx5)) (by decide));have k6:=QC (QA Hb6) 1;simp only[gA,gZ,gS]at k6;have f6:=ZC (QA Hb6) 1;have hs6:=QD (QA Hb6);obtain⟨p6,cap6,hv6⟩:=row_shape hown6;subst hv6)
       all_goals go_wp2
       all_goals go_ret
       all_goals have hf:=add_fin (org:=l.ins.oprs[0].num) (b:=true) hgb hmb hne2 hK5 (QA HL5) (QA HLb5) (QA HO5) (QW (QF w5 _)) hk6 hown6 (QA Hb6) (r.lines.length+1) (by rw[hql])
       all_goals refine⟨by rw[QA HF];rfl,fun _=>?_,hf.2⟩
       all_goals rw[QA HF]
       all_goals exact hf.1
      ·have Hfin:Hid (A=(r,5)):=QB (by rw[QA HA,if_pos ⟨hk,rfl⟩])
       clear HA
       go_wp2
       go_ret
       exact⟨by rw[QA Hfin];rfl,fun h=>(by rw[QA Hfin]at h;cases h),hK⟩
     ·have hk':(l.ins.op.kind==11)=false:=by simpa using hk
      cases bg
      ·by_cases hk0:l.ins.op.kind=0
       ·have hk0':(l.ins.op.kind != 0)=false:=by simpa using hk0
        have Hk0:=QB hk0
        clear hk0
        go_upto_region 17 with fail
        have hKs:Kept base RdTag w2 (w2.setCell ⟨g,3,none⟩ (.bool false)):=kept_set' _ (QA Hbx) hgb
        have HBl5:Hid ((w2.setCell ⟨g,3,none⟩ (.bool false)).heap[w1.heap.size]? = _):=QB ((Q0 _ _ _ _ _ hne).trans (QA HBl))
        have Hbx5:Hid ((w2.setCell ⟨g,3,none⟩ (.bool false)).heap[g]? = some (.cells #[.int .i64 r.org,.slice pl r.lines.length capl,.map (some gm),.bool false] 128 (0,0))):=QB (by simp[World.setCell,Array.getElem?_modify,QA Hbx])
        have HL5:=QB ((QA HL).set hKs (fun k cur _ h=>Q0 _ _ _ _ _ (by rintro rfl;rw[QA Hbx]at h;cases h)))
        have HLb5:=QB ((QA HLb).block (Q0 w2 g 3 gm (.bool false) (fun h=>hne2 h.symm)))
        have HO5:=QB (oprs_kept (QA HO) hKs)
        have hK5:=hK.trans hKs
        have hb5:base≤(w2.setCell ⟨g,3,none⟩ (.bool false)).heap.size:=by rw[ZF];exact hbW
        generalize w2.setCell ⟨g,3,none⟩ (.bool false)=w5 at *
        clear Hbx HBl HL HLb HO hK hKs hbW d0 d1 d6 c0 c3 f0 f3 hgl hll
        have HF:Hid (A=(⟨r.org,r.lines++[l],false⟩,0)):=QB (by rw[QA HA,if_neg (fun h=>hk h.1),if_neg hk];simp[QA Hk0])
        have e0:=QC (QA HBl5) 0
        have e1:=QC (QA HBl5) 1
        have e2:=QC (QA HBl5) 2
        have e3:=QC (QA HBl5) 3
        have e4:=QC (QA HBl5) 4
        have e5:=QC (QA HBl5) 5
        have e6:=QC (QA HBl5) 6
        have k1:=QC (QA Hbx5) 1
        simp only[gA,gZ,gS]at e0 e1 e2 e3 e4 e5 e6 k1
        have hs5:=QD (QA Hbx5)
        have hs5':=QD (QA HBl5)
        have hql:=(QA HL5).len
        go_region_law (refine step_append_own rfl (.tmp 89) (.tmp 91) 61 rfl base 99 i0 (.agg #[.string ⟨#[]⟩,.int .i64 0,.int .i64 0,.int .i64 0,.int .i64 0,.int .i64 0,.slice none 0 0]) 7 80 Tryz.underlying61 hi hz0 hz1 hz2 rfl (by decide) _ _ _ (by simp[Act.eval,Act.put]) (QO (QA HL5).row (QW (QF w5 _))) ⟨w5.heap.size,0,none⟩ 1 1 (encLine l (p1,n1,c1)) (by simp[Act.eval,Act.put]) rfl (news_cells _ _ _ _) (line_cells_one _ _) (by unfold maxLen;omega) (by omega) (by simp;omega) ?_;intro v6 w6 hown6 hk6;have Hb6:=QB (kboxE hk6 (bbox (QW (QF w5 _)) (QA Hbx5)) (by decide));have k6:=QC (QA Hb6) 1;simp only[gA,gZ,gS]at k6;have f6:=ZC (QA Hb6) 1;have hs6:=QD (QA Hb6);obtain⟨p6,cap6,hv6⟩:=row_shape hown6;subst hv6)
        all_goals go_wp2
        all_goals go_ret
        all_goals have hf:=add_fin (org:=r.org) (b:=false) hgb hmb hne2 hK5 (QA HL5) (QA HLb5) (QA HO5) (QW (QF w5 _)) hk6 hown6 (QA Hb6) (r.lines.length+1) (by rw[hql])
        all_goals refine⟨by rw[QA HF];rfl,fun _=>?_,hf.2⟩
        all_goals rw[QA HF]
        all_goals exact hf.1
       ·have hk0':(l.ins.op.kind != 0)=true:=by simpa using hk0
        go_upto_region 17 with fail
        have hKs:Kept base RdTag w2 (w2.setCell ⟨g,3,none⟩ (.bool true)):=kept_set' _ (QA Hbx) hgb
        have HBl5:Hid ((w2.setCell ⟨g,3,none⟩ (.bool true)).heap[w1.heap.size]? = _):=QB ((Q0 _ _ _ _ _ hne).trans (QA HBl))
        have Hbx5:Hid ((w2.setCell ⟨g,3,none⟩ (.bool true)).heap[g]? = some (.cells #[.int .i64 r.org,.slice pl r.lines.length capl,.map (some gm),.bool true] 128 (0,0))):=QB (by simp[World.setCell,Array.getElem?_modify,QA Hbx])
        have HL5:=QB ((QA HL).set hKs (fun k cur _ h=>Q0 _ _ _ _ _ (by rintro rfl;rw[QA Hbx]at h;cases h)))
        have HLb5:=QB ((QA HLb).block (Q0 w2 g 3 gm (.bool true) (fun h=>hne2 h.symm)))
        have HO5:=QB (oprs_kept (QA HO) hKs)
        have hK5:=hK.trans hKs
        have hb5:base≤(w2.setCell ⟨g,3,none⟩ (.bool true)).heap.size:=by rw[ZF];exact hbW
        generalize w2.setCell ⟨g,3,none⟩ (.bool true)=w5 at *
        clear Hbx HBl HL HLb HO hK hKs hbW d0 d1 d6 c0 c3 f0 f3 hgl hll
        have HF:Hid (A=(⟨r.org,r.lines++[l],true⟩,0)):=QB (by rw[QA HA,if_neg (fun h=>hk h.1),if_neg hk];simp[hk0])
        have e0:=QC (QA HBl5) 0
        have e1:=QC (QA HBl5) 1
        have e2:=QC (QA HBl5) 2
        have e3:=QC (QA HBl5) 3
        have e4:=QC (QA HBl5) 4
        have e5:=QC (QA HBl5) 5
        have e6:=QC (QA HBl5) 6
        have k1:=QC (QA Hbx5) 1
        simp only[gA,gZ,gS]at e0 e1 e2 e3 e4 e5 e6 k1
        have hs5:=QD (QA Hbx5)
        have hs5':=QD (QA HBl5)
        have hql:=(QA HL5).len
        go_region_law (refine step_append_own rfl (.tmp 89) (.tmp 91) 61 rfl base 99 i0 (.agg #[.string ⟨#[]⟩,.int .i64 0,.int .i64 0,.int .i64 0,.int .i64 0,.int .i64 0,.slice none 0 0]) 7 80 Tryz.underlying61 hi hz0 hz1 hz2 rfl (by decide) _ _ _ (by simp[Act.eval,Act.put]) (QO (QA HL5).row (QW (QF w5 _))) ⟨w5.heap.size,0,none⟩ 1 1 (encLine l (p1,n1,c1)) (by simp[Act.eval,Act.put]) rfl (news_cells _ _ _ _) (line_cells_one _ _) (by unfold maxLen;omega) (by omega) (by simp;omega) ?_;intro v6 w6 hown6 hk6;have Hb6:=QB (kboxE hk6 (bbox (QW (QF w5 _)) (QA Hbx5)) (by decide));have k6:=QC (QA Hb6) 1;simp only[gA,gZ,gS]at k6;have f6:=ZC (QA Hb6) 1;have hs6:=QD (QA Hb6);obtain⟨p6,cap6,hv6⟩:=row_shape hown6;subst hv6)
        all_goals go_wp2
        all_goals go_ret
        all_goals have hf:=add_fin (org:=r.org) (b:=true) hgb hmb hne2 hK5 (QA HL5) (QA HLb5) (QA HO5) (QW (QF w5 _)) hk6 hown6 (QA Hb6) (r.lines.length+1) (by rw[hql])
        all_goals refine⟨by rw[QA HF];rfl,fun _=>?_,hf.2⟩
        all_goals rw[QA HF]
        all_goals exact hf.1
      ·go_upto_region 17 with fail
       have hKs:Kept base RdTag w2 (w2.setCell ⟨g,3,none⟩ (.bool true)):=kept_set' _ (QA Hbx) hgb
       have HBl5:Hid ((w2.setCell ⟨g,3,none⟩ (.bool true)).heap[w1.heap.size]? = _):=QB ((Q0 _ _ _ _ _ hne).trans (QA HBl))
       have Hbx5:Hid ((w2.setCell ⟨g,3,none⟩ (.bool true)).heap[g]? = some (.cells #[.int .i64 r.org,.slice pl r.lines.length capl,.map (some gm),.bool true] 128 (0,0))):=QB (by simp[World.setCell,Array.getElem?_modify,QA Hbx])
       have HL5:=QB ((QA HL).set hKs (fun k cur _ h=>Q0 _ _ _ _ _ (by rintro rfl;rw[QA Hbx]at h;cases h)))
       have HLb5:=QB ((QA HLb).block (Q0 w2 g 3 gm (.bool true) (fun h=>hne2 h.symm)))
       have HO5:=QB (oprs_kept (QA HO) hKs)
       have hK5:=hK.trans hKs
       have hb5:base≤(w2.setCell ⟨g,3,none⟩ (.bool true)).heap.size:=by rw[ZF];exact hbW
       generalize w2.setCell ⟨g,3,none⟩ (.bool true)=w5 at *
       clear Hbx HBl HL HLb HO hK hKs hbW d0 d1 d6 c0 c3 f0 f3 hgl hll
       have HF:Hid (A=(⟨r.org,r.lines++[l],true⟩,0)):=QB (by rw[QA HA,if_neg (fun h=>hk h.1),if_neg hk];rfl)
       have e0:=QC (QA HBl5) 0
       have e1:=QC (QA HBl5) 1
       have e2:=QC (QA HBl5) 2
       have e3:=QC (QA HBl5) 3
       have e4:=QC (QA HBl5) 4
       have e5:=QC (QA HBl5) 5
       have e6:=QC (QA HBl5) 6
       have k1:=QC (QA Hbx5) 1
       simp only[gA,gZ,gS]at e0 e1 e2 e3 e4 e5 e6 k1
       have hs5:=QD (QA Hbx5)
       have hs5':=QD (QA HBl5)
       have hql:=(QA HL5).len
       go_region_law (refine step_append_own rfl (.tmp 89) (.tmp 91) 61 rfl base 99 i0 (.agg #[.string ⟨#[]⟩,.int .i64 0,.int .i64 0,.int .i64 0,.int .i64 0,.int .i64 0,.slice none 0 0]) 7 80 Tryz.underlying61 hi hz0 hz1 hz2 rfl (by decide) _ _ _ (by simp[Act.eval,Act.put]) (QO (QA HL5).row (QW (QF w5 _))) ⟨w5.heap.size,0,none⟩ 1 1 (encLine l (p1,n1,c1)) (by simp[Act.eval,Act.put]) rfl (news_cells _ _ _ _) (line_cells_one _ _) (by unfold maxLen;omega) (by omega) (by simp;omega) ?_;intro v6 w6 hown6 hk6;have Hb6:=QB (kboxE hk6 (bbox (QW (QF w5 _)) (QA Hbx5)) (by decide));have k6:=QC (QA Hb6) 1;simp only[gA,gZ,gS]at k6;have f6:=ZC (QA Hb6) 1;have hs6:=QD (QA Hb6);obtain⟨p6,cap6,hv6⟩:=row_shape hown6;subst hv6)
       all_goals go_wp2
       all_goals go_ret
       all_goals have hf:=add_fin (org:=r.org) (b:=true) hgb hmb hne2 hK5 (QA HL5) (QA HLb5) (QA HO5) (QW (QF w5 _)) hk6 hown6 (QA Hb6) (r.lines.length+1) (by rw[hql])
       all_goals refine⟨by rw[QA HF];rfl,fun _=>?_,hf.2⟩
       all_goals rw[QA HF]
       all_goals exact hf.1
    ·have hbe:l.label.isEmpty=false:=by simpa using hlb
     obtain⟨w3,hupd,hown3,hgr3⟩:=(QA Hown2).drew.update law9 Tryz.underlying62 (by unfold maxLen;omega) (WideMaps.keyOf_string_mk Tryz.underlying9 hkl) (plainElem_int Tryz.underlying3 (show (Lit.int .i64 (r.lines.length:Int)).wf=true from WalkArith.wf_i64 (by omega)))
     rw[Q4]at hown3
     have hne2:g≠gm:=by
      rintro rfl
      obtain⟨es,clk,h,_⟩:=QA Hown2
      rw[QA Hbox2]at h
      cases h
     have Hbox3:Hid (w3.heap[g]? = _):=QB ((hgr3.block g (by exact hg2) (by simp[hne2])).trans (QA Hbox2))
     have HLab3:=QB (labs_put l hown3 (QA Hown2).isMap (QA Hhas) (QA Hat) hlb (QA HHL))
     have hK3:Kept base RdTag w2.drew w3:=⟨hgr3.os,hgr3.tape,hgr3.output,hgr3.size,fun k hk hd=>hgr3.block k hk (by
      intro e
      cases e
      obtain⟨es,clk,h,_⟩:=QA Hown2
      rcases hd with hd|hd
      ·omega
      ·exact hd _ h (.inr (.inr ⟨_,_,rfl⟩)))⟩
     have hne1:w1.heap.size≠gm:=by
      rintro rfl
      obtain⟨es,clk,h,_⟩:=QA Hown2
      rw[QA HBl]at h
      cases h
     have HBl3:Hid (w3.heap[w1.heap.size]? = _):=QB ((hgr3.block w1.heap.size (by exact hlt1) (by simp[hne1])).trans (QA HBl))
     have hblk3:∀k,k<w2.heap.size→k≠gm→w3.heap[k]? = w2.heap[k]?:=fun k hk hn=>hgr3.block k hk (by simp[hn])
     have hmapc:∀cur,w2.heap[gm]? = some (.cells cur 99 (0,0))→False:=fun cur h=>by
      obtain⟨es,clk,h',_⟩:=QA Hown2
      rw[h']at h
      cases h
     clear hown3 hgr3 Hown2
     go_upto_region 10 with fail
     go_region
     have c0:=QC (QA Hbox3) 0
     have c3:=QC (QA Hbox3) 3
     have f3:=ZC (QA Hbox3) 3
     simp only[gA,gZ,gS]at c0 c3
     have hg3:=QD (QA Hbox3)
     go_upto_region 12 with fail
     have hKs:Kept base RdTag w3 (w3.setCell ⟨g,3,none⟩ (.bool true)):=kept_set' _ (QA Hbox3) hgb
     have hKa:Kept base RdTag w2 (w3.setCell ⟨g,3,none⟩ (.bool true)):=(Kept.drew (Kept.refl _ _ w2)).trans (hK3.trans hKs)
     have hK:Kept base RdTag w (w3.setCell ⟨g,3,none⟩ (.bool true)):=hK2.trans hKa
     have HBl:Hid ((w3.setCell ⟨g,3,none⟩ (.bool true)).heap[w1.heap.size]? = _):=QB ((Q0 _ _ _ _ _ hne).trans (QA HBl3))
     have Hbx:Hid ((w3.setCell ⟨g,3,none⟩ (.bool true)).heap[g]? = some (.cells #[.int .i64 r.org,.slice pl r.lines.length capl,.map (some gm),.bool true] 128 (0,0))):=QB (by simp[World.setCell,Array.getElem?_modify,QA Hbox3])
     have HL:=QB ((QA HL2).set hKa (fun k cur _ h=>(Q0 _ _ _ _ _ (by rintro rfl;rw[QA Hbox2]at h;cases h)).trans (hblk3 k (QD h) (by rintro rfl;exact hmapc _ h))))
     have HLb:=QB ((QA HLab3).block (Q0 w3 g 3 gm (.bool true) (fun h=>hne2 h.symm)))
     have HO:=QB (oprs_kept (QA HO2) hKa)
     have hbW:base≤(w3.setCell ⟨g,3,none⟩ (.bool true)).heap.size:=Nat.le_trans hbw2 hKa.size
     generalize w3.setCell ⟨g,3,none⟩ (.bool true)=w4 at *
     obtain⟨bg,hbg⟩:∃bg:Bool,bg=true:=⟨true,rfl⟩
     have HA:Hid (A=if l.ins.op.kind=11∧bg=true then (r,5) else (⟨if l.ins.op.kind=11 then (l.ins.oprs.headD ⟨[],0⟩).num else r.org,r.lines++[l],bg||decide (l.ins.op.kind≠0)⟩,0)):=QB (by
      rw[QA HA3,hbg]
      have:(l.label != [])=true:=by simpa using hlb
      rw[this,Bool.or_true])
     rw[←hbg]at Hbx
     have hcon:bg=false→False:=fun h=>by rw[hbg]at h;cases h
     clear hbg
     clear c0 c3 f3 hg3 hKs hKa HLab3 HBl3 Hbox3 HO2 HL2 hK2 Hbox2 hK3 hblk3 HA3 d0 d1 d2 d3 d4 d5 d6 c1' c2 hupd
     have d0:=QC (QA HBl) 0
     have d1:=QC (QA HBl) 1
     have d6:=QC (QA HBl) 6
     have c0:=QC (QA Hbx) 0
     have c3:=QC (QA Hbx) 3
     have f0:=ZC (QA Hbx) 0
     have f3:=ZC (QA Hbx) 3
     simp only[gA,gZ,gS]at c0 c3 d0 d1 d6
     have hgl:=QD (QA Hbx)
     have hll:=QD (QA HBl)
     by_cases hk:l.ins.op.kind=11
     ·have hon:l.ins.oprs.length=1:=by
       have h:=(QA Hwf).len
       rw[hk]at h
       exact h.symm
      rw[hk]at d1
      cases bg
      ·exact(hcon rfl).elim
      ·have Hfin:Hid (A=(r,5)):=QB (by rw[QA HA,if_pos ⟨hk,rfl⟩])
       clear HA
       go_wp2
       go_ret
       exact⟨by rw[QA Hfin];rfl,fun h=>(by rw[QA Hfin]at h;cases h),hK⟩
     ·have hk':(l.ins.op.kind==11)=false:=by simpa using hk
      cases bg
      ·exact(hcon rfl).elim
      ·go_upto_region 17 with fail
       have hKs:Kept base RdTag w4 (w4.setCell ⟨g,3,none⟩ (.bool true)):=kept_set' _ (QA Hbx) hgb
       have HBl5:Hid ((w4.setCell ⟨g,3,none⟩ (.bool true)).heap[w1.heap.size]? = _):=QB ((Q0 _ _ _ _ _ hne).trans (QA HBl))
       have Hbx5:Hid ((w4.setCell ⟨g,3,none⟩ (.bool true)).heap[g]? = some (.cells #[.int .i64 r.org,.slice pl r.lines.length capl,.map (some gm),.bool true] 128 (0,0))):=QB (by simp[World.setCell,Array.getElem?_modify,QA Hbx])
       have HL5:=QB ((QA HL).set hKs (fun k cur _ h=>Q0 _ _ _ _ _ (by rintro rfl;rw[QA Hbx]at h;cases h)))
       have HLb5:=QB ((QA HLb).block (Q0 w4 g 3 gm (.bool true) (fun h=>hne2 h.symm)))
       have HO5:=QB (oprs_kept (QA HO) hKs)
       have hK5:=hK.trans hKs
       have hb5:base≤(w4.setCell ⟨g,3,none⟩ (.bool true)).heap.size:=by rw[ZF];exact hbW
       generalize w4.setCell ⟨g,3,none⟩ (.bool true)=w5 at *
       clear Hbx HBl HL HLb HO hK hKs hbW d0 d1 d6 c0 c3 f0 f3 hgl hll
       have HF:Hid (A=(⟨r.org,r.lines++[l],true⟩,0)):=QB (by rw[QA HA,if_neg (fun h=>hk h.1),if_neg hk];rfl)
       have e0:=QC (QA HBl5) 0
       have e1:=QC (QA HBl5) 1
       have e2:=QC (QA HBl5) 2
       have e3:=QC (QA HBl5) 3
       have e4:=QC (QA HBl5) 4
       have e5:=QC (QA HBl5) 5
       have e6:=QC (QA HBl5) 6
       have k1:=QC (QA Hbx5) 1
       simp only[gA,gZ,gS]at e0 e1 e2 e3 e4 e5 e6 k1
       have hs5:=QD (QA Hbx5)
       have hs5':=QD (QA HBl5)
       have hql:=(QA HL5).len
       go_region_law (refine step_append_own rfl (.tmp 89) (.tmp 91) 61 rfl base 99 i0 (.agg #[.string ⟨#[]⟩,.int .i64 0,.int .i64 0,.int .i64 0,.int .i64 0,.int .i64 0,.slice none 0 0]) 7 80 Tryz.underlying61 hi hz0 hz1 hz2 rfl (by decide) _ _ _ (by simp[Act.eval,Act.put]) (QO (QA HL5).row (QW (QF w5 _))) ⟨w5.heap.size,0,none⟩ 1 1 (encLine l (p1,n1,c1)) (by simp[Act.eval,Act.put]) rfl (news_cells _ _ _ _) (line_cells_one _ _) (by unfold maxLen;omega) (by omega) (by simp;omega) ?_;intro v6 w6 hown6 hk6;have Hb6:=QB (kboxE hk6 (bbox (QW (QF w5 _)) (QA Hbx5)) (by decide));have k6:=QC (QA Hb6) 1;simp only[gA,gZ,gS]at k6;have f6:=ZC (QA Hb6) 1;have hs6:=QD (QA Hb6);obtain⟨p6,cap6,hv6⟩:=row_shape hown6;subst hv6)
       all_goals go_wp2
       all_goals go_ret
       all_goals have hf:=add_fin (org:=r.org) (b:=true) hgb hmb hne2 hK5 (QA HL5) (QA HLb5) (QA HO5) (QW (QF w5 _)) hk6 hown6 (QA Hb6) (r.lines.length+1) (by rw[hql])
       all_goals refine⟨by rw[QA HF];rfl,fun _=>?_,hf.2⟩
       all_goals rw[QA HF]
       all_goals exact hf.1
  ·have Hfin:Hid (A=(r,3)):=QB (by rw[QA HAe,hHL];rfl)
   rw[hHL]at hlook
   clear HAe hHL
   go_upto_region 4 with fail
   go_region
   all_goals go_wp2
   all_goals go_ret
   all_goals exact⟨by rw[QA Hfin];rfl,fun h=>(by rw[QA Hfin]at h;cases h),(hK1.alloc _).drew⟩
def ProgAt (base:Nat) (w:World) (cs:Array Value) (r:Strd.Rd):Prop:=
 ∃p cap gm qs,cs=#[.int .i64 r.org,.slice p r.lines.length cap,.map (some gm)]∧ZS base w (.slice p r.lines.length cap) r.lines qs∧Z0 w gm r.lines.length r.lines∧base≤gm
theorem add_len (r:Strd.Rd) (t:Strd.Bs):(Strd.add r t).1.lines.length≤r.lines.length+1:=by
 unfold Strd.add
 split
 ·simp
 ·simp only
  split
  ·simp
  ·split
   ·simp
   ·split
    ·simp
    ·simp
theorem add_small (r:Strd.Rd) (t:Strd.Bs):0≤(Strd.add r t).2∧(Strd.add r t).2≤7:=by
 unfold Strd.add
 split
 ·simp
 ·simp only
  split
  ·simp
  ·split
   ·simp
   ·split
    ·simp
    ·simp
theorem ZR.rd {base base':Nat} {w w':World} {v:Value} {ss:List Strd.Bs} (h:ZR base w v ss) (hk:Kept base' RdTag w w'):ZR base w' v ss:=ZN h hk (fun cur h=>by
 rcases h with ⟨_,_,h⟩|⟨_,_,h⟩|⟨_,_,h⟩ <;> cases h)
theorem box64 {base:Nat} {w w':World} {b:Nat} {cs:Array Value} (h:w.heap[b]? = some (.cells cs 64 (0,0))) (hk:Kept base RdTag w w'):w'.heap[b]? = some (.cells cs 64 (0,0)):=by
 rw[hk.block b (QD h) (.inr fun o ho hd=>by rw[h]at ho;cases ho;rcases hd with ⟨_,_,h⟩|⟨_,_,h⟩|⟨_,_,h⟩ <;> cases h)]
 exact h
theorem prog_one (o:Int) (p:Option Addr) (n c:Nat) (m:Option Nat):(#[Value.int .i64 o,.slice p n c,.map m]).all (·.oneCell')=true:=by simp[Value.oneCell']
theorem Source_c (s:ByteArray) (w:World) (hs:s.size≤2^20) (h11:11≤w.heap.size) (hT:Tabs w) :
  Calls Tryz.prog 37 #[.string s] w fun e w'=>∃cs,e=.returned (.tuple #[.agg cs,.int .i64 (Strd.QM s.data.toList).2.1,.int .i64 (Strd.QM s.data.toList).2.2])∧(∃o p n c m,cs=#[Value.int .i64 o,.slice p n c,.map m])∧((Strd.QM s.data.toList).2.2=0→ProgAt w.heap.size w' cs (Strd.QM s.data.toList).1)∧Below w.heap.size w w':=by
 have hl:s.size=s.data.toList.length:=ZY s
 generalize hX:Strd.QM s.data.toList=X
 have hmm:=@run_makeMap Tryz.prog
 have HT:=QB hT
 have HX:=QB hX
 clear hX hT
 by_cases hlong:4000<s.size
 ·have Hfin:Hid (X=(⟨0,[],false⟩,0,7)):=QB (by rw[←QA HX];unfold Strd.QM;rw[if_pos (by omega)])
  clear HX hl
  go_enter Tryz.func37,Tryz.ntmps37
  have hb0:=QF w (.cells #[.int .i64 0,.slice none 0 0,.map none] 64)
  have hx0:=QH w (.cells #[.int .i64 0,.slice none 0 0,.map none] 64)
  go_upto_region 2 with fail
  generalize w.alloc (.cells #[.int .i64 0,.slice none 0 0,.map none] 64)=w0 at hx0 hb0 ⊢
  go_wp2_with (refine wpList_store_row rfl 64 (.tmp 2) (.tmp 12) rfl w.heap.size #[.int .i64 0,.slice none 0 0,.map none] rfl rfl 64 #[.int .i64 0,.slice none 0 0,.map none] (by exact hx0) (by kernel_rfl) rfl (prog_one _ _ _ _ _) ?_)
  refine bodyPost_ret (v:=.tuple #[.agg #[.int .i64 0,.slice none 0 0,.map none],.int .i64 0,.int .i64 7]) (by exact Q6 Tryz.results37 _ _ w.heap.size 64 _ _ _ rfl (by exact ZJ hx0) Tryz.underlying64 rfl (by kernel_rfl)) rfl ?_
  exact⟨_,by rw[QA Hfin];rfl,⟨_,_,_,_,_,rfl⟩,fun h=>(by rw[QA Hfin]at h;cases h),QT hb0 (Nat.le_refl _) _⟩
 ·obtain⟨hpn,hpl,_⟩:=split_len 10 s.data.toList
  have hXe:X=Strd.addAll 0 ⟨0,[],false⟩ (Strd.split 10 s.data.toList):=by rw[←QA HX];unfold Strd.QM;rw[if_neg (by omega)]
  generalize hP:Strd.split 10 s.data.toList=parts at hpn hpl hXe
  have HXe:=QB hXe
  have Hpl:=QB hpl
  have HP:=QB hP
  have hpn2:parts.length≤4001:=by omega
  have hz4:s.data.toList.length≤2^20:=by omega
  have Hpl:Hid (∀t∈parts,t.length≤2^20):=QB fun t ht=>Nat.le_trans (QA Hpl t ht) hz4
  clear hXe hpl hP HX hpn hl hz4
  go_enter Tryz.func37,Tryz.ntmps37
  go_wp2_with fail
  refine(pieces_c _ 10 (by decide) _ (by omega)).mono ?_
  rintro e w1 ⟨v1,rfl,hv1,hb1⟩
  rw[QA HP]at hv1
  have b1:=QF w (.cells #[.int .i64 0,.slice none 0 0,.map none] 64)
  have b2:=QF (w.alloc (.cells #[.int .i64 0,.slice none 0 0,.map none] 64)) (.map #[] 0)
  have b3:=QF ((w.alloc (.cells #[.int .i64 0,.slice none 0 0,.map none] 64)).alloc (.map #[] 0)) (.cells #[.int .i64 0,.slice none 0 0,.map (some (w.heap.size+1)),.bool false] 128)
  have hB0:=QE (QE b1 b2) b3
  have hB1:Below w.heap.size w w1:=QE hB0 hb1
  have Hx1:Hid (w1.heap[w.heap.size]? = _):=QB (bbox hb1 (bbox b3 (bbox b2 (QH w (.cells #[.int .i64 0,.slice none 0 0,.map none] 64)))))
  have hsz1:(w.alloc (.cells #[.int .i64 0,.slice none 0 0,.map none] 64)).heap.size=w.heap.size+1:=by simp
  have hsz2:((w.alloc (.cells #[.int .i64 0,.slice none 0 0,.map none] 64)).alloc (.map #[] 0)).heap.size=w.heap.size+2:=by simp
  have hown:Z0 w1 (w.heap.size+1) 0 []:=by
   have h:=World.ownsMap_made (H:=Unit) (w.alloc (.cells #[.int .i64 0,.slice none 0 0,.map none] 64)) Tryz.prog 9 (plainElem Tryz.prog 3)
   rw[hsz1]at h
   have h':Z0 ((w.alloc (.cells #[.int .i64 0,.slice none 0 0,.map none] 64)).alloc (.map #[] 0)) (w.heap.size+1) 0 []:=⟨_,h,fun s=>by simp[Strd.hasLabel,Maps.has],fun s j _ hj=>by simp[Strd.labelAt]at hj⟩
   exact(h'.below b3).below hb1
  have hbox:w1.heap[w.heap.size+2]? = some (.cells #[.int .i64 0,.slice none 0 0,.map (some (w.heap.size+1)),.bool false] 128 (0,0)):=by
   rw[←hsz2]
   exact bbox hb1 (QH _ _)
  have HR1:Hid (ReaderAt w.heap.size w1 (w.heap.size+2) (w.heap.size+1) ⟨0,[],false⟩):=QB ⟨⟨_,[],hbox,rfl,World.ownsRow_nil _ _ _ _,fun x hx=>by cases hx⟩,hown,by omega,by omega⟩
  obtain⟨p1,cap1,rfl⟩:=row_shape hv1
  have HS1:=QB hv1
  clear hv1 hbox hown hb1 b1 b2 b3 hB0 hsz1 hsz2
  have HT1:=QB ((QA HT).below hB1)
  go_wp2_with fail
  go_loopw [19] (fun c wr=>∃(j:Nat) (rj:Strd.Rd),j≤parts.length∧c=.int .i64 j∧X=Strd.addAll j rj (parts.drop j)∧rj.lines.length≤j∧ReaderAt w.heap.size wr (w.heap.size+2) (w.heap.size+1) rj∧Kept w.heap.size RdTag w1 wr) (fun c _=>parts.length-(intOf c).toNat)
  case atStart=>exact⟨0,⟨0,[],false⟩,by omega,rfl,by rw[QA HXe];rfl,by simp,QA HR1,Kept.refl _ _ _⟩
  case round=>
   obtain⟨j,rj,hj,rfl,hXj,hlj,hRj,hKj⟩:=hrel
   have HXj:=QB hXj
   have HRj:=QB hRj
   have hxr:=box64 (QA Hx1) hKj
   have Hxr:=QB hxr
   clear hXj hRj hxr
   have hbwr:w.heap.size≤wr.heap.size:=Nat.le_trans hB1.size hKj.size
   have hBr:Below w.heap.size w wr:=hB1.trans (hKj.below hB1.size)
   by_cases hlt:j<parts.length
   ·obtain⟨bt,rfl,_,hbt,hct⟩:=((QA HS1).rd hKj).at j hlt
    have hTr:=(QA HT1).kept hKj h11
    have hzt:=QA Hpl _ (List.getElem_mem hlt)
    have hXs:X=let p:=Strd.add rj parts[j];if p.2=0 then Strd.addAll (j+1) p.1 (parts.drop (j+1)) else (p.1,j+1,p.2):=by
     rw[QA HXj,List.drop_eq_getElem_cons hlt];rfl
    generalize parts[j]=t at hXs hct hzt
    simp only at hXs
    have HXs:=QB hXs
    clear hXs HXj
    go_wp2_with fail
    refine(add_c w.heap.size (w.heap.size+2) (w.heap.size+1) rj _ _ (by rw[ZA];omega) hTr h11 hbwr (QA HRj) (by omega)).mono ?_
    rintro e w4 ⟨rfl,hR4,hK4⟩
    rw[Q4]at hR4 ⊢
    have hlen4:=add_len rj t
    have hsm:=add_small rj t
    generalize Strd.add rj t=A at HXs hR4 hlen4 hsm ⊢
    have Hx4:=QB (box64 (QA Hxr) hK4)
    have hB4:Below w.heap.size w w4:=hBr.trans (hK4.below hbwr)
    have hlt4:=QD (QA Hx4)
    have HR4:=QB hR4
    clear hR4
    by_cases hA0:A.2=0
    ·have HXn:Hid (X=Strd.addAll (j+1) A.1 (parts.drop (j+1))):=QB (by rw[QA HXs,if_pos hA0])
     have HRn:=QB (QA HR4 hA0)
     clear HXs HR4
     go_wp2
     go_roundw
     case rel=>exact⟨j+1,A.1,by omega,by go_num,QA HXn,by omega,QA HRn,hKj.trans hK4⟩
     case measure=>simp[intOf];omega
    ·have HXn:Hid (X=(A.1,j+1,A.2)):=QB (by rw[QA HXs,if_neg hA0])
     have hA0':(A.2 != 0)=true:=by simpa using hA0
     clear HXs HR4
     go_wp2_with (refine wpList_store_row rfl 64 (.tmp 2) (.tmp 28) rfl w.heap.size #[.int .i64 0,.slice none 0 0,.map none] rfl rfl 64 #[.int .i64 0,.slice none 0 0,.map none] (by exact QA Hx4) (by kernel_rfl) rfl (prog_one _ _ _ _ _) ?_)
     refine bodyPost_ret (v:=.tuple #[.agg #[.int .i64 0,.slice none 0 0,.map none],.int .i64 ((j:Int)+1),.int .i64 A.2]) (by exact Q6 Tryz.results37 _ _ w.heap.size 64 _ _ _ rfl (by exact ZJ (QA Hx4)) Tryz.underlying64 rfl (by kernel_rfl)) rfl ?_
     exact⟨_,by rw[QA HXn];rfl,⟨_,_,_,_,_,rfl⟩,fun h=>absurd (by rw[QA HXn]at h;exact h) hA0,QT hB4 (Nat.le_refl _) _⟩
   ·obtain rfl:j=parts.length:=by omega
    have HXn:Hid (X=(rj,0,0)):=QB (by rw[QA HXj,List.drop_length];rfl)
    obtain⟨⟨vl,qs,hbx,hL⟩,hLab,_,hmb⟩:=QA HRj
    obtain⟨pl,capl,rfl⟩:=hL.shape
    have c0:=QC hbx 0
    have c1:=QC hbx 1
    have c2:=QC hbx 2
    simp only[gA,gZ,gS]at c0 c1 c2
    have hgl:=QD hbx
    have HL:=QB hL
    have HLab:=QB hLab
    clear hL hLab hbx
    go_wp2_with (refine wpList_store_row rfl 64 (.tmp 2) (.tmp 34) rfl w.heap.size #[.int .i64 rj.org,.slice pl rj.lines.length capl,.map (some (w.heap.size+1))] rfl rfl 64 #[.int .i64 0,.slice none 0 0,.map none] (by exact QA Hxr) (by kernel_rfl) rfl (prog_one _ _ _ _ _) ?_)
    refine bodyPost_ret (v:=.tuple #[.agg #[.int .i64 rj.org,.slice pl rj.lines.length capl,.map (some (w.heap.size+1))],.int .i64 0,.int .i64 0]) (by exact Q6 Tryz.results37 _ _ w.heap.size 64 _ _ _ rfl (by exact ZJ (QA Hxr)) Tryz.underlying64 rfl (by kernel_rfl)) rfl ?_
    have hrow:∀k,k≠w.heap.size→(wr.setRow w.heap.size #[.int .i64 rj.org,.slice pl rj.lines.length capl,.map (some (w.heap.size+1))]).heap[k]? = wr.heap[k]?:=fun k hk=>setRow_other wr w.heap.size k _ hk
    refine⟨_,by rw[QA HXn];rfl,⟨_,_,_,_,_,rfl⟩,fun _=>?_,QT hBr (Nat.le_refl _) _⟩
    rw[QA HXn]
    refine⟨pl,capl,w.heap.size+1,qs,rfl,⟨(QA HL).fst,?_,fun x hx=>ZP ((QA HL).oprs x hx) (QA Hxr) (by decide)⟩,(QA HLab).block (hrow _ (by omega)),by omega⟩
    exact ZP (QA HL).row (QA Hxr) (by decide)
end Go.Proofs.YtegiloiojloaoaaGreatDoor
