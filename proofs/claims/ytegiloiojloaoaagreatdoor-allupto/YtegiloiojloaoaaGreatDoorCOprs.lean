/- The contract of read.operands. -/
import Derived.Test.YtegiloiojloaoaaGreatDoorCSpec
import Derived.Test.YtegiloiojloaoaaGreatDoorCRoles
import Derived.Deep.DeepCutAuto
import Derived.Deep.RegionHeld3
set_option linter.unusedVariables false
set_option linter.unusedSimpArgs false
set_option maxHeartbeats 4000000
set_option maxRecDepth 1000000
namespace Go.Proofs.YtegiloiojloaoaaGreatDoor
open Go.RowKit Go.Shelf
theorem ro_all:∀(rs:List Int) (ts:List Strd.Bs) (os:List Strd.Opr),rs.length=ts.length→os.length=ts.length→(∀i,i<ts.length→Strd.QR (rs.getD i 0) (Strd.trim (ts.getD i []))=some (os.getD i ⟨[],0⟩))→Strd.ZG rs ts=some os
 |[],[],[],_,_,_=>rfl
 |r::rs,t::ts,o::os,h1,h2,h=>by
  rw[Strd.ZG]
  have h0:=h 0 (by simp)
  simp only[List.getD_cons_zero]at h0
  rw[h0]
  have:=ro_all rs ts os (by simpa using h1) (by simpa using h2) (fun i hi=>by have:=h (i+1) (by simp;omega);simpa only[List.getD_cons_succ] using this)
  simp[this]
 |[],_::_,_,h,_,_=>by simp at h
 |_::_,[],_,h,_,_=>by simp at h
 |[],[],_::_,_,h,_=>by simp at h
 |_::_,_::_,[],_,h,_=>by simp at h
theorem ro_bad:∀(rs:List Int) (ts:List Strd.Bs) (i:Nat),i<ts.length→i<rs.length→Strd.QR (rs.getD i 0) (Strd.trim (ts.getD i []))=none→Strd.ZG rs ts=none
 |r::rs,t::ts,0,_,_,h=>by
  simp only[List.getD_cons_zero]at h
  rw[Strd.ZG,h];rfl
 |r::rs,t::ts,i+1,h1,h2,h=>by
  simp only[List.getD_cons_succ]at h
  rw[Strd.ZG,ro_bad rs ts i (by simpa using h1) (by simpa using h2) h]
  cases Strd.QR r (Strd.trim t) <;> rfl
 |[],_,_,_,h,_=>by simp at h
 |_::_,[],_,h,_,_=>by simp at h
theorem ro_len:∀(rs:List Int) (ts:List Strd.Bs),rs.length≠ts.length→Strd.ZG rs ts=none
 |[],[],h=>by simp at h
 |r::rs,t::ts,h=>by
  rw[Strd.ZG,ro_len rs ts (by simpa using h)]
  cases Strd.QR r (Strd.trim t) <;> rfl
 |[],_::_,_=>rfl
 |_::_,[],_=>rfl
theorem roles_small (k:Int) (n:Nat):∀r∈Strd.roles k n,0≤r∧r<4:=by
 intro r hr
 unfold Strd.roles at hr
 repeat' split at hr
 all_goals first|(simp at hr;omega)|(rw[List.mem_replicate]at hr;omega)|(simp at hr)
def oprRow (os:List Strd.Opr) (m:Nat):List Value:=encOprs os++(List.replicate m [Value.string ⟨#[]⟩,.int .i64 0]).flatten
theorem oprRow_len (os:List Strd.Opr) (m:Nat):(oprRow os m).length=(os.length+m)*2:=by
 unfold oprRow encOprs
 rw[List.length_append,flatMap_len encOpr 2 (fun _=>rfl)]
 have:∀m,((List.replicate m [Value.string ⟨#[]⟩,.int .i64 0]).flatten).length=m*2:=by
  intro m
  induction m with
  |zero=>rfl
  |succ m ih=>rw[List.replicate_succ,List.flatten_cons,List.length_append,ih];simp;omega
 rw[this];omega
theorem oprRow_set (os:List Strd.Opr) (m:Nat) (o:Strd.Opr):((oprRow os (m+1)).set (os.length*2) (.string (bstr o.name))).set (os.length*2+1) (.int .i64 o.num)=oprRow (os++[o]) m:=by
 unfold oprRow
 have hl:(encOprs os).length=os.length*2:=flatMap_len encOpr 2 (fun _=>rfl) os
 rw[←hl,List.replicate_succ,List.flatten_cons]
 rw[List.set_append_right _ _ (Nat.le_refl _),Nat.sub_self]
 rw[List.set_append_right _ _ (by omega)]
 have e:(encOprs os).length+1-(encOprs os).length=1:=by omega
 rw[e]
 simp[encOprs,encOpr]
theorem made_pairs (a b:Value):∀N,(madeCells #[a,b] (N*2)).toList=(List.replicate N [a,b]).flatten
 |0=>by simp[madeCells]
 |N+1=>by
  have ih:=made_pairs a b N
  simp only[madeCells,Array.toList_map,Array.toList_range]at ih ⊢
  have e:(N+1)*2=N*2+1+1:=by omega
  rw[e,List.range_succ,List.range_succ,List.map_append,List.map_append,ih,List.replicate_succ',List.flatten_append]
  have e1:N*2 % 2=0:=by omega
  have e2:(N*2+1) % 2=1:=by omega
  simp[e1,e2]
theorem own_full2 {w:World} {base n g size:Nat} {e:TypeId} {xs:List Value} (h:w.ownsRow base e size (.slice (some ⟨g,0,none⟩) n n) n xs):w.heap[g]? = some (.cells xs.toArray e (0,0)):=by
 rcases h.2 with ⟨h1,_⟩|⟨g',cap,cur,h1,_,h3,_,_,h6,h7⟩
 ·cases h1
 ·simp only[Value.slice.injEq,Option.some.injEq,Addr.mk.injEq]at h1
  obtain⟨⟨rfl,_⟩,_,rfl⟩:=h1
  rw[h3,←h7,List.take_of_length_le (by rw[Array.length_toList,h6];exact Nat.le_refl _)]
theorem trim_len (l:Strd.Bs):(Strd.trim l).length≤l.length:=by
 have h:∀l:Strd.Bs,(Strd.trimL l).length≤l.length:=fun l=>(List.dropWhile_sublist _).length_le
 unfold Strd.trim
 rw[List.length_reverse]
 refine Nat.le_trans (h _) ?_
 rw[List.length_reverse]
 exact h l
theorem keep2 {w:World} {g b j:Nat} {x y u:Value} (h:w.cell? ⟨b,j,none⟩=some u) (hne:b≠g):((w.setCell ⟨g,0,none⟩ x).setCell ⟨g,1,none⟩ y).cell? ⟨b,j,none⟩=some u:=by
 rw[World.cell?_of_block (w:=w) (a:=⟨b,j,none⟩) (by rw[Below.heap_setCell _ _ _ _ hne,Below.heap_setCell _ _ _ _ hne])]
 exact h
theorem box_two {w:World} {g:Nat} {a b x y:Value} {t:TypeId} (h:w.heap[g]? = some (.cells #[a,b] t (0,0))):((w.setCell ⟨g,0,none⟩ x).setCell ⟨g,1,none⟩ y).heap[g]? = some (.cells #[x,y] t (0,0)):=by
 have hlt:=QD h
 simp[World.setCell,Array.getElem?_modify,h]
theorem below_two {B:Nat} {a w:World} (h:Below B a w) {g:Nat} (hg:B≤g) (x y:Value):Below B a ((w.setCell ⟨g,0,none⟩ x).setCell ⟨g,1,none⟩ y):=
 (h.setCell (p:=⟨g,0,none⟩) hg x).setCell (p:=⟨g,1,none⟩) hg y
theorem row_two {w:World} {g i:Nat} {l:List Value} {x y:Value} {t:TypeId} (h:w.heap[g]? = some (.cells l.toArray t (0,0))):((w.setCell ⟨g,i,none⟩ x).setCell ⟨g,i+1,none⟩ y).heap[g]? = some (.cells ((l.set i x).set (i+1) y).toArray t (0,0)):=by
 simp[World.setCell,Array.getElem?_modify,h]
theorem below_twoAt {B:Nat} {a w:World} (h:Below B a w) {g:Nat} (hg:B≤g) (i:Nat) (x y:Value):Below B a ((w.setCell ⟨g,i,none⟩ x).setCell ⟨g,i+1,none⟩ y):=
 (h.setCell (p:=⟨g,i,none⟩) hg x).setCell (p:=⟨g,i+1,none⟩) hg y
theorem ZR.below {base:Nat} {w w':World} {v:Value} {ss:List Strd.Bs} (h:ZR base w v ss) (hb:Below w.heap.size w w'):ZR base w' v ss:=QO h hb
theorem ZO.below {e:TypeId} {base:Nat} {w w':World} {v:Value} {xs:List Int} (h:ZO e base w v xs) (hb:Below w.heap.size w w'):ZO e base w' v xs:=QO h hb
theorem ZR.at {base:Nat} {w:World} {p:Option Addr} {n cap:Nat} {ss:List Strd.Bs} (h:ZR base w (.slice p n cap) ss) (i:Nat) (hi:i<ss.length) :
  ∃b,p=some ⟨b,0,none⟩∧n=ss.length∧b<w.heap.size∧w.cell? ⟨b,i,none⟩=some (.string (bstr ss[i])):=by
 obtain⟨b,hp,hn,_,hb,hc⟩:=ownsRow_cell h (by omega)
 exact⟨b,hp,hn,hb,hc _ _ (by rw[List.getElem?_map,gE hi];rfl)⟩
theorem Tryz.info136:(Tryz.prog.info? 136).map (fun i=>(i.zero,i.size,i.bytes))=some (some (.agg #[.string ⟨#[]⟩,.int .i64 0]),2,24):=by kernel_rfl
theorem operands_c (k:Int) (ts:List Strd.Bs) (base:Nat) (v:Value) (w:World) (hS:ZR base w v ts) (hn:ts.length≤2^30) (hz:∀t∈ts,t.length≤2^40) (hT:Tabs w) :
  Calls Tryz.prog 160 #[.int .i64 k,v] w fun e w'=>∃v',e=.returned (.tuple #[v',.bool (Strd.operands k ts).isSome])∧(∀os,Strd.operands k ts=some os→QS w' v' os)∧(Strd.operands k ts=none→v'=.slice none 0 0)∧Below w.heap.size w w':=by
 obtain⟨p,cap,rfl⟩:∃p cap,v=.slice p ts.length cap:=by
  rcases hS.2 with ⟨rfl,h0⟩|⟨g,cap,cur,rfl,_⟩
  ·exact⟨none,0,by rw[h0]⟩
  ·exact⟨_,_,rfl⟩
 generalize hOS:Strd.operands k ts=OS
 have HOS:=QB hOS
 have HS:=QB hS
 have HT:=QB hT
 have Hz:=QB hz
 clear hOS hS hT hz
 obtain⟨i0,hi,hz0,hz1,hz2⟩:=info_parts Tryz.info136
 go_enter Tryz.func160,Tryz.ntmps160
 go_wp2_with fail
 refine(Roles_c k ts.length w (by omega)).mono ?_
 rintro e w1 ⟨v1,rfl,hR,hb1⟩
 obtain⟨pr,cr,rfl⟩:=hR.shape
 have HR:=QB hR
 clear hR
 by_cases hlen:(Strd.roles k ts.length).length=ts.length
 ·have hlb:(((Strd.roles k ts.length).length:Int) != (ts.length:Int))=false:=by rw[hlen];simp
  have Hlen:=QB hlen
  clear hlen
  go_wp2_with (at_make;refine wpList_make_full _ rfl _ _ 95 rfl _ 136 i0 (.agg #[.string ⟨#[]⟩,.int .i64 0]) 2 Tryz.underlying95 hi hz0 hz1 .i64 .i64 _ _ ts.length rfl rfl rfl rfl (by rw[hz2];omega) (by unfold maxLen;omega) (Nat.le_refl _) ?_;intro w2 hown hgrow)
  have hrow:w2.heap[w1.heap.size]? = some (.cells (oprRow [] ts.length).toArray 136 (0,0)):=by
   have:=own_full2 hown
   have e:(madeCells (Value.agg #[.string ⟨#[]⟩,.int .i64 0]).cells (ts.length*2)).toList=oprRow [] ts.length:=made_pairs _ _ _
   rw[e]at this
   exact this
  have hbl2:Below w1.heap.size w1 w2:=⟨hgrow.os,hgrow.tape,hgrow.output,hgrow.size,fun k hk=>hgrow.block k hk (by simp)⟩
  have Hrow:=QB hrow
  clear hown hgrow hrow
  go_loopw [26] (fun c wr=>∃(j:Nat) (os:List Strd.Opr),j≤ts.length∧os.length=j∧c=.int .i64 j∧(∀i,i<j→Strd.QR ((Strd.roles k ts.length).getD i 0) (Strd.trim (ts.getD i []))=some (os.getD i ⟨[],0⟩))∧wr.heap[w1.heap.size]? = some (.cells (oprRow os (ts.length-j)).toArray 136 (0,0))∧Below w1.heap.size w1 wr) (fun c _=>ts.length-(intOf c).toNat)
  case atStart=>exact⟨0,[],by omega,rfl,rfl,fun i hi=>by omega,QA Hrow,hbl2⟩
  case round=>
   obtain⟨j,os,hj,hosl,rfl,hall,hrw,hbl⟩:=hrel
   have Hall:=QB hall
   have Hrw:=QB hrw
   have Hosl:=QB hosl
   clear hall hrw hosl
   have hblw:Below w.heap.size w wr:=QE hb1 hbl
   by_cases hlt:j<ts.length
   ·obtain⟨bt,rfl,_,hbt,hct⟩:=((QA HS).below hblw).at j hlt
    obtain⟨br,rfl,_,hbr,hcr⟩:=((QA HR).below hbl).at j (by rw[QA Hlen];exact hlt)
    have hTr:=(QA HT).below hblw
    have hTd:Tabs wr.drew:=hTr.below (Below.refl _ _).drew
    have hsz:=QA Hz _ (List.getElem_mem hlt)
    have hrs:=roles_small k ts.length _ (List.getElem_mem (show j<(Strd.roles k ts.length).length by rw[QA Hlen];exact hlt))
    have hgt:ts.getD j []=ts[j]:=by rw[gD,gE hlt];rfl
    have hgr:(Strd.roles k ts.length).getD j 0=(Strd.roles k ts.length)[j]'(by rw[QA Hlen];exact hlt):=by rw[gD,gE (by rw[QA Hlen];exact hlt)];rfl
    have hno:∀x:Option Strd.Opr,x=Strd.QR ((Strd.roles k ts.length).getD j 0) (Strd.trim (ts.getD j []))→x=Strd.QR ((Strd.roles k ts.length)[j]'(by rw[QA Hlen];exact hlt)) (Strd.trim ts[j]):=fun x hx=>by rw[hx,hgr,hgt]
    generalize hT1:ts[j]=t at *
    generalize hR1:(Strd.roles k ts.length)[j]'(by rw[QA Hlen];exact hlt)=r at *
    generalize hRO:Strd.QR ((Strd.roles k ts.length).getD j 0) (Strd.trim (ts.getD j []))=RO at hno
    have hROe:=hno RO rfl
    have HRO:=QB hRO
    have HROe:=QB hROe
    have Htl:=QB (trim_len t)
    have HTr:=QB hTr
    have HTd:=QB hTd
    clear hT1 hR1 hRO hROe hno hgt hgr hTr hTd
    have hjr:(j:Int)<((Strd.roles k ts.length).length:Int):=by rw[QA Hlen];omega
    have hjt:(j:Int)<(ts.length:Int):=by omega
    have hbr1:br<wr.heap.size+1:=by omega
    go_upto_region 8 with fail
    go_cut [10,11] (fun x y wc=>∃(bo:Nat) (o:Strd.Opr),x=.pointer (some ⟨bo,0,none⟩)∧y=.bool RO.isSome∧(∀o',RO=some o'→o'=o)∧wc.heap[bo]? = some (.cells #[.string (bstr o.name),.int .i64 o.num] 136 (0,0))∧Below wr.heap.size wr wc∧wr.heap.size≤bo)
    case first=>
     go_region_held3 (fun W=>W.cell? ⟨br,j,none⟩=some (.int .i64 r)) (first|go_keep|exact keep2 hk5 (by omega)) (first
      |(go_at_call 159;refine(trimBlanks_c _ _ ?_ ?_).mono ?_;(rw[ZA];omega);(first|exact QA HTd|exact(QA HTr).below (QW (QF _ _)));rintro e w4 ⟨rfl,hb4⟩;obtain⟨hc4,hf4⟩:=bcell hb4;have hB4:Below wr.heap.size wr w4:=(by first|exact QE (QW (Below.refl _ _)) hb4|exact QE (QW (QF _ _)) hb4);have hs4:wr.heap.size≤w4.heap.size:=hB4.size;have hbr4:br<w4.heap.size:=(by omega);have hk4:w4.cell? ⟨br,j,none⟩=some (.int .i64 r):=(hB4.cell (p:=⟨br,j,none⟩) hbr).trans hcr;(first|(have hx4:wr.heap.size<w4.heap.size:=(by have hq:=hb4.size;simp at hq;omega))|skip))
      |(go_at_call 178;refine(readOperand_c _ _ _ hrs.1 hrs.2 ?_ ?_).mono ?_;(rw[ZA];have:=QA Htl;omega);(first|exact(QA HTr).below hB4|exact(QA HTr).below (QE hB4 (QF _ _)));rintro e w5 ⟨o,rfl,ho,hb5⟩;rw[Q4,←QA HROe]at ho;rw[Q4,←QA HROe];obtain⟨hc5,hf5⟩:=bcell hb5;have hB5:Below wr.heap.size wr w5:=(by first|exact QE hB4 hb5|exact QE hB4 (below_at hb5));have hs5:=hb5.size;have hk5:w5.cell? ⟨br,j,none⟩=some (.int .i64 r):=(hB5.cell (p:=⟨br,j,none⟩) hbr).trans hcr;(first|(have hx5:w4.heap.size<w5.heap.size:=(by have hq:=hb5.size;simp at hq;omega))|skip)))
     all_goals go_wp2_with fail
     all_goals go_meet
     ·exact⟨w5.heap.size,o,rfl,rfl,ho,QH _ _,hB5.alloc hB5.size _,hB5.size⟩
     ·exact⟨w4.heap.size,o,rfl,rfl,ho,box_two (bbox hb5 (QH _ _)),below_two hB5 hs4 _ _,hs4⟩
     ·exact⟨wr.heap.size,o,rfl,rfl,ho,box_two (bbox hb5 (bbox hb4 (box_new_d wr _))),below_two hB5 (Nat.le_refl _) _ _,Nat.le_refl _⟩
    case rest=>
     obtain⟨bo,o,rfl,rfl,ho,hbo,hbc,hbge⟩:=hcut
     have hblc:Below w1.heap.size w1 wc:=QE hbl hbc
     have hrwc:=bbox hbc (QA Hrw)
     have hboc:=QC hbo
     have o0:=hboc 0
     have o1:=hboc 1
     simp only[gA,gZ,gS]at o0 o1
     have hbo1:=QD hbo
     have hg1:=QD hrwc
     have Hrwc:=QB hrwc
     have Ho:=QB ho
     clear hboc hbo hrwc ho
     cases hRO:RO with
     |none=>
      have hfin:OS=none:=by rw[←QA HOS];exact ro_bad _ _ j hlt (by rw[QA Hlen];exact hlt) (by rw[QA HRO];exact hRO)
      have Hfin:=QB hfin
      clear hfin
      go_wp2
      go_ret2
      exact⟨.slice none 0 0,by rw[QA Hfin];rfl,fun os h=>(by rw[QA Hfin]at h;cases h),fun _=>rfl,QE hb1 hblc⟩
     |some o'=>
      obtain rfl:=QA Ho o' hRO
      have HRO2:=QB hRO
      clear hRO
      obtain⟨m,hm⟩:∃m,ts.length-j=m+1:=⟨ts.length-j-1,by omega⟩
      have hrl:=oprRow_len os (ts.length-j)
      have hjl:j*2+1<(oprRow os (ts.length-j)).length:=by rw[hrl,QA Hosl];omega
      obtain⟨u0,hu0⟩:∃u0,wc.cell? ⟨w1.heap.size,j*2,none⟩=some u0:=by
       rw[QC (QA Hrwc),gA]
       exact⟨_,gE (by omega)⟩
      obtain⟨u1,hu1⟩:∃u1,wc.cell? ⟨w1.heap.size,j*2+1,none⟩=some u1:=by
       rw[QC (QA Hrwc),gA]
       exact⟨_,gE hjl⟩
      have f0:=ZC (QA Hrwc) (j*2)
      have f1:=ZC (QA Hrwc) (j*2+1)
      have Hm:=QB hm
      clear hrl hjl hm
      have hnew:((wc.setCell ⟨w1.heap.size,j*2,none⟩ (.string (bstr o'.name))).setCell ⟨w1.heap.size,j*2+1,none⟩ (.int .i64 o'.num)).heap[w1.heap.size]? = some (.cells (oprRow (os++[o']) (ts.length-(j+1))).toArray 136 (0,0)):=by
       rw[row_two (QA Hrwc),QA Hm]
       have e:=oprRow_set os m o'
       rw[QA Hosl]at e
       rw[e,show ts.length-(j+1)=m from by have:=QA Hm;omega]
      have Hnew:=QB hnew
      have hall2:∀i,i<j+1→Strd.QR ((Strd.roles k ts.length).getD i 0) (Strd.trim (ts.getD i []))=some ((os++[o']).getD i ⟨[],0⟩):=by
       intro i hi
       have hol:=QA Hosl
       by_cases e:i=j
       ·subst e
        rw[QA HRO,QA HRO2,gD,List.getElem?_append_right (by omega),hol,Nat.sub_self];rfl
       ·rw[QA Hall i (by omega),gD,gD,List.getElem?_append_left (by omega)]
      have Hall2:=QB hall2
      have hbl3:Below w1.heap.size w1 ((wc.setCell ⟨w1.heap.size,j*2,none⟩ (.string (bstr o'.name))).setCell ⟨w1.heap.size,j*2+1,none⟩ (.int .i64 o'.num)):=below_twoAt hblc (Nat.le_refl _) _ _ _
      clear hnew hall2
      go_wp2
      go_roundw
      case rel=>exact⟨j+1,os++[o'],by omega,by rw[List.length_append,QA Hosl];rfl,by go_num,QA Hall2,QA Hnew,hbl3⟩
      case measure=>simp[intOf];omega
   ·obtain rfl:j=ts.length:=by omega
    have hfin:OS=some os:=by rw[←QA HOS];exact ro_all _ _ os (QA Hlen) (QA Hosl) (QA Hall)
    have Hfin:=QB hfin
    have hO:QS wr (.slice (some ⟨w1.heap.size,0,none⟩) ts.length ts.length) os:=by
     have hr:=QA Hrw
     rw[Nat.sub_self]at hr
     have e:oprRow os 0=encOprs os:=by simp[oprRow]
     rw[e]at hr
     have hl:(encOprs os).length=os.length*2:=flatMap_len encOpr 2 (fun _=>rfl) os
     have hol:=QA Hosl
     show World.ownsRow _ _ _ _ _ _ _
     rw[hol]
     rw[hol]at hl
     exact⟨hl,.inr ⟨w1.heap.size,ts.length,_,rfl,Nat.zero_le _,hr,Nat.le_refl _,by unfold maxLen;omega,by simp[hl],by rw[←hl];simp⟩⟩
    have HO:=QB hO
    clear hfin hO
    go_wp2
    go_ret2
    refine⟨.slice (some ⟨w1.heap.size,0,none⟩) ts.length ts.length,by rw[QA Hfin];rfl,fun os' h=>?_,fun h=>(by rw[QA Hfin]at h;cases h),hblw⟩
    rw[QA Hfin]at h
    cases h
    exact QA HO
 ·have hlb:(((Strd.roles k ts.length).length:Int) != (ts.length:Int))=true:=by simp;omega
  have hfin:OS=none:=by rw[←QA HOS];exact ro_len _ _ hlen
  have Hfin:=QB hfin
  clear hlen hfin
  go_wp2
  go_ret2
  exact⟨.slice none 0 0,by rw[QA Hfin];rfl,fun os h=>(by rw[QA Hfin]at h;cases h),fun _=>rfl,hb1⟩
theorem nil_oprs (w:World):QS w (.slice none 0 0) []:=World.ownsRow_nil _ _ _ _
theorem cutWord_len:∀l:Strd.Bs,(Strd.ZU l).1.length≤l.length∧(Strd.ZU l).2.length≤l.length
 |[]=>by simp[Strd.ZU]
 |c::t=>by
  have ih:=cutWord_len t
  rw[Strd.ZU]
  split
  ·refine⟨by simp,?_⟩
   exact trim_len (c::t)
  ·simp only[List.length_cons];omega
theorem split_len (m:UInt8):∀l:Strd.Bs,(Strd.split m l).length≤l.length+1∧(∀t∈Strd.split m l,t.length≤l.length)∧1≤(Strd.split m l).length
 |[]=>by simp[Strd.split]
 |c::t=>by
  obtain⟨h1,h2,h3⟩:=split_len m t
  rw[Strd.split]
  split
  ·refine⟨by simp;omega,?_,by simp⟩
   intro x hx
   rcases List.mem_cons.1 hx with rfl|hx
   ·simp
   ·have:=h2 x hx;simp;omega
  ·cases hs:Strd.split m t with
   |nil=>rw[hs]at h3;simp at h3
   |cons a b=>
    rw[hs]at h1 h2
    refine⟨by simp at h1 ⊢;omega,?_,by simp⟩
    intro x hx
    rcases List.mem_cons.1 hx with rfl|hx
    ·have:=h2 a (by simp);simp;omega
    ·have:=h2 x (by simp[hx]);simp;omega
theorem ZP {w:World} {base n size g:Nat} {e t:TypeId} {v:Value} {xs:List Value} {cur cs:Array Value} (h:w.ownsRow base e size v n xs) (hg:w.heap[g]? = some (.cells cur t (0,0))) (hne:t≠e):(w.setRow g cs).ownsRow base e size v n xs:=by
 obtain⟨h1,h2⟩:=h
 refine⟨h1,h2.imp id ?_⟩
 rintro ⟨g',cap,cur',hv,hb,hh,r⟩
 refine⟨g',cap,cur',hv,hb,?_,r⟩
 rw[setRow_other w g g' _ (fun e'=>by subst e';rw[hh]at hg;cases hg;exact hne rfl)]
 exact hh
def InsOut (w':World) (x:Option Strd.Ins) (o:Strd.Op) (p:Option Addr) (n c:Nat):Prop:=∀i,x=some i→i.op=o∧QS w' (.slice p n c) i.oprs
theorem InsOut.none (w':World) (o:Strd.Op) (p:Option Addr) (n c:Nat):InsOut w' none o p n c:=fun _ h=>by cases h
theorem instruction_c (s:ByteArray) (w:World) (hs:s.size≤2^20) (hT:Tabs w) :
  Calls Tryz.prog 133 #[.string s] w fun e w'=>∃(o:Strd.Op) (p:Option Addr) (n c:Nat),e=.returned (.tuple #[.agg #[.int .i64 o.kind,.int .i64 o.base,.int .i64 o.number,.int .i64 o.first,.int .i64 o.last,.slice p n c],.bool (Strd.instruction s.data.toList).isSome])∧InsOut w' (Strd.instruction s.data.toList) o p n c∧Below w.heap.size w w':=by
 have hl:s.size=s.data.toList.length:=ZY s
 have htl:=trim_len s.data.toList
 have hcl:=cutWord_len (Strd.trim s.data.toList)
 generalize hI:Strd.instruction s.data.toList=I
 obtain⟨wd,rest,hcw⟩:∃wd rest,Strd.ZU (Strd.trim s.data.toList)=(wd,rest):=⟨_,_,rfl⟩
 have hIe:I=if wd=[] then some Strd.emptyIns else (Strd.find wd).bind fun op=>(Strd.operands op.kind (if rest=[] then [] else Strd.split 44 rest)).map fun l=>⟨op,l⟩:=by
  rw[←hI];unfold Strd.instruction;rw[hcw]
 rw[hcw]at hcl
 have hwl:wd.length≤2^20:=by have:=hcl.1;simp only at this;omega
 have hrl:rest.length≤2^20:=by have:=hcl.2;simp only at this;omega
 have htb:(Strd.trim s.data.toList).length≤2^40:=by omega
 have HIe:=QB hIe
 have Hcw:=QB hcw
 have HT:=QB hT
 clear hI hIe hcw hcl hT hl htl
 have hbw:=QF w (.cells #[.int .i64 0,.int .i64 0,.int .i64 0,.int .i64 0,.int .i64 0,.slice none 0 0] 97)
 go_enter Tryz.func133,Tryz.ntmps133
 go_wp2_with fail
 refine(trimBlanks_c _ _ (by omega) ((QA HT).below hbw)).mono ?_
 rintro e w1 ⟨rfl,hb1⟩
 have hB1:=below_at hb1
 have Hx1:=QB (bbox hb1 (QH w (.cells #[.int .i64 0,.int .i64 0,.int .i64 0,.int .i64 0,.int .i64 0,.slice none 0 0] 97)))
 clear hb1 hbw
 go_wp2_with fail
 refine(cutWord_c _ _ (by rw[ZA];exact htb) ((QA HT).below hB1)).mono ?_
 rintro e w2 ⟨rfl,hb2⟩
 rw[Q4,QA Hcw]
 have hB2:=QE hB1 hb2
 have Hx2:=QB (bbox hb2 (QA Hx1))
 clear Hx1 hb2 hB1
 by_cases hw0:wd=[]
 ·have hfin:I=some Strd.emptyIns:=by rw[QA HIe,if_pos hw0]
  have Hfin:=QB hfin
  subst hw0
  clear hfin
  go_wp2_with (refine wpList_store_row rfl 97 (.tmp 2) (.tmp 18) rfl w.heap.size #[.int .i64 0,.int .i64 0,.int .i64 0,.int .i64 0,.int .i64 0,.slice none 0 0] rfl rfl 97 #[.int .i64 0,.int .i64 0,.int .i64 0,.int .i64 0,.int .i64 0,.slice none 0 0] (by exact QA Hx2) (by kernel_rfl) rfl (ins_one _ _ _ _ _ _ _ _) ?_)
  refine bodyPost_ret (v:=.tuple #[.agg #[.int .i64 0,.int .i64 0,.int .i64 0,.int .i64 0,.int .i64 0,.slice none 0 0],.bool true]) (by exact QP Tryz.results133 _ _ w.heap.size 97 _ _ _ rfl (by exact ZJ (QA Hx2)) Tryz.underlying97 rfl (by kernel_rfl)) rfl ?_
  refine⟨⟨0,0,0,0,0⟩,none,0,0,by rw[QA Hfin];rfl,?_,QT hB2 (Nat.le_refl _) _⟩
  rw[QA Hfin]
  rintro i hi
  cases hi
  exact⟨rfl,nil_oprs _⟩
 ·have hI2:I=(Strd.find wd).bind fun op=>(Strd.operands op.kind (if rest=[] then [] else Strd.split 44 rest)).map fun l=>⟨op,l⟩:=by rw[QA HIe,if_neg hw0]
  have HI2:=QB hI2
  have hw1:wd.isEmpty=false:=by simpa using hw0
  clear hI2 HIe hw0
  go_wp2_with fail
  refine(Find_c _ _ (by rw[ZA];omega) ((QA HT).below hB2)).mono ?_
  rintro e w3 ⟨o,rfl,ho,hb3⟩
  rw[Q4]at ho ⊢
  have hB3:=QE hB2 hb3
  have Hx3:=QB (bbox hb3 (QA Hx2))
  have hlt3:=QD (QA Hx3)
  clear Hx2 hb3 hB2
  cases hfd:Strd.find wd with
  |none=>
   have hfin:I=none:=by rw[QA HI2,hfd];rfl
   have Hfin:=QB hfin
   clear hfin hfd ho
   go_wp2_with (refine wpList_store_row rfl 97 (.tmp 2) (.tmp 26) rfl w.heap.size #[.int .i64 0,.int .i64 0,.int .i64 0,.int .i64 0,.int .i64 0,.slice none 0 0] rfl rfl 97 #[.int .i64 0,.int .i64 0,.int .i64 0,.int .i64 0,.int .i64 0,.slice none 0 0] (by exact bbox (QF _ _) (QA Hx3)) (by kernel_rfl) rfl (ins_one _ _ _ _ _ _ _ _) ?_)
   refine bodyPost_ret (v:=.tuple #[.agg #[.int .i64 0,.int .i64 0,.int .i64 0,.int .i64 0,.int .i64 0,.slice none 0 0],.bool false]) (by exact QP Tryz.results133 _ _ w.heap.size 97 _ _ _ rfl (by exact ZJ (bbox (QF _ _) (QA Hx3))) Tryz.underlying97 rfl (by kernel_rfl)) rfl ?_
   refine⟨⟨0,0,0,0,0⟩,none,0,0,by rw[QA Hfin];rfl,by rw[QA Hfin];exact InsOut.none _ _ _ _ _,QT (QE hB3 (QF _ _)) (Nat.le_refl _) _⟩
  |some o'=>
   obtain rfl:=ho o' hfd
   have hI3:I=(Strd.operands o'.kind (if rest=[] then [] else Strd.split 44 rest)).map fun l=>⟨o',l⟩:=by rw[QA HI2,hfd];rfl
   have HI3:=QB hI3
   clear hI3 hfd ho HI2
   by_cases hr0:rest=[]
   ·subst hr0
    rw[if_pos rfl]at HI3
    have hr1:(([]:Strd.Bs).isEmpty)=true:=rfl
    go_wp2_with fail
    refine(operands_c o'.kind [] 0 _ _ (World.ownsRow_nil _ _ _ _) (by simp) (by simp) ((QA HT).below (QE hB3 (QF _ _)))).mono ?_
    rintro e w5 ⟨v5,rfl,hv5,hv5n,hb5⟩
    have Hbo:=QB (bbox hb5 (QH w3 (.cells #[.int .i64 o'.kind,.int .i64 o'.base,.int .i64 o'.number,.int .i64 o'.first,.int .i64 o'.last] 94)))
    have Hx5:=QB (bbox hb5 (bbox (QF _ _) (QA Hx3)))
    have hlt5:=QD (QA Hbo)
    have hB5:Below w.heap.size w w5:=QE (QE hB3 (QF _ _)) hb5
    have b0:=QC (QA Hbo) 0
    have b1:=QC (QA Hbo) 1
    have b2:=QC (QA Hbo) 2
    have b3:=QC (QA Hbo) 3
    have b4:=QC (QA Hbo) 4
    simp only[gA,gZ,gS]at b0 b1 b2 b3 b4
    clear hb5
    obtain⟨p5,n5,c5,rfl⟩:∃p n c,v5=.slice p n c:=by
     cases hOS:Strd.operands o'.kind [] with
     |none=>exact⟨_,_,_,hv5n hOS⟩
     |some os=>obtain⟨p,c,h⟩:=(hv5 os hOS).shape;exact⟨_,_,_,h⟩
    have Hv5:=QB hv5
    clear hv5 hv5n
    generalize hOS:Strd.operands o'.kind []=OS at HI3 Hv5 ⊢
    clear hOS
    go_wp2_with (refine wpList_store_row rfl 97 (.tmp 2) (.tmp 40) rfl w.heap.size #[.int .i64 o'.kind,.int .i64 o'.base,.int .i64 o'.number,.int .i64 o'.first,.int .i64 o'.last,.slice p5 n5 c5] rfl rfl 97 #[.int .i64 0,.int .i64 0,.int .i64 0,.int .i64 0,.int .i64 0,.slice none 0 0] (by exact QA Hx5) (by kernel_rfl) rfl (ins_one _ _ _ _ _ _ _ _) ?_)
    refine bodyPost_ret (v:=.tuple #[.agg #[.int .i64 o'.kind,.int .i64 o'.base,.int .i64 o'.number,.int .i64 o'.first,.int .i64 o'.last,.slice p5 n5 c5],.bool OS.isSome]) (by exact QP Tryz.results133 _ _ w.heap.size 97 _ _ _ rfl (by exact ZJ (QA Hx5)) Tryz.underlying97 rfl (by kernel_rfl)) rfl ?_
    refine⟨o',p5,n5,c5,by rw[QA HI3,Option.isSome_map],?_,QT hB5 (Nat.le_refl _) _⟩
    intro i hi
    rw[QA HI3]at hi
    cases OS with
    |none=>cases hi
    |some os=>
     cases hi
     exact⟨rfl,ZP (QA Hv5 os rfl) (QA Hx5) (by decide)⟩
   ·have hr1:rest.isEmpty=false:=by simpa using hr0
    rw[if_neg hr0]at HI3
    have hsl:=split_len 44 rest
    have Hsl:=QB hsl
    clear hr0 hsl
    go_wp2_with fail
    refine(pieces_c _ 44 (by decide) _ (by rw[ZA];omega)).mono ?_
    rintro e w4 ⟨v4,rfl,hv4,hb4⟩
    rw[Q4]at hv4
    have hB4:Below w.heap.size w w4:=QE hB3 (below_at hb4)
    have Hbo4:=QB (bbox hb4 (QH w3 (.cells #[.int .i64 o'.kind,.int .i64 o'.base,.int .i64 o'.number,.int .i64 o'.first,.int .i64 o'.last] 94)))
    have Hx4:=QB (bbox hb4 (bbox (QF _ _) (QA Hx3)))
    have b40:=QC (QA Hbo4) 0
    simp only[gA,gZ,gS]at b40
    have hlt4:=QD (QA Hbo4)
    clear hb4
    go_wp2_with fail
    refine(operands_c o'.kind (Strd.split 44 rest) _ _ _ hv4 (by have:=(QA Hsl).1;omega) (fun t ht=>by have:=(QA Hsl).2.1 t ht;omega) ((QA HT).below hB4)).mono ?_
    rintro e w5 ⟨v5,rfl,hv5,hv5n,hb5⟩
    have Hbo:=QB (bbox hb5 (QA Hbo4))
    have Hx5:=QB (bbox hb5 (QA Hx4))
    have hlt5:=QD (QA Hbo)
    have hB5:Below w.heap.size w w5:=QE hB4 hb5
    have b0:=QC (QA Hbo) 0
    have b1:=QC (QA Hbo) 1
    have b2:=QC (QA Hbo) 2
    have b3:=QC (QA Hbo) 3
    have b4:=QC (QA Hbo) 4
    simp only[gA,gZ,gS]at b0 b1 b2 b3 b4
    clear hb5
    obtain⟨p5,n5,c5,rfl⟩:∃p n c,v5=.slice p n c:=by
     cases hOS:Strd.operands o'.kind (Strd.split 44 rest) with
     |none=>exact⟨_,_,_,hv5n hOS⟩
     |some os=>obtain⟨p,c,h⟩:=(hv5 os hOS).shape;exact⟨_,_,_,h⟩
    have Hv5:=QB hv5
    clear hv5 hv5n
    generalize hOS:Strd.operands o'.kind (Strd.split 44 rest)=OS at HI3 Hv5 ⊢
    clear hOS
    go_wp2_with (refine wpList_store_row rfl 97 (.tmp 2) (.tmp 40) rfl w.heap.size #[.int .i64 o'.kind,.int .i64 o'.base,.int .i64 o'.number,.int .i64 o'.first,.int .i64 o'.last,.slice p5 n5 c5] rfl rfl 97 #[.int .i64 0,.int .i64 0,.int .i64 0,.int .i64 0,.int .i64 0,.slice none 0 0] (by exact QA Hx5) (by kernel_rfl) rfl (ins_one _ _ _ _ _ _ _ _) ?_)
    refine bodyPost_ret (v:=.tuple #[.agg #[.int .i64 o'.kind,.int .i64 o'.base,.int .i64 o'.number,.int .i64 o'.first,.int .i64 o'.last,.slice p5 n5 c5],.bool OS.isSome]) (by exact QP Tryz.results133 _ _ w.heap.size 97 _ _ _ rfl (by exact ZJ (QA Hx5)) Tryz.underlying97 rfl (by kernel_rfl)) rfl ?_
    refine⟨o',p5,n5,c5,by rw[QA HI3,Option.isSome_map],?_,QT hB5 (Nat.le_refl _) _⟩
    intro i hi
    rw[QA HI3]at hi
    cases OS with
    |none=>cases hi
    |some os=>
     cases hi
     exact⟨rfl,ZP (QA Hv5 os rfl) (QA Hx5) (by decide)⟩
theorem digit_at (d:Nat) (hd:d<10):(⟨#[48,49,50,51,52,53,54,55,56,57]⟩:ByteArray).extract d (d+1)=bstr [(48+d).toUInt8]:=by
 have:d=0∨d=1∨d=2∨d=3∨d=4∨d=5∨d=6∨d=7∨d=8∨d=9:=by omega
 rcases this with rfl|rfl|rfl|rfl|rfl|rfl|rfl|rfl|rfl|rfl <;> rfl
end Go.Proofs.YtegiloiojloaoaaGreatDoor
