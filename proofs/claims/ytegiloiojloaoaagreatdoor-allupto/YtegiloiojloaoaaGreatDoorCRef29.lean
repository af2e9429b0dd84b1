/- The reference's solve. -/
import Derived.Test.YtegiloiojloaoaaGreatDoorCSpec
import Derived.Test.YtegiloiojloaoaaGreatDoorCRef26
import Derived.Test.YtegiloiojloaoaaGreatDoorCRf0
import Derived.Deep.CutBlock
import Derived.Deep.DeepCutAuto
set_option linter.unusedVariables false
set_option linter.unusedSimpArgs false
set_option maxHeartbeats 8000000
set_option maxRecDepth 1000000
namespace Go.Proofs.YtegiloiojloaoaaGreatDoor
open Go.RowKit Go.Shelf Go.Sort Go.Maps
namespace Rf
theorem set_rep (A:List Int) (n k:Nat) (h:k<n) (hA:A.length=n):(A.take k++List.replicate (n-k) 0).set k (A.getD k 0)=A.take (k+1)++List.replicate (n-(k+1)) 0:=by
 have hk:(A.take k).length=k:=by rw[List.length_take];omega
 have ht:A.take (k+1)=A.take k++[A[k]]:=by rw[List.take_add_one,gE (by omega)];rfl
 obtain⟨m,hm⟩:∃m,n-k=m+1:=⟨n-k-1,by omega⟩
 have hm2:n-(k+1)=m:=by omega
 rw[List.set_append_right _ _ (by omega),hk,Nat.sub_self,hm,hm2,List.replicate_succ,List.set_cons_zero,ht,gD,gE (by omega),List.append_assoc]
 rfl
theorem rep_same (A:List Int) (n k:Nat) (h:k<n) (hA:A.length=n) (h0:A.getD k 0=0):A.take k++List.replicate (n-k) 0=A.take (k+1)++List.replicate (n-(k+1)) 0:=by
 have:=set_rep A n k h hA
 rw[h0]at this
 rw[←this]
 have hk:(A.take k).length=k:=by rw[List.length_take];omega
 obtain⟨m,hm⟩:∃m,n-k=m+1:=⟨n-k-1,by omega⟩
 rw[List.set_append_right _ _ (by omega),hk,Nat.sub_self,hm,List.replicate_succ,List.set_cons_zero]
def down (l:Line) (F:Int):Int:=if QN l.word=true then F-1 else 0
theorem down_up (L:List Line) (fs:List Int) (hf:fs.length=L.length) (hok:∀l∈L,LineOk l) (hin:∀k,k<L.length→FormIn (L.getD k dl) (fs.getD k 0)):List.zipWith down L (List.zipWith upf L fs)=fs:=by
 apply List.ext_getElem
 ·simp only[List.length_zipWith];omega
 ·intro k h1 h2
  have hk:k<L.length:=by omega
  have h:=hin k hk
  rw[gD,gE hk,gD,gE h2]at h
  simp only[Option.getD_some]at h
  simp only[List.getElem_zipWith]
  unfold down upf
  cases hj:QN L[k].word with
  |true=>simp
  |false=>
   obtain⟨a,b⟩:=(op_facts L[k] (hok _ (List.getElem_mem hk)).wf).2.2.2.1 hj
   unfold FormIn at h
   simp
   omega
def intsIn (w:World) (b n:Nat):List Int:=(List.range n).map fun i=>match w.cell? ⟨b,i,none⟩ with
 |some (.int _ v)=>v
 |_=>0
theorem intsIn_eq {base:Nat} {w:World} {b n c:Nat} {xs:List Int} (h:ZO 3 base w (.slice (some ⟨b,0,none⟩) n c) xs):intsIn w b xs.length=xs:=by
 unfold intsIn
 apply List.ext_getElem
 ·simp
 ·intro i h1 h2
  obtain⟨b',hb,_,_,hc⟩:=h.at i h2
  cases hb
  simp[hc]
theorem bad_rng (L:List Line) (fs st:List Int) (hok:∀l∈L,LineOk l) (i:Nat) (hi:i≤L.length):0≤badTo L fs st i∧badTo L fs st i≤4001:=by
 unfold badTo
 cases h:missTo L fs st i with
 |nil=>exact⟨Int.le_refl 0,by show (0:Int)≤4001;omega⟩
 |cons j t=>
  have hj:j<L.length:=by
   have:j∈missTo L fs st i:=by rw[h];simp
   unfold missTo at this
   rw[List.mem_filter,List.mem_range]at this
   omega
  have hg:L.getD j dl=L[j]:=by rw[gD,gE hj];rfl
  simp only
  rw[hg]
  have:=(hok _ (List.getElem_mem hj)).no
  omega
theorem bad_same (L:List Line) (fs st:List Int) (hok:∀l∈L,LineOk l) (i:Nat) (hi:i<L.length) (h:missAt L fs st i=false):badTo L fs st (i+1)=badTo L fs st i:=by
 rw[badTo_succ L fs st hok i hi,h]
 split
 ·rename_i e;rw[e];rfl
 ·rfl
theorem bad_old (L:List Line) (fs st:List Int) (hok:∀l∈L,LineOk l) (i:Nat) (hi:i<L.length) (h:badTo L fs st i≠0):badTo L fs st (i+1)=badTo L fs st i:=by
 rw[badTo_succ L fs st hok i hi,if_neg h]
theorem bad_new (L:List Line) (fs st:List Int) (hok:∀l∈L,LineOk l) (i:Nat) (hi:i<L.length) (h:badTo L fs st i=0) (hm:missAt L fs st i=true):badTo L fs st (i+1)=L[i].no:=by
 rw[badTo_succ L fs st hok i hi,if_pos h,if_pos hm,gD,gE hi];rfl
theorem more_same (L:List Line) (fs st:List Int) (i:Nat) (h:moreAt L fs st i=false):moreTo L fs st (i+1)=moreTo L fs st i:=by
 rw[moreTo_succ,h,if_neg (by decide),List.append_nil]
theorem more_new (L:List Line) (fs st:List Int) (i:Nat) (h:moreAt L fs st i=true):moreTo L fs st (i+1)=moreTo L fs st i++[i]:=by
 rw[moreTo_succ,h,if_pos rfl]
theorem int_one (x:Int):∀u∈[Value.int .i64 x],u.oneCell'=true:=by intro u hu;rw[List.mem_singleton]at hu;subst hu;rfl
theorem ints_other {e:TypeId} {base b k:Nat} {w:World} {v x:Value} {xs:List Int} (h:ZO e base w v xs) (hb:b<base):ZO e base (w.setCell ⟨b,k,none⟩ x) v xs:=by
 obtain⟨h1,h2⟩:=h
 refine⟨h1,h2.imp id ?_⟩
 rintro ⟨g',c,cur,hv,hb',hh,r⟩
 refine⟨g',c,cur,hv,hb',?_,r⟩
 rw[Below.heap_setCell _ _ _ _ (show g'≠b by omega)]
 exact hh
end Rf
theorem solve_ref (base g:Nat) (org en:Int) (L:List Rf.Line) (qs:List (Rf.Line×Sl)) (pl:Option Addr) (cl:Nat) (w:World)
  (hP:Rf.PrgB base w g org en L qs [] [] [] pl cl none 0 none 0 none 0) (hbw:base≤w.heap.size) (hok:∀l∈L,Rf.LineOk l) (hLn:L.length≤4001) (horg:0≤org∧org≤2^24) (hknown:∀l∈L,∀o∈(Rf.ins l).oprs,Strd.known (L.map Rf.strd) o.name=true) :
  Calls Tryz.prog 76 #[.pointer (some ⟨g,0,none⟩)] w fun e w'=>e=.returned (.tuple #[.int .i64 (Rf.missN org L),.int .i64 (if 0<Rf.missN org L then 6 else 0)])∧(∃pf cf pa ca pb cb,Rf.PrgB base w' g org ((Rf.stL org L).getD L.length 0) L qs (List.zipWith Rf.upf L (Strd.QJ org (L.map Rf.strd))) ((Rf.stL org L).take L.length) (Rf.labsTo L (Rf.stL org L) L.length) pl cl pf cf pa ca pb cb)∧Kept base Rf.PTag w w':=by
 generalize hE6:(if 0<Rf.missN org L then (6:Int) else 0)=E6
 have HE6:=QB hE6
 clear hE6
 have c1:=QC hP.box 1
 have c3:=QC hP.box 3
 have f3:=ZC hP.box 3
 simp only[gA,gZ,gS]at c1 c3
 have hgl:=QD hP.box
 have hmk1:=Rf.make_ints L.length (by omega) w
 have hba0:=QF w (.cells (madeCells #[.int .i64 0] L.length) 3)
 have d3:=QC (bbox hba0 hP.box) 3
 have e3:=ZC (bbox hba0 hP.box) 3
 simp only[gA,gZ,gS]at d3
 have hgl1:=QD (bbox hba0 hP.box)
 have hbx0:=Rf.box_set (i:=3) (x:=.slice (some ⟨w.heap.size,0,none⟩) L.length L.length) hP.box
 have hlin0:Rf.ZS base (w.setCell ⟨g,3,none⟩ (.slice (some ⟨w.heap.size,0,none⟩) L.length L.length)) (.slice pl L.length cl) L qs:=⟨hP.lines.fst,Rf.own_set hP.lines.row hP.box (by decide),fun x hx=>⟨(hP.lines.texts x hx).1,Rf.own_set (hP.lines.texts x hx).2 hP.box (by decide)⟩⟩
 have hba1:=QF (w.setCell ⟨g,3,none⟩ (.slice (some ⟨w.heap.size,0,none⟩) L.length L.length)) (.cells (madeCells #[.int .i64 0] L.length) 3)
 have hx1:=QH (w.setCell ⟨g,3,none⟩ (.slice (some ⟨w.heap.size,0,none⟩) L.length L.length)) (.cells (madeCells #[.int .i64 0] L.length) 3)
 rw[Rf.ZF]at hx1
 have hbx1:=bbox hba1 hbx0
 have hlin1:=hlin0.below hba1
 have hK0:Kept base Rf.PTag w (w.setCell ⟨g,3,none⟩ (.slice (some ⟨w.heap.size,0,none⟩) L.length L.length)):=by
  refine⟨rfl,rfl,rfl,Nat.le_of_eq (Rf.ZF _ _ _ _).symm,fun j _ hd=>Below.heap_setCell _ _ _ _ ?_⟩
  rintro rfl
  rcases hd with hd|hd
  ·have:=hP.gb;omega
  ·exact hd _ hP.box (.inr (.inr ⟨_,_,rfl⟩))
 have hK1:=hK0.trans (Kept.of_below hba1)
 have hs1:((w.setCell ⟨g,3,none⟩ (.slice (some ⟨w.heap.size,0,none⟩) L.length L.length)).alloc (.cells (madeCells #[.int .i64 0] L.length) 3)).heap.size=w.heap.size+1:=by rw[World.size_alloc,Rf.ZF]
 clear hbx0 hlin0 hba1 hK0
 go_enter Tryz.func76,Tryz.ntmps76
 go_upto_region 2 with fail
 generalize (w.setCell ⟨g,3,none⟩ (.slice (some ⟨w.heap.size,0,none⟩) L.length L.length)).alloc (.cells (madeCells #[.int .i64 0] L.length) 3)=W1 at *
 have Hs1:=QB hs1
 clear hs1
 have g1:=QC hbx1 1
 simp at g1
 have hgl2:=QD hbx1
 have hmk2:=Rf.make_ints L.length (by omega) W1
 have hbx2:=bbox (QF W1 (.cells (madeCells #[.int .i64 0] L.length) 3)) hbx1
 have j2:=QC hbx2 2
 have l2:=ZC hbx2 2
 simp at j2
 have hgl3:=QD hbx2
 have hbxS:=Rf.box_set (i:=2) (x:=.slice (some ⟨W1.heap.size,0,none⟩) L.length L.length) hbx1
 have hlinS:Rf.ZS base (W1.setCell ⟨g,2,none⟩ (.slice (some ⟨W1.heap.size,0,none⟩) L.length L.length)) (.slice pl L.length cl) L qs:=⟨hlin1.fst,Rf.own_set hlin1.row hbx1 (by decide),fun x hx=>⟨(hlin1.texts x hx).1,Rf.own_set (hlin1.texts x hx).2 hbx1 (by decide)⟩⟩
 have hba2:=QF (W1.setCell ⟨g,2,none⟩ (.slice (some ⟨W1.heap.size,0,none⟩) L.length L.length)) (.cells (madeCells #[.int .i64 0] L.length) 3)
 have hx2:=QH (W1.setCell ⟨g,2,none⟩ (.slice (some ⟨W1.heap.size,0,none⟩) L.length L.length)) (.cells (madeCells #[.int .i64 0] L.length) 3)
 rw[Rf.ZF]at hx2
 have hK2:Kept base Rf.PTag w ((W1.setCell ⟨g,2,none⟩ (.slice (some ⟨W1.heap.size,0,none⟩) L.length L.length)).alloc (.cells (madeCells #[.int .i64 0] L.length) 3)):=by
  have hKS:Kept base Rf.PTag W1 (W1.setCell ⟨g,2,none⟩ (.slice (some ⟨W1.heap.size,0,none⟩) L.length L.length)):=by
   refine⟨rfl,rfl,rfl,Nat.le_of_eq (Rf.ZF _ _ _ _).symm,fun j _ hd=>Below.heap_setCell _ _ _ _ ?_⟩
   rintro rfl
   rcases hd with hd|hd
   ·have:=hP.gb;omega
   ·exact hd _ hbx1 (.inr (.inr ⟨_,_,rfl⟩))
  exact hK1.trans (hKS.trans (Kept.of_below hba2))
 have hP2:Rf.PrgB base ((W1.setCell ⟨g,2,none⟩ (.slice (some ⟨W1.heap.size,0,none⟩) L.length L.length)).alloc (.cells (madeCells #[.int .i64 0] L.length) 3)) g org en L qs (List.replicate L.length 0) (List.replicate L.length 0) [] pl cl (some ⟨W1.heap.size,0,none⟩) L.length (some ⟨w.heap.size,0,none⟩) L.length none 0:=by
  refine⟨?_,hlinS.below hba2,?_,?_,World.ownsRow_nil _ _ _ _,?_,hP.gb⟩
  ·rw[bbox hba2 hbxS]
   simp
  ·rw[List.length_replicate]
   exact Rf.ints_at L.length base (by omega) _ W1.heap.size (by have:=QA Hs1;omega) hx2
  ·rw[List.length_replicate]
   refine Rf.ints_at L.length base (by omega) _ w.heap.size hbw (bbox hba2 ?_)
   rw[Below.heap_setCell _ _ _ _ (show w.heap.size≠g by omega)]
   exact hx1
  ·intro b hb hb2
   cases hb
   simp only[Option.some.injEq,Addr.mk.injEq]at hb2
   have:=QA Hs1
   omega
 go_upto_region 3 with fail
 generalize (W1.setCell ⟨g,2,none⟩ (.slice (some ⟨W1.heap.size,0,none⟩) L.length L.length)).alloc (.cells (madeCells #[.int .i64 0] L.length) 3)=W2 at *
 clear hbx2 hbx1 j2 l2 g1 d3 e3 c1 c3 f3 hx1 hx2 hmk1 hmk2 hgl3 hba0 hba2 hbxS hlinS hlin1 hK1
 generalize hFF:(L.map fun l=>Rf.upf l (Rf.ins l).op.first)=FF
 have hFFl:FF.length=L.length:=by rw[←hFF];simp
 obtain⟨bf,hbf⟩:∃b,b=W1.heap.size:=⟨_,rfl⟩
 obtain⟨ba,hbaw⟩:∃b,b=w.heap.size:=⟨_,rfl⟩
 rw[←hbf,←hbaw]at hP2
 clear hbf hbaw Hs1
 go_upto_block 0 with fail
 go_cut [] (fun wq=>Rf.PrgB base wq g org en L qs FF (List.replicate L.length 0) [] pl cl (some ⟨bf,0,none⟩) L.length (some ⟨ba,0,none⟩) L.length none 0∧Kept base Rf.PTag w wq)
 case first=>
  as_aux_lemma=>
   go_wp2_with fail
   go_loopw [4] (fun c4 wr=>∃i:Nat,i≤L.length∧c4=.int .i64 i∧Rf.PrgB base wr g org en L qs (FF.take i++List.replicate (L.length-i) 0) (List.replicate L.length 0) [] pl cl (some ⟨bf,0,none⟩) L.length (some ⟨ba,0,none⟩) L.length none 0∧Kept base Rf.PTag w wr) (fun c _=>L.length-(intOf c).toNat)
   case atStart=>exact⟨0,by omega,rfl,by simpa using hP2,hK2⟩
   case round=>
    obtain⟨i,hi,rfl,hPr,hKr⟩:=hrel
    have r1:=QC hPr.box 1
    simp only[gA,gZ,gS]at r1
    have hglr:=QD hPr.box
    have hFn:(FF.take i++List.replicate (L.length-i) (0:Int)).length=L.length:=by rw[List.length_append,List.length_take,List.length_replicate];omega
    by_cases hlt:i<L.length
    ·
     obtain⟨bl,q,hpl,_,hbl,y0,y1,y2,y3,y4,hT⟩:=hPr.lines.at i hlt
     subst hpl
     obtain⟨pq,nq,cq⟩:=q
     simp only at y4
     have hokk:=hok _ (List.getElem_mem hlt)
     have hVd:FF.getD i 0=if Rf.QN L[i].word=true then (if 0<L[i].form then L[i].form else if Rf.far L[i].word=true then 2 else 1) else 0:=by
      rw[←hFF,gD,List.getElem?_map,gE hlt]
      exact Rf.first_up L[i] hokk.wf
     have hlw:=hokk.wf.lens.2.1
     have hfm:=hokk.wf.form
     have Hset:=QB (Rf.set_rep FF L.length i hlt hFFl)
     have Hsame:=QB (Rf.rep_same FF L.length i hlt hFFl)
     have hba:=QF wr (.cells #[.int .i64 L[i].no,.string (bstr L[i].label),.string (bstr L[i].word),.int .i64 L[i].form,.slice pq nq cq] 144)
     have Hxb:=QB (QH wr (.cells #[.int .i64 L[i].no,.string (bstr L[i].label),.string (bstr L[i].word),.int .i64 L[i].form,.slice pq nq cq] 144))
     have xb2:=QC (QA Hxb) 2
     simp only[gA,gZ,gS]at xb2
     have hxbl:=QD (QA Hxb)
     have CJ:=QB (fun V=>isJump_ref L[i].word V (by omega))
     have HPr:=QB hPr
     have hltI:(i:Int)<(L.length:Int):=by omega
     have q1:IntKind.i64.wrap ((i:Int)+1)=(i:Int)+1:=IntWalk.i64_in _ (by omega)
     have hfar:Rf.far L[i].word=(L[i].word==[106,109,112]||L[i].word==[106,115,114]):=rfl
     generalize Rf.QN L[i].word=IJ at *
     generalize Rf.far L[i].word=FR at *
     generalize L[i]=l at *
     obtain⟨V,hV⟩:∃V,FF.getD i 0=V:=⟨_,rfl⟩
     rw[hV]at hVd Hset Hsame
     have HVd:=QB hVd
     clear hPr hVd hV hT hokk
     cases IJ with
     |false=>
      have hV0:V=0:=by rw[QA HVd];rfl
      have HS:=QB (QA Hsame hV0)
      go_upto_region 9 with (go_at_call 75;refine(QA CJ _).mono ?_;rintro e wj ⟨rfl,hbj⟩;have hBX:=QE hba hbj;have hPj:=(QA HPr).below hBX;obtain⟨hPn,hKn,fz,hbfl,hcf0⟩:=hPj.setForm i (by omega) V;obtain⟨uu,hcf⟩:∃uu,wj.cell? ⟨bf,i,none⟩=some uu:=⟨_,hcf0⟩;clear hcf0;have zb:=bbox hbj (QA Hxb);have z2:=QC zb 2;have z3:=QC zb 3;have zf:=QC hPj.box 2;simp only[gA,gZ,gS]at z2 z3 zf;rw[hFn]at zf;have hzl:=QD zb;have hgj:=QD hPj.box;have HPj:=QB hPj;have HPn:=QB hPn;have HKj:Hid (Kept base Rf.PTag w wj):=QB (hKr.trans (Kept.of_below hBX));have HKn:=QB hKn;clear hPj hPn hKn zb)
      go_wp2
      go_roundw
      case rel=>exact⟨i+1,by omega,by go_num,by rw[←QA HS];exact QA HPj,QA HKj⟩
      case measure=>simp[intOf];omega
     |true=>
      by_cases hf0:0<l.form
      ·
       as_aux_lemma=>
        have hV0:V=l.form:=by rw[QA HVd,if_pos rfl,if_pos hf0]
        subst hV0
        go_upto_region 11 with (go_at_call 75;refine(QA CJ _).mono ?_;rintro e wj ⟨rfl,hbj⟩;have hBX:=QE hba hbj;have hPj:=(QA HPr).below hBX;obtain⟨hPn,hKn,fz,hbfl,hcf0⟩:=hPj.setForm i (by omega) l.form;obtain⟨uu,hcf⟩:∃uu,wj.cell? ⟨bf,i,none⟩=some uu:=⟨_,hcf0⟩;clear hcf0;have zb:=bbox hbj (QA Hxb);have z2:=QC zb 2;have z3:=QC zb 3;have zf:=QC hPj.box 2;simp only[gA,gZ,gS]at z2 z3 zf;rw[hFn]at zf;have hzl:=QD zb;have hgj:=QD hPj.box;have HPj:=QB hPj;have HPn:=QB hPn;have HKj:Hid (Kept base Rf.PTag w wj):=QB (hKr.trans (Kept.of_below hBX));have HKn:=QB hKn;clear hPj hPn hKn zb)
        go_region
        go_wp2
        go_roundw
        case rel=>exact⟨i+1,by omega,by go_num,by rw[←QA Hset];exact(QA HPn).below (QW (Below.refl _ _)),((QA HKj).trans (QA HKn)).drew⟩
        case measure=>simp[intOf];omega
      ·have hVe:V=if FR=true then 2 else 1:=by rw[QA HVd,if_pos rfl,if_neg hf0]
       cases q2:(l.word==[106,109,112]) with
       |true=>
        as_aux_lemma=>
         have hV2:V=2:=by rw[hVe,hfar,q2];rfl
         subst hV2
         clear hVe hfar
         go_upto_region 13 with (go_at_call 75;refine(QA CJ _).mono ?_;rintro e wj ⟨rfl,hbj⟩;have hBX:=QE hba hbj;have hPj:=(QA HPr).below hBX;obtain⟨hPn,hKn,fz,hbfl,hcf0⟩:=hPj.setForm i (by omega) (2:Int);obtain⟨uu,hcf⟩:∃uu,wj.cell? ⟨bf,i,none⟩=some uu:=⟨_,hcf0⟩;clear hcf0;have zb:=bbox hbj (QA Hxb);have z2:=QC zb 2;have z3:=QC zb 3;have zf:=QC hPj.box 2;simp only[gA,gZ,gS]at z2 z3 zf;rw[hFn]at zf;have hzl:=QD zb;have hgj:=QD hPj.box;have HPj:=QB hPj;have HPn:=QB hPn;have HKj:Hid (Kept base Rf.PTag w wj):=QB (hKr.trans (Kept.of_below hBX));have HKn:=QB hKn;clear hPj hPn hKn zb)
         go_wp2
         go_roundw
         case rel=>exact⟨i+1,by omega,by go_num,by rw[←QA Hset];exact QA HPn,(QA HKj).trans (QA HKn)⟩
         case measure=>simp[intOf];omega
       |false=>
        cases q3:(l.word==[106,115,114]) with
        |true=>
         as_aux_lemma=>
          have hV2:V=2:=by rw[hVe,hfar,q2,q3];rfl
          subst hV2
          clear hVe hfar
          go_upto_region 13 with (go_at_call 75;refine(QA CJ _).mono ?_;rintro e wj ⟨rfl,hbj⟩;have hBX:=QE hba hbj;have hPj:=(QA HPr).below hBX;obtain⟨hPn,hKn,fz,hbfl,hcf0⟩:=hPj.setForm i (by omega) (2:Int);obtain⟨uu,hcf⟩:∃uu,wj.cell? ⟨bf,i,none⟩=some uu:=⟨_,hcf0⟩;clear hcf0;have zb:=bbox hbj (QA Hxb);have z2:=QC zb 2;have z3:=QC zb 3;have zf:=QC hPj.box 2;simp only[gA,gZ,gS]at z2 z3 zf;rw[hFn]at zf;have hzl:=QD zb;have hgj:=QD hPj.box;have HPj:=QB hPj;have HPn:=QB hPn;have HKj:Hid (Kept base Rf.PTag w wj):=QB (hKr.trans (Kept.of_below hBX));have HKn:=QB hKn;clear hPj hPn hKn zb)
          go_wp2
          go_roundw
          case rel=>exact⟨i+1,by omega,by go_num,by rw[←QA Hset];exact QA HPn,(QA HKj).trans (QA HKn)⟩
          case measure=>simp[intOf];omega
        |false=>
         as_aux_lemma=>
          have hV2:V=1:=by rw[hVe,hfar,q2,q3];rfl
          subst hV2
          clear hVe hfar
          go_upto_region 8 with (go_at_call 75;refine(QA CJ _).mono ?_;rintro e wj ⟨rfl,hbj⟩;have hBX:=QE hba hbj;have hPj:=(QA HPr).below hBX;obtain⟨hPn,hKn,fz,hbfl,hcf0⟩:=hPj.setForm i (by omega) (1:Int);obtain⟨uu,hcf⟩:∃uu,wj.cell? ⟨bf,i,none⟩=some uu:=⟨_,hcf0⟩;clear hcf0;have zb:=bbox hbj (QA Hxb);have z2:=QC zb 2;have z3:=QC zb 3;have zf:=QC hPj.box 2;simp only[gA,gZ,gS]at z2 z3 zf;rw[hFn]at zf;have hzl:=QD zb;have hgj:=QD hPj.box;have HPj:=QB hPj;have HPn:=QB hPn;have HKj:Hid (Kept base Rf.PTag w wj):=QB (hKr.trans (Kept.of_below hBX));have HKn:=QB hKn;clear hPj hPn hKn zb)
          go_wp2
          go_roundw
          case rel=>exact⟨i+1,by omega,by go_num,by rw[←QA Hset];exact QA HPn,(QA HKj).trans (QA HKn)⟩
          case measure=>simp[intOf];omega
    ·obtain rfl:i=L.length:=by omega
     have HPr:=QB hPr
     clear hPr
     go_wp2
     go_meet
     have:=QA HPr
     rw[Nat.sub_self,List.take_of_length_le (by omega)]at this
     exact⟨by simpa using this,hKr⟩
 case rest=>
  obtain⟨hPe,hKe⟩:=hcut
  as_aux_lemma=>
   obtain⟨i3,hi3,hz30,hz31,hz32⟩:=info_parts Rf.info3r
   have hin0:=Rf.first_in L hok
   have hrm0:=Strd.first_room (L.map Rf.strd) (fun x hx=>by
    obtain⟨l,hl,rfl⟩:=List.mem_map.1 hx
    have:=Rf.op_range l (hok l hl).wf
    exact⟨this.1,this.2.1⟩)
   have hFF2:FF=List.zipWith Rf.upf L (Strd.Q5 (L.map Rf.strd)):=by
    rw[←hFF]
    unfold Strd.Q5
    rw[List.map_map,List.zipWith_map_right]
    apply List.ext_getElem
    ·simp
    ·intro k h1 h2
     simp[Rf.strd]
   rw[hFF2]at hPe
   have Hok:=QB hok
   have Hknown:=QB hknown
   have HPe:=QB hPe
   have hKe0:=hKe
   clear hFF2 hFF hFFl hP2 hK2 hPe hok hknown hP
   go_wp2_with fail
   go_loopw [] (fun wr=>∃(m:Nat) (fs As:List Int) (labs:List (Strd.Bs×Int)) (en':Int) (pb:Option Addr) (cb:Nat),Strd.settle org (L.map Rf.strd) m fs=Strd.QJ org (L.map Rf.strd)∧Strd.room (L.map Rf.strd) fs<m∧fs.length=L.length∧(∀k,k<L.length→Rf.FormIn (L.getD k Rf.dl) (fs.getD k 0))∧As.length=L.length∧labs.length≤L.length∧(∀p∈labs,0≤p.2∧p.2≤2^31)∧Rf.PrgB base wr g org en' L qs (List.zipWith Rf.upf L fs) As labs pl cl (some ⟨bf,0,none⟩) L.length (some ⟨ba,0,none⟩) L.length pb cb∧Kept base Rf.PTag w wr) (fun wr=>Strd.room (L.map Rf.strd) (List.zipWith Rf.down L (Rf.intsIn wr bf L.length)))
   case atStart=>exact⟨2*(L.map Rf.strd).length+1,Strd.Q5 (L.map Rf.strd),List.replicate L.length 0,[],en,none,0,rfl,by unfold Strd.Q5;omega,hin0.1,hin0.2,by simp,by simp,by simp,QA HPe,hKe0⟩
   case round=>
    obtain⟨m,fs,As,labs,en',pb,cb,hX,hrm,hfl,hfin,hAl,hll,hlr,hPq,hKq⟩:=hrel
    have hgD:∀k (hk:k<L.length),L.getD k Rf.dl=L[k]:=fun k hk=>by rw[gD,gE hk];rfl
    have hfo:∀k,k<L.length→Rf.FormOk (L.getD k Rf.dl) (fs.getD k 0):=fun k hk=>(hfin k hk).ok (by rw[hgD k hk];exact(QA Hok _ (List.getElem_mem hk)).wf)
    have HCP:=QB (place_ref base g org en' L qs fs As labs pl cl (some ⟨bf,0,none⟩) L.length (some ⟨ba,0,none⟩) L.length pb cb wr hPq (Nat.le_trans hbw hKq.size) (QA Hok) hfl hfo hAl (by omega) hLn (fun l hl t ht=>Rf.toN_rng labs hlr t) (fun k hk=>by have:=Rf.st_rng org L fs hfl (QA Hok) horg.1 k hk;omega) (fun k hk=>Rf.bytes_step labs org L fs hfl (QA Hok) hfo k hk) (fun k hk=>by have:=Rf.img_len labs org L fs hfl (QA Hok) hfo k hk;omega))
    have hlab2:=Rf.labs_rng org L fs hfl (QA Hok) horg hLn
    have hsr:∀k,k≤L.length→0≤(Strd.starts org (L.map Rf.strd) fs).getD k 0∧(Strd.starts org (L.map Rf.strd) fs).getD k 0≤2^31:=fun k hk=>by have:=Rf.st_rng org L fs hfl (QA Hok) horg.1 k hk;omega
    have hsl:(Strd.starts org (L.map Rf.strd) fs).length=L.length+1:=by rw[Strd.st_len _ _ _ (by simpa using hfl)];simp
    have Hrd:Hid (Strd.room (L.map Rf.strd) (List.zipWith Rf.down L (Rf.intsIn wr bf L.length))=Strd.room (L.map Rf.strd) fs):=QB (by
     have h1:=Rf.intsIn_eq hPq.forms
     have h2:(List.zipWith Rf.upf L fs).length=L.length:=by rw[List.length_zipWith];omega
     rw[h2]at h1
     rw[h1,Rf.down_up L fs hfl (QA Hok) hfin])
    obtain⟨m',rfl⟩:∃m',m=m'+1:=⟨m-1,by omega⟩
    rw[Rf.settle_round]at hX
    generalize hST:Strd.starts org (L.map Rf.strd) fs=st at *
    have Hrm:=QB (Strd.lng_room (L.map Rf.strd) st (L.map Rf.strd) fs st (by simpa using hfl) (by rw[List.length_map];omega))
    have HX:=QB hX
    have Hfin:=QB hfin
    have Hfo:=QB hfo
    have Hlab:=QB hlab2
    have Hsr:=QB hsr
    have HgD:=QB hgD
    have HST:=QB hST
    have hlbl:=Rf.labsTo_len L st L.length
    clear hX hfin hfo hlab2 hsr hgD hST hPq hlr HPe hKe hin0 hrm0
    go_upto_region 15 with (go_at_call 43;refine(QA HCP).mono ?_;rintro e w2 ⟨rfl,⟨pb2,cb2,hP2⟩,hK2⟩;have HP2:=QB hP2;have hKw:=hKq.trans hK2;clear hP2 hK2)
    clear HCP hll hAl
    have hnb:=fun i hi=>Rf.bad_rng L fs st (QA Hok) i hi
    have Hnb:=QB hnb
    clear hnb
    go_upto_region 17 with fail
    have hsw:=hKw.size
    go_upto_block 5 with fail
    go_cut [7,8] (fun c7 c8 wq=>∃(p:Option Addr) (c:Nat),c7=.int .i64 (Rf.badTo L fs st L.length)∧c8=.slice p (Rf.moreTo L fs st L.length).length c∧ZO 3 w2.heap.size wq (.slice p (Rf.moreTo L fs st L.length).length c) ((Rf.moreTo L fs st L.length).map fun (k:Nat)=>(k:Int))∧Below w2.heap.size w2 wq)
    case first=>
     as_aux_lemma=>
      go_wp2_with fail
      go_loopw [7,8,9] (fun c7 c8 c9 wr=>∃(i:Nat) (p:Option Addr) (c:Nat),i≤L.length∧c9=.int .i64 i∧c7=.int .i64 (Rf.badTo L fs st i)∧c8=.slice p (Rf.moreTo L fs st i).length c∧ZO 3 w2.heap.size wr (.slice p (Rf.moreTo L fs st i).length c) ((Rf.moreTo L fs st i).map fun (k:Nat)=>(k:Int))∧Below w2.heap.size w2 wr) (fun _ _ c _=>L.length-(intOf c).toNat)
      case atStart=>exact⟨0,none,0,by omega,rfl,rfl,rfl,World.ownsRow_nil _ _ _ _,Below.refl _ _⟩
      case round=>
       obtain⟨i,p8,c8,hi,rfl,rfl,rfl,hI,hBr⟩:=hrel
       have hPr:=(QA HP2).below hBr
       have r1:=QC hPr.box 1
       have r2:=QC hPr.box 2
       simp only[gA,gZ,gS]at r1 r2
       have hglr:=QD hPr.box
       by_cases hlt:i<L.length
       ·
        as_aux_lemma=>
         obtain⟨bl,q,hpl,_,hbl,y0,y1,y2,y3,y4,hT⟩:=hPr.lines.at i hlt
         subst hpl
         obtain⟨pq,nq,cq⟩:=q
         simp only at y4 hT
         have hokk:=QA Hok _ (List.getElem_mem hlt)
         have hgd:=QA HgD i hlt
         have hfok:=QA Hfo i hlt
         have hfik:=QA Hfin i hlt
         rw[hgd]at hfok hfik
         have hmt:=Rf.miss_tie L st L[i] hokk (fs.getD i 0) (st.getD i 0) hfok (QA Hknown _ (List.getElem_mem hlt))
         have hma:Rf.missAt L fs st i=Rf.missL (Rf.labsTo L st L.length) L[i] (Rf.upf L[i] (fs.getD i 0)) (st.getD i 0):=by unfold Rf.missAt;rw[hgd];exact hmt.symm
         have hmo:Rf.moreAt L fs st i=(decide (fs.getD i 0<(Rf.ins L[i]).op.last)&&Rf.missAt L fs st i):=by unfold Rf.moreAt;rw[hgd]
         have Hbs:=QB (Rf.bad_same L fs st (QA Hok) i hlt)
         have Hbo:=QB (Rf.bad_old L fs st (QA Hok) i hlt)
         have Hbn:=QB (Rf.bad_new L fs st (QA Hok) i hlt)
         have Hms:=QB (Rf.more_same L fs st i)
         have Hmn:=QB (Rf.more_new L fs st i)
         have hml:=Rf.moreTo_len L fs st i
         have hbd:=QA Hnb i hi
         have Hmif:=QB (Rf.more_iff L[i] hokk.wf (fs.getD i 0))
         have hfl2:(List.zipWith Rf.upf L fs).length=L.length:=by rw[List.length_zipWith];omega
         have hug:=Rf.up_get L fs hfl i hlt
         rw[hgd]at hug
         have hlw:=hokk.wf.lens.2.1
         have hba:=QF wr (.cells #[.int .i64 L[i].no,.string (bstr L[i].label),.string (bstr L[i].word),.int .i64 L[i].form,.slice pq nq cq] 144)
         have Hxb:=QB (QH wr (.cells #[.int .i64 L[i].no,.string (bstr L[i].label),.string (bstr L[i].word),.int .i64 L[i].form,.slice pq nq cq] 144))
         have xb2:=QC (QA Hxb) 2
         simp only[gA,gZ,gS]at xb2
         have hxbl:=QD (QA Hxb)
         have CJ:=QB (fun V=>isJump_ref L[i].word V (by omega))
         have HPr:=QB hPr
         have hltI:(i:Int)<(L.length:Int):=by omega
         have q1:IntKind.i64.wrap ((i:Int)+1)=(i:Int)+1:=IntWalk.i64_in _ (by omega)
         have HI:=QB hI
         have HT:=QB hT
         have Hjs:=QB (Rf.jump_shape L[i] hokk.wf)
         have hlens:=hokk.wf.lens.2.2
         have hnoR:=hokk.no
         have hstr:=QA Hsr i hi
         generalize hB0:Rf.badTo L fs st i=B0 at *
         generalize hB1:Rf.badTo L fs st (i+1)=B1 at *
         generalize hM0:Rf.moreTo L fs st i=M0 at *
         generalize hM1:Rf.moreTo L fs st (i+1)=M1 at *
         generalize hmA:Rf.missAt L fs st i=mA at *
         generalize hmO:Rf.moreAt L fs st i=mO at *
         have HB1:=QB hB1
         have HM1:=QB hM1
         clear hPr hI hT hokk hmt hgd hB0 hB1 hM0 hM1 hmA hmO hfok
         cases hIJ:Rf.QN L[i].word with
         |false=>
          as_aux_lemma=>
           have hmf:mA=false:=by rw[hma];unfold Rf.missL;rw[hIJ];rfl
           have hmof:mO=false:=by rw[hmo,hmf,Bool.and_false]
           have Hb:=QB (QA Hbs hmf)
           have Hm:=QB (QA Hms hmof)
           rw[hIJ]at CJ
           generalize L[i]=l at *
           clear hma hmo hmf hmof hIJ
           go_upto_region 22 with (go_at_call 75;refine(QA CJ _).mono ?_;rintro e wj ⟨rfl,hbj⟩;have hBX:=QE hba hbj)
           go_wp2
           go_roundw
           case rel=>exact⟨i+1,p8,c8,by omega,by go_num,by rw[QA HB1,QA Hb],by rw[QA HM1,QA Hm],by rw[QA HM1,QA Hm];exact(QA HI).below hBX,QE hBr hBX⟩
           case measure=>simp[intOf];omega
         |true=>
          as_aux_lemma=>
           obtain⟨p0,ht,hp0,_⟩:=QA Hjs hIJ
           rw[hIJ]at CJ
           have ta0:Rf.ZI L[i] 0=p0:=by unfold Rf.ZI;rw[ht];rfl
           have hma2:mA=!Rf.fits L[i].word (Rf.upf L[i] (fs.getD i 0)) (st.getD i 0) (Rf.toN (Rf.labsTo L st L.length) p0):=by rw[hma];unfold Rf.missL;rw[hIJ,ta0];rfl
           have hnq:=(QA HT).1
           rw[ht]at hnq
           simp only[List.length_singleton]at hnq
           obtain⟨bt,hpt,hxx,hbt,t0⟩:=((QA HT).2.below hba).at 0 (by rw[ht];simp)
           clear hxx
           subst hpt
           have e0:L[i].texts[0]'(by rw[ht];simp)=p0:=by simp[ht]
           rw[e0]at t0
           subst hnq
           have hp0l:p0.length≤2^20:=hlens p0 (by rw[ht];simp)
           have htn:=Rf.toN_rng (Rf.labsTo L st L.length) (QA Hlab) p0
           unfold Rf.toN at hma2 htn
           have C77:=QB (fun V h1 h2 h3=>to_ref (Rf.labsTo L st L.length) p0 g base pb2 cb2 V h1 h2 h3 (by omega) (by omega))
           generalize (Rf.place (Rf.labsTo L st L.length) p0).getD 0=TO at *
           obtain⟨bf',hbf',hxx,hbfl,hcf⟩:=(QA HPr).forms.at i (by omega)
           clear hxx
           cases hbf'
           have hfe:(List.zipWith Rf.upf L fs)[i]'(by omega)=Rf.upf L[i] (fs.getD i 0):=by
            rw[←hug,gD,gE (by omega)];rfl
           rw[hfe]at hcf
           obtain⟨ba',hba',hxx,hbal,hca⟩:=(QA HPr).ats.at i (by rw[List.length_take];omega)
           clear hxx
           cases hba'
           have hae:(st.take L.length)[i]'(by rw[List.length_take];omega)=st.getD i 0:=by
            rw[List.getElem_take,gD,gE (by omega)];rfl
           rw[hae]at hca
           have Hmif2:=QB (QA Hmif hIJ hfik)
           have hupr:1≤Rf.upf L[i] (fs.getD i 0)∧Rf.upf L[i] (fs.getD i 0)≤3:=by
            have:=QA Hfo i hlt
            have h1:=this.1
            have h2:=this.2.1
            unfold Rf.upf
            rw[if_pos hIJ]
            omega
           have hstn:(st.take L.length).length=L.length:=by rw[List.length_take];omega
           have hltA:(i:Int)<((st.take L.length).length:Int):=by omega
           have hltF:(i:Int)<((List.zipWith Rf.upf L fs).length:Int):=by omega
           generalize Rf.upf L[i] (fs.getD i 0)=UP at *
           generalize hsti:st.getD i 0=AT at *
           generalize L[i]=l at *
           have CF:=QB (fun V=>fits_ref l.word UP AT TO V (by omega) htn)
           generalize hFT:Rf.fits l.word UP AT TO=FT at *
           clear hma ta0 e0 hsti hFT hlens hug hfe hae
           go_upto_region 22 with (go_at_call 75;refine(QA CJ _).mono ?_;rintro e wj ⟨rfl,hbj⟩;have hBX:=QE hba hbj;have hPj:=(QA HPr).below hBX;have zb:=bbox hbj (QA Hxb);have z0:=QC zb 0;have z2:=QC zb 2;have z3:=QC zb 3;have z4:=QC zb 4;have g2j:=QC hPj.box 2;have g3j:=QC hPj.box 3;have g5j:=QC hPj.box 5;simp only[gA,gZ,gS]at z0 z2 z3 z4 g2j g3j g5j;have hzl:=QD zb;have hgj:=QD hPj.box;have t0j:=(hbj.cell (p:=⟨bt,0,none⟩) hbt).trans t0;have hbtj:=Nat.lt_of_lt_of_le hbt hbj.size;have cfj:=(hBX.cell (p:=⟨bf,i,none⟩) hbfl).trans hcf;have hbfj:=Nat.lt_of_lt_of_le hbfl hBX.size;have caj:=(hBX.cell (p:=⟨ba,i,none⟩) hbal).trans hca;have hbaj:=Nat.lt_of_lt_of_le hbal hBX.size;have hLj:=hPj.labs;have HLj:=QB hLj;clear hLj hPj zb)
           clear y0 y1 y2 y3 y4 xb2
           go_upto_region 24 with (go_at_call 77;refine(QA C77 wj g5j hgj (QA HLj)).mono ?_;rintro e w3 ⟨rfl,hw3⟩;have hw3':=hw3.symm;subst hw3')
           have HBX:=QB (QE hBr hBX)
           have HIj:=QB ((QA HI).below hBX)
           clear hBX hba hbj
           go_quiet (first|(go_at_call 95;exact Calls.quiet_of_same (QA CF _)))
           cases FT with
           |true=>
            as_aux_lemma=>
             have hmf:mA=false:=by rw[hma2];rfl
             have hmof:mO=false:=by rw[hmo,hmf,Bool.and_false]
             have Hb:=QB (QA Hbs hmf)
             have Hm:=QB (QA Hms hmof)
             clear hma2 hmo hmf hmof
             go_wp2
             go_roundw
             case rel=>exact⟨i+1,p8,c8,by omega,by go_num,by rw[QA HB1,QA Hb],by rw[QA HM1,QA Hm],by rw[QA HM1,QA Hm];exact(QA HIj).below (Rf.below_dn (Below.refl _ _) _),Rf.below_dn (QA HBX) _⟩
             case measure=>simp[intOf];omega
           |false=>
            as_aux_lemma=>
             have hmt:mA=true:=by rw[hma2];rfl
             have Hmo:Hid (mO=true↔(l.form=0∧UP<3)):=QB (by
              rw[hmo,hmt,Bool.and_true,decide_eq_true_eq]
              exact QA Hmif2)
             have HbN:=QB (fun h=>QA Hbn h hmt)
             clear hma2 hmo hmt
             go_upto_if 141 with fail
             go_cut [7] (fun c7 wz=>c7=.int .i64 B1∧Below wj.heap.size wj wz)
             case first=>
              by_cases hB00:B0=0
              ·have HBN:=QB (QA HbN hB00)
               have hbb:(B0==0)=true:=by simp[hB00]
               clear hB00
               go_wp2
               go_meet
               exact⟨by rw[QA HBN],Rf.below_dn (Below.refl _ _) _⟩
              ·have HBN:=QB (QA Hbo hB00)
               have hbb:(B0==0)=false:=by simp[hB00]
               clear hB00
               go_wp2
               go_meet
               exact⟨by rw[QA HBN],Rf.below_dn (Below.refl _ _) _⟩
             case rest=>
              obtain⟨rfl,hBz⟩:=hcut
              have z3z:=(hBz.cell (p:=⟨wr.heap.size,3,none⟩) hzl).trans z3
              have hzlz:=Nat.lt_of_lt_of_le hzl hBz.size
              have g2z:=(hBz.cell (p:=⟨g,2,none⟩) hgj).trans g2j
              have hgz:=Nat.lt_of_lt_of_le hgj hBz.size
              have cfz:=(hBz.cell (p:=⟨bf,i,none⟩) hbfj).trans cfj
              have hbfz:=Nat.lt_of_lt_of_le hbfj hBz.size
              have HIz:=QB ((QA HIj).below hBz)
              have HBz:=QB (QE (QA HBX) hBz)
              have hszz:w2.heap.size≤wc.heap.size:=(QA HBz).size
              clear hBz z0 z2 z3 z4 g2j g3j g5j hgj hzl t0j hbtj cfj hbfj caj hbaj HLj
              by_cases hmm:l.form=0∧UP<3
              ·
               as_aux_lemma=>
                have Hm:=QB (QA Hmn ((QA Hmo).2 hmm))
                obtain⟨hf1,hf2⟩:=hmm
                have hfb:(l.form==0)=true:=by simp[hf1]
                have HIr:=QB (show World.ownsRow wc w2.heap.size 3 1 _ _ _ from QA HIz)
                clear hf1
                go_wp2_with (first|(at_builtin;refine wpList_append_own _ rfl _ _ 42 rfl w2.heap.size 3 i3 (.int .i64 0) 1 8 Tryz.underlying42 hi3 hz30 hz31 hz32 rfl (by decide) _ _ _ rfl ((QA HIr).alloc _) ⟨wc.heap.size,0,none⟩ 1 1 [.int .i64 (i:Int)] rfl rfl (cell_one_new _ _ _) (Rf.int_one _) (by unfold maxLen;rw[List.length_map];omega) (by rw[List.length_map];omega) (by rw[World.size_alloc];omega) ?_;intro v1 w4 hown hgrow _;obtain⟨p9,c9,rfl⟩:=Rf.row_shape hown;have Hown:=QB hown;have Hgr:=QB hgrow;clear hown hgrow)|go_in)
                go_roundw
                case rel=>
                 have hb4:Below w2.heap.size w2 w4:=Below.grown ((QA HBz).alloc hszz _) (QA Hgr) (by rw[World.size_alloc];omega) (fun k e=>by have:=((QA HIr).lt _ e).1;omega)
                 rw[List.length_map]at Hown
                 refine⟨i+1,p9,c9,by omega,by go_num,by rw[QA HB1],by rw[QA HM1,QA Hm,List.length_append,List.length_singleton],?_,hb4⟩
                 show World.ownsRow _ _ _ _ _ _ _
                 rw[QA HM1,QA Hm,List.length_append,List.length_singleton,List.map_append,List.length_append,List.length_map,List.map_append]
                 exact QA Hown
                case measure=>simp[intOf];omega
              ·
               as_aux_lemma=>
                have hmof:mO=false:=by
                 cases hmO:mO with
                 |false=>rfl
                 |true=>exact(hmm ((QA Hmo).1 hmO)).elim
                have Hm:=QB (QA Hms hmof)
                clear hmof
                by_cases hf1:l.form=0
                ·have hfb:(l.form==0)=true:=by simp[hf1]
                 have hup:¬UP<3:=fun h=>hmm ⟨hf1,h⟩
                 clear hf1 hmm
                 go_wp2
                 go_roundw
                 case rel=>exact⟨i+1,p8,c8,by omega,by go_num,by rw[QA HB1],by rw[QA HM1,QA Hm],by rw[QA HM1,QA Hm];exact QA HIz,QA HBz⟩
                 case measure=>simp[intOf];omega
                ·have hfb:(l.form==0)=false:=by simp[hf1]
                 clear hf1 hmm
                 go_wp2
                 go_roundw
                 case rel=>exact⟨i+1,p8,c8,by omega,by go_num,by rw[QA HB1],by rw[QA HM1,QA Hm],by rw[QA HM1,QA Hm];exact QA HIz,QA HBz⟩
                 case measure=>simp[intOf];omega
       ·obtain rfl:i=L.length:=by omega
        have HI:=QB hI
        clear hI hPr
        go_wp2
        go_meet
        exact⟨p8,c8,rfl,rfl,QA HI,hBr⟩
    case rest=>
     as_aux_lemma=>
      obtain⟨p8,c8,rfl,rfl,hI8,hb8⟩:=hcut
      have hPq:=(QA HP2).below hb8
      have hKz:Kept base Rf.PTag w wc:=hKw.trans (Kept.of_below hb8)
      have hmn:=Rf.more_none L fs st hfl (by omega)
      have Hmem:=QB (fun i hi=>Rf.inc_small L fs st (QA Hok) hfl (QA Hfin) i hi)
      have Hall:=QB (Rf.incs_all L fs st (QA Hok) hfl (by omega))
      have hml:=Rf.moreTo_len L fs st L.length
      have hbd:=QA Hnb L.length (Nat.le_refl _)
      by_cases hM:Rf.moreTo L fs st L.length=[]
      ·
       as_aux_lemma=>
        have hlf:Strd.QJ org (L.map Rf.strd)=fs:=by
         have:=QA HX
         rw[if_pos (hmn.1 hM)]at this
         exact this.symm
        have hsl':Rf.stL org L=st:=by unfold Rf.stL;rw[hlf];exact QA HST
        have hmi:Rf.missN org L=Rf.badTo L fs st L.length:=by unfold Rf.missN;rw[hlf,hsl']
        have Hlf:=QB hlf
        have Hsl':=QB hsl'
        have Hmi:=QB hmi
        have HPq:=QB hPq
        rw[hM]at hI8 ⊢
        generalize Rf.badTo L fs st L.length=BAD at *
        clear hPq hI8 hmn hM hlf hsl' hmi hml
        simp only[List.length_nil]
        by_cases hb0:0<BAD
        ·go_wp2
         refine bodyPost_ret (v:=.tuple #[.int .i64 BAD,.int .i64 6]) (by simp[results,Tryz.results76]) rfl ?_
         have he6:E6=6:=by rw[←QA HE6,QA Hmi,if_pos hb0]
         rw[QA Hlf,QA Hsl',QA Hmi,he6]
         exact⟨rfl,⟨_,_,_,_,_,_,QA HPq⟩,hKz⟩
        ·have hb00:BAD=0:=by omega
         subst hb00
         clear hb0
         go_wp2
         refine bodyPost_ret (v:=.tuple #[.int .i64 0,.int .i64 0]) (by simp[results,Tryz.results76]) rfl ?_
         have he6:E6=0:=by rw[←QA HE6,QA Hmi,if_neg (by decide)]
         rw[QA Hlf,QA Hsl',QA Hmi,he6]
         exact⟨rfl,⟨_,_,_,_,_,_,QA HPq⟩,hKz⟩
      ·
       as_aux_lemma=>
        have hln:Strd.longer (L.map Rf.strd) st (L.map Rf.strd) fs st≠fs:=fun h=>hM (hmn.2 h)
        have HXn:Hid (Strd.settle org (L.map Rf.strd) m' (Strd.longer (L.map Rf.strd) st (L.map Rf.strd) fs st)=Strd.QJ org (L.map Rf.strd)):=QB (by
         have:=QA HX
         rw[if_neg hln]at this
         exact this)
        have hrm2:=(QA Hrm).2 hln
        have Hlin:=QB (Rf.longer_in L fs st hfl (by omega) (QA Hfin))
        have hlgl:=Rf.longer_length L fs st hfl (by omega)
        generalize Strd.longer (L.map Rf.strd) st (L.map Rf.strd) fs st=G at *
        generalize Rf.moreTo L fs st L.length=MT at *
        have hMl:¬(MT.length:Int)=0:=by
         intro h
         apply hM
         exact List.length_eq_zero_iff.1 (by omega)
        have hnp:0<MT.length:=by omega
        have hbf2:bf<w2.heap.size:=by
         have h0:=(QA Hmem 0 hnp).1
         obtain⟨b',hb',_,hlt',_⟩:=(QA HP2).forms.at MT[0] (by rw[List.length_zipWith];omega)
         cases hb'
         exact hlt'
        have HPq:=QB hPq
        have HI8:=QB hI8
        generalize Rf.badTo L fs st L.length=BAD at *
        clear hPq hI8 hmn hM hln hbd HX Hrm Hnb
        go_wp2
        go_loopw [15] (fun c15 wr=>∃i:Nat,i≤MT.length∧c15=.int .i64 i∧Rf.PrgB base wr g org (st.getD L.length 0) L qs (Rf.incs (List.zipWith Rf.upf L fs) (MT.take i)) (st.take L.length) (Rf.labsTo L st L.length) pl cl (some ⟨bf,0,none⟩) L.length (some ⟨ba,0,none⟩) L.length pb2 cb2∧ZO 3 w2.heap.size wr (.slice p8 MT.length c8) (MT.map fun (k:Nat)=>(k:Int))∧Kept base Rf.PTag w wr) (fun c _=>MT.length-(intOf c).toNat)
        case atStart=>exact⟨0,by omega,rfl,QA HPq,QA HI8,hKz⟩
        case round=>
         obtain⟨i,hi,rfl,hPr,hIr,hKr⟩:=hrel
         by_cases hlt:i<MT.length
         ·
          as_aux_lemma=>
           obtain⟨hm1,hm2,hm3⟩:=QA Hmem i hlt
           have hFn:(Rf.incs (List.zipWith Rf.upf L fs) (MT.take i)).length=L.length:=by rw[Rf.incs_len,List.length_zipWith];omega
           have Hst:=QB (Rf.incs_step (List.zipWith Rf.upf L fs) MT i hlt)
           obtain⟨b8,hp8,hxx,hb8l,hc8⟩:=hIr.at i (by simpa using hlt)
           clear hxx
           subst hp8
           simp only[List.getElem_map]at hc8
           obtain⟨hPn,hKn,fz,hbfl,hcf⟩:=hPr.setForm MT[i] (by omega) ((Rf.incs (List.zipWith Rf.upf L fs) (MT.take i)).getD MT[i] 0+1)
           have hIn:ZO 3 w2.heap.size (wr.setCell ⟨bf,MT[i],none⟩ (.int .i64 ((Rf.incs (List.zipWith Rf.upf L fs) (MT.take i)).getD MT[i] 0+1))) (.slice (some ⟨b8,0,none⟩) MT.length c8) (MT.map fun (k:Nat)=>(k:Int)):=Rf.ints_other hIr hbf2
           have r2:=QC hPr.box 2
           simp only[gA,gZ,gS]at r2
           rw[hFn]at r2
           have hglr:=QD hPr.box
           rw[←QA Hst]at hPn
           have HPn:=QB hPn
           have HIn:=QB hIn
           have HKn:=QB (hKr.trans hKn)
           have hltI:(i:Int)<(MT.length:Int):=by omega
           generalize (Rf.incs (List.zipWith Rf.upf L fs) (MT.take i)).getD MT[i] 0=OLD at *
           generalize hkk:MT[i]=kk at *
           have hkI:(kk:Int)<(L.length:Int):=by omega
           have q1:IntKind.i64.wrap ((i:Int)+1)=(i:Int)+1:=IntWalk.i64_in _ (by omega)
           have q2:IntKind.i64.wrap (OLD+1)=OLD+1:=IntWalk.i64_in _ (by omega)
           clear hPr hIr hPn hIn hKn hkk Hst hKr
           go_upto_region 37 with fail
           go_region
           go_wp2
           go_roundw
           case rel=>exact⟨i+1,by omega,by go_num,(QA HPn).below (QW (Below.refl _ _)),ZO.below (QA HIn) (QW (Below.refl _ _)),(QA HKn).drew⟩
           case measure=>simp[intOf];omega
         ·
          as_aux_lemma=>
           obtain rfl:i=MT.length:=by omega
           rw[List.take_length,QA Hall]at hPr
           have HPr:=QB hPr
           have hrd:Rf.intsIn wr bf L.length=List.zipWith Rf.upf L G:=by
            have h1:=Rf.intsIn_eq hPr.forms
            have h2:(List.zipWith Rf.upf L G).length=L.length:=by rw[List.length_zipWith];omega
            rw[h2]at h1
            exact h1
           have Hrd2:=QB hrd
           clear hPr hrd hIr
           go_wp2
           go_roundw
           case rel=>exact⟨m',G,st.take L.length,Rf.labsTo L st L.length,st.getD L.length 0,pb2,cb2,QA HXn,by omega,hlgl,QA Hlin,by rw[List.length_take];omega,hlbl,QA Hlab,QA HPr,hKr⟩
           case measure=>rw[QA Hrd,QA Hrd2,Rf.down_up L G hlgl (QA Hok) (QA Hlin)];exact hrm2
end Go.Proofs.YtegiloiojloaoaaGreatDoor
