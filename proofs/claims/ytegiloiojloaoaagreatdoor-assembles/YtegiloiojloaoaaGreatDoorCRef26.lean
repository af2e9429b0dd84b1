/- Which jumps miss: the reference's words and the program's. -/
import Derived.Test.YtegiloiojloaoaaGreatDoorCSpec
import Derived.Test.YtegiloiojloaoaaGreatDoorCRf0
import Derived.Test.YtegiloiojloaoaaGreatDoorCRef1
import Derived.Test.YtegiloiojloaoaaGreatDoorCRef19
import Derived.Test.YtegiloiojloaoaaGreatDoorCSetSt
import Derived.Deep.CutBlock
import Derived.Deep.DeepCutAuto
set_option linter.unusedVariables false
set_option linter.unusedSimpArgs false
set_option maxHeartbeats 8000000
set_option maxRecDepth 1000000
namespace Go.Proofs.YtegiloiojloaoaaGreatDoor.Rf
theorem miss_tie (L:List Line) (st:List Int) (l:Line) (hok:LineOk l) (f a:Int) (hf:FormOk l f) (hK:∀o∈(ins l).oprs,Strd.known (L.map strd) o.name=true):missL (labsTo L st L.length) l (upf l f) a=Strd.misses (L.map strd) st (strd l) f a:=by
 obtain⟨hj,h6⟩:=kind_isJump l hok.wf
 unfold missL Strd.misses
 have hs:(strd l).ins=ins l:=rfl
 rw[hs,hj]
 cases hb:QN l.word with
 |false=>rfl
 |true=>
  obtain⟨p,ht,hp,hi⟩:=jump_shape l hok.wf hb
  have e1:ZI l 0=p:=by unfold ZI;rw[ht];rfl
  have e2:(ins l).oprs.headD ⟨[],0⟩=opr 3 p:=by rw[hi];rfl
  have e3:upf l f=f+1:=by unfold upf;rw[if_pos hb]
  rw[e1,e2,e3,toN_tie _ p hp,numIn_tie L st (opr 3 p) (hK _ (by rw[hi];simp))]
  have hk:(ins l).op.kind=5∨(ins l).op.kind=6:=by
   have:=hj
   rw[hb]at this
   unfold Strd.QN at this
   simpa using this
  have hfar:far l.word=decide ((ins l).op.kind=6):=by
   have:=h6 hb
   by_cases h:(ins l).op.kind=6
   ·rw[this.1 h];simp[h]
   ·have hn:far l.word=false:=by
     cases e:far l.word with
     |false=>rfl
     |true=>exact(h (this.2 e)).elim
    rw[hn];simp[h]
  have hf3:f=0∨f=1∨f=2:=by
   have h1:=hf.1
   have h2:=hf.2.1
   omega
  rw[fits_tie l.word (ins l).op f a _ hf3 (fun h=>hf.2.2 ((h6 hb).1 h)) hk hfar]
end Go.Proofs.YtegiloiojloaoaaGreatDoor.Rf
namespace Go.Proofs.YtegiloiojloaoaaGreatDoor
open Go.RowKit Go.Shelf Go.Sort Go.Maps
namespace Rf
def PTag (o:Obj):Prop:=Tag 3 o∨Tag 37 o∨Tag 108 o
structure PrgB (base:Nat) (w:World) (g:Nat) (org en:Int) (L:List Line) (qs:List (Line×Sl)) (Fs As:List Int) (labs:List (Strd.Bs×Int)) (pl:Option Addr) (cl:Nat) (pf:Option Addr) (cf:Nat) (pa:Option Addr) (ca:Nat) (pb:Option Addr) (cb:Nat):Prop where
 box:w.heap[g]? = some (.cells #[.int .i64 org,.slice pl L.length cl,.slice pf Fs.length cf,.slice pa As.length ca,.int .i64 en,.slice pb labs.length cb] 108 (0,0))
 lines:ZS base w (.slice pl L.length cl) L qs
 forms:ZO 3 base w (.slice pf Fs.length cf) Fs
 ats:ZO 3 base w (.slice pa As.length ca) As
 labs:Z0 base w (.slice pb labs.length cb) labs
 ne:∀b,pf=some ⟨b,0,none⟩→pa≠some ⟨b,0,none⟩
 gb:base≤g
theorem PrgB.prg {base:Nat} {w:World} {g:Nat} {org en:Int} {L:List Line} {qs:List (Line×Sl)} {Fs As:List Int} {labs:List (Strd.Bs×Int)} {pl:Option Addr} {cl:Nat} {pf:Option Addr} {cf:Nat} {pa:Option Addr} {ca:Nat} {pb:Option Addr} {cb:Nat} (h:PrgB base w g org en L qs Fs As labs pl cl pf cf pa ca pb cb):PrgAt base w g org en L qs Fs As labs:=
 ⟨⟨pl,cl,pf,cf,pa,ca,pb,cb,h.box,h.lines,h.forms,h.ats,h.labs⟩,h.gb⟩
theorem PrgB.below {base:Nat} {w w':World} {g:Nat} {org en:Int} {L:List Line} {qs:List (Line×Sl)} {Fs As:List Int} {labs:List (Strd.Bs×Int)} {pl:Option Addr} {cl:Nat} {pf:Option Addr} {cf:Nat} {pa:Option Addr} {ca:Nat} {pb:Option Addr} {cb:Nat} (h:PrgB base w g org en L qs Fs As labs pl cl pf cf pa ca pb cb) (hb:Below w.heap.size w w'):PrgB base w' g org en L qs Fs As labs pl cl pf cf pa ca pb cb:=
 ⟨bbox hb h.box,h.lines.below hb,h.forms.below hb,h.ats.below hb,h.labs.below hb,h.ne,h.gb⟩
theorem ZS.tag {base B:Nat} {e:TypeId} {w w':World} {v:Value} {L:List Line} {qs:List (Line×Sl)} (h:ZS base w v L qs) (hk:Kept B (Tag e) w w') (h1:144≠e) (h2:9≠e):ZS base w' v L qs:=
 ⟨h.fst,ZN h.row hk (not_tag h1),fun x hx=>⟨(h.texts x hx).1,ZN (h.texts x hx).2 hk (not_tag h2)⟩⟩
theorem Z0.tag {base B:Nat} {e:TypeId} {w w':World} {v:Value} {l:List (Strd.Bs×Int)} (h:Z0 base w v l) (hk:Kept B (Tag e) w w') (h1:37≠e):Z0 base w' v l:=ZN h hk (not_tag h1)
theorem PrgB.setAt {base:Nat} {w:World} {g:Nat} {org en:Int} {L:List Line} {qs:List (Line×Sl)} {Fs As:List Int} {labs:List (Strd.Bs×Int)} {pl:Option Addr} {cl:Nat} {pf:Option Addr} {cf:Nat} {ba:Nat} {ca:Nat} {pb:Option Addr} {cb:Nat} (h:PrgB base w g org en L qs Fs As labs pl cl pf cf (some ⟨ba,0,none⟩) ca pb cb) (k:Nat) (hk:k<As.length) (a:Int) :
  PrgB base (w.setCell ⟨ba,k,none⟩ (.int .i64 a)) g org en L qs Fs (As.set k a) labs pl cl pf cf (some ⟨ba,0,none⟩) ca pb cb∧Kept base PTag w (w.setCell ⟨ba,k,none⟩ (.int .i64 a))∧w.frozen? ⟨ba,k,none⟩=false∧ba<w.heap.size∧∃u,w.cell? ⟨ba,k,none⟩=some u:=by
 obtain⟨s1,s2,s3⟩:=ZO.setAt a h.ats hk
 obtain⟨b,hb,_,hbl,hc⟩:=h.ats.at k hk
 cases hb
 have hbox:ba≠g:=by
  rintro rfl
  rcases h.ats.2 with ⟨h0,_⟩|⟨g',c,cur,hv,_,hh,_⟩
  ·cases h0
  ·cases hv
   rw[h.box]at hh
   cases hh
 have hf:ZO 3 base (w.setCell ⟨ba,k,none⟩ (.int .i64 a)) (.slice pf Fs.length cf) Fs:=by
  obtain⟨q1,q2⟩:=h.forms
  refine⟨q1,q2.imp id ?_⟩
  rintro ⟨g',c,cur,hv,hb',hh,r⟩
  refine⟨g',c,cur,hv,hb',?_,r⟩
  rw[Below.heap_setCell _ _ _ _ (fun e=>by
   subst e
   simp only[Value.slice.injEq]at hv
   exact h.ne g' hv.1 rfl)]
  exact hh
 refine⟨⟨?_,h.lines.tag s2 (by decide) (by decide),hf,by simpa using s1,h.labs.tag s2 (by decide),h.ne,h.gb⟩,s2.mono (Nat.le_refl _) (fun o ho=>.inl ho),s3,hbl,_,hc⟩
 rw[List.length_set,Below.heap_setCell _ _ _ _ (fun e=>hbox e.symm)]
 exact h.box
end Rf
namespace Rf
theorem info37r:(Tryz.prog.info? 37).map (fun i=>(i.zero,i.size,i.bytes))=some (some (.agg #[.string ⟨#[]⟩,.int .i64 0]),2,24):=by kernel_rfl
theorem cells_two (w:World) (x y:Value) (e:TypeId):∀j u,[x,y][j]? = some u→(w.alloc (.cells #[x,y] e)).cell? ((⟨w.heap.size,0,none⟩:Addr).add j)=some u:=fun j u h=>by
 rw[Addr.add_lit,Nat.zero_add,QC (QH w (.cells #[x,y] e)) j,gA]
 exact h
theorem lab_one (s:Strd.Bs) (n:Int):∀u∈[Value.string (bstr s),.int .i64 n],u.oneCell'=true:=by
 intro u hu
 simp only[List.mem_cons,List.not_mem_nil,or_false]at hu
 rcases hu with rfl|rfl <;> rfl
theorem set_mid (st As:List Int) (k:Nat) (h1:k<st.length) (h2:k<As.length):(st.take k++As.drop k).set k (st.getD k 0)=st.take (k+1)++As.drop (k+1):=by
 have hk:(st.take k).length=k:=by rw[List.length_take];omega
 have ht:st.take (k+1)=st.take k++[st[k]]:=by rw[List.take_add_one,gE h1];rfl
 rw[List.set_append_right _ _ (by omega),hk,Nat.sub_self,List.drop_eq_getElem_cons h2,List.set_cons_zero,ht,gD,gE h1,List.append_assoc]
 rfl
theorem own_setI {w:World} {base base' n size b i m c:Nat} {e t:TypeId} {v x:Value} {xs:List Value} {ys:List Int} (h:w.ownsRow base e size v n xs) (hg:ZO t base' w (.slice (some ⟨b,0,none⟩) m c) ys) (hne:t≠e):(w.setCell ⟨b,i,none⟩ x).ownsRow base e size v n xs:=by
 rcases hg.2 with ⟨h0,_⟩|⟨g',c',cur,hv,_,hh,_⟩
 ·cases h0
 ·cases hv
  exact own_set h hh hne
theorem labCells_app (a b:List (Strd.Bs×Int)):ZD (a++b)=ZD a++ZD b:=by simp[ZD]
theorem PrgB.grown {base B:Nat} {w w':World} {g:Nat} {org en:Int} {L:List Line} {qs:List (Line×Sl)} {Fs As:List Int} {labs:List (Strd.Bs×Int)} {pl:Option Addr} {cl:Nat} {pf:Option Addr} {cf:Nat} {pa:Option Addr} {ca:Nat} {pb:Option Addr} {cb:Nat} (h:PrgB base w g org en L qs Fs As labs pl cl pf cf pa ca pb cb) (hk:Kept B (Tag 37) w w') (hlt:∀b,(Value.slice pb labs.length cb).ownBlock=some b→b<B):PrgB base w' g org en L qs Fs As labs pl cl pf cf pa ca pb cb:=by
 refine⟨?_,h.lines.tag hk (by decide) (by decide),h.forms.tag hk (by decide),h.ats.tag hk (by decide),ownsRow_keptB h.labs hk hlt,h.ne,h.gb⟩
 rw[hk.block g (QD h.box) (.inr fun o ho hd=>by rw[h.box]at ho;cases ho;obtain⟨_,_,e⟩:=hd;cases e)]
 exact h.box
end Rf
theorem place_ref (base g:Nat) (org en:Int) (L:List Rf.Line) (qs:List (Rf.Line×Sl)) (fs As:List Int) (labs:List (Strd.Bs×Int)) (pl:Option Addr) (cl:Nat) (pf:Option Addr) (cf:Nat) (pa:Option Addr) (ca:Nat) (pb:Option Addr) (cb:Nat) (w:World)
  (hP:Rf.PrgB base w g org en L qs (List.zipWith Rf.upf L fs) As labs pl cl pf cf pa ca pb cb) (hbw:base≤w.heap.size) (hok:∀l∈L,Rf.LineOk l) (hfl:fs.length=L.length) (hfo:∀k,k<L.length→Rf.FormOk (L.getD k Rf.dl) (fs.getD k 0)) (hAl:As.length=L.length) (hln:labs.length≤2^30) (hLn:L.length≤4001)
  (hto:∀l∈L,∀t∈l.texts,-2^40≤Rf.toN labs t∧Rf.toN labs t≤2^40) (hst:∀k,k≤L.length→0≤(Strd.starts org (L.map Rf.strd) fs).getD k 0∧(Strd.starts org (L.map Rf.strd) fs).getD k 0≤2^31) (hsz:∀k (h:k<L.length),((Rf.bytes labs (L.getD k Rf.dl) (Rf.upf (L.getD k Rf.dl) (fs.getD k 0)) ((Strd.starts org (L.map Rf.strd) fs).getD k 0)).length:Int)=(Strd.starts org (L.map Rf.strd) fs).getD (k+1) 0-(Strd.starts org (L.map Rf.strd) fs).getD k 0) (himg:∀k,k≤L.length→(Rf.imgTo labs L fs (Strd.starts org (L.map Rf.strd) fs) k).length≤2^40) :
  Calls Tryz.prog 43 #[.pointer (some ⟨g,0,none⟩)] w fun e w'=>e=.returned (.string (bstr (Rf.imgTo labs L fs (Strd.starts org (L.map Rf.strd) fs) L.length)))∧(∃pb' cb',Rf.PrgB base w' g org ((Strd.starts org (L.map Rf.strd) fs).getD L.length 0) L qs (List.zipWith Rf.upf L fs) ((Strd.starts org (L.map Rf.strd) fs).take L.length) (Rf.labsTo L (Strd.starts org (L.map Rf.strd) fs) L.length) pl cl pf cf pa ca pb' cb')∧Kept base Rf.PTag w w':=by
 obtain⟨i0,hi0,hz0,hz1,hz2⟩:=info_parts Rf.info37r
 have hs0:(Strd.starts org (L.map Rf.strd) fs).getD 0 0=org:=Strd.st_zero _ _ _
 have hsl:(Strd.starts org (L.map Rf.strd) fs).length=L.length+1:=by rw[Strd.st_len _ _ _ (by simpa using hfl)];simp
 generalize Strd.starts org (L.map Rf.strd) fs=st at *
 have hFl:(List.zipWith Rf.upf L fs).length=L.length:=by rw[List.length_zipWith];omega
 have hFg:∀k,k<L.length→(List.zipWith Rf.upf L fs).getD k 0=Rf.upf (L.getD k Rf.dl) (fs.getD k 0):=fun k hk=>by
  rw[gD,gE (by omega),Option.getD_some,List.getElem_zipWith,gD,gE hk,gD,gE (by omega)]
  rfl
 generalize List.zipWith Rf.upf L fs=Fs at *
 have hlbl:∀b,(Value.slice pb labs.length cb).ownBlock=some b→b<w.heap.size:=fun b hb=>by
  rcases hP.labs.2 with ⟨h0,_⟩|⟨g',c,cur,hv,_,hh,_⟩
  ·rw[h0]at hb;cases hb
  ·rw[hv]at hb
   simp only[Value.ownBlock,Option.some.injEq]at hb
   subst hb
   exact QD hh
 have c0:=QC hP.box 0
 simp only[gA,gZ,gS]at c0
 have hgl:=QD hP.box
 have HP:=QB hP
 have Hok:=QB hok
 have Hfo:=QB hfo
 have Hto:=QB hto
 have Hst:=QB hst
 have Hsz:=QB hsz
 have HFg:=QB hFg
 have Himg:=QB himg
 have Hlbl:=QB hlbl
 clear hP hok hfo hto hst hsz hFg himg hlbl
 go_enter Tryz.func43,Tryz.ntmps43
 go_wp2
 go_loopw [3,4,5,6] (fun c3 c4 c5 c6 wr=>∃(k:Nat) (p5:Option Addr) (cp5:Nat),k≤L.length∧c6=.int .i64 k∧c3=.int .i64 (st.getD k 0)∧c4=.string (bstr (Rf.imgTo labs L fs st k))∧c5=.slice p5 (Rf.labsTo L st k).length cp5∧Rf.Z0 w.heap.size wr (.slice p5 (Rf.labsTo L st k).length cp5) (Rf.labsTo L st k)∧Rf.PrgB base wr g org en L qs Fs (st.take k++As.drop k) labs pl cl pf cf pa ca pb cb∧Kept base Rf.PTag w wr) (fun _ _ _ c _=>L.length-(intOf c).toNat)
 case atStart=>exact⟨0,none,0,by omega,rfl,by rw[hs0],rfl,rfl,World.ownsRow_nil _ _ _ _,QA HP,Kept.refl _ _ _⟩
 case round=>
  obtain⟨k,p5,cp5,hk,rfl,rfl,rfl,rfl,hL5,hPr,hKr⟩:=hrel
  have hszr:=hKr.size
  have r1:=QC hPr.box 1
  have r3:=QC hPr.box 3
  simp only[gA,gZ,gS]at r1 r3
  have hglr:=QD hPr.box
  by_cases hlt:k<L.length
  ·
   as_aux_lemma=>
    obtain⟨bl,q,hpl,_,hbl,y0,y1,y2,y3,y4,hT⟩:=hPr.lines.at k hlt
    subst hpl
    have hAn:(st.take k++As.drop k).length=L.length:=by rw[List.length_append,List.length_take,List.length_drop];omega
    obtain⟨ba,hpa,_,_,_⟩:=hPr.ats.at k (by omega)
    subst hpa
    obtain⟨hP1,hK1,fz,hbal,u,hu⟩:=hPr.setAt k (by omega) (st.getD k 0)
    rw[Rf.set_mid st As k (by omega) (by omega)]at hP1
    have hL1:Rf.Z0 w.heap.size (wr.setCell ⟨ba,k,none⟩ (.int .i64 (st.getD k 0))) (.slice p5 (Rf.labsTo L st k).length cp5) (Rf.labsTo L st k):=Rf.own_setI hL5 hPr.ats (by decide)
    have hK2:=hKr.trans hK1
    have r1':=QC hP1.box 1
    simp only[gA,gZ,gS]at r1'
    have hgl1:=QD hP1.box
    obtain⟨bl',q',hbl',_,hbll,y0',y1',_,_,_,_⟩:=hP1.lines.at k hlt
    cases hbl'
    have hltI:(k:Int)<(L.length:Int):=by omega
    have hltA:(k:Int)<((st.take k++As.drop k).length:Int):=by omega
    have hsu:=Rf.labsTo_succ L st k
    have hsui:=Rf.imgTo_succ labs L fs st k
    have hgd:L.getD k Rf.dl=L[k]:=by rw[gD,gE hlt];rfl
    have hfgk:=QA HFg k hlt
    have hszk:=QA Hsz k hlt
    have hstk:=QA Hst k (by omega)
    have hstk1:=QA Hst (k+1) (by omega)
    have himk:=QA Himg k (by omega)
    have himk1:=QA Himg (k+1) (by omega)
    have hlbn:=Rf.labsTo_len L st k
    rw[hgd]at hsu hsui hfgk hszk
    have hokk:=QA Hok _ (List.getElem_mem hlt)
    have HB:=QB (fun V h=>bytes_ref base g k org en (st.getD k 0) L qs Fs (st.take (k+1)++As.drop (k+1)) labs V h hlt hokk (by omega) ⟨hstk.1,by omega⟩ (by omega) (by omega) (fun hj=>by
     rw[hfgk]
     have hf:=QA Hfo k hlt
     rw[hgd]at hf
     unfold Rf.upf
     rw[if_pos hj]
     have h1:=hf.1
     have h2:=hf.2.1
     omega) (QA Hto _ (List.getElem_mem hlt)))
    rw[hfgk]at HB
    generalize hBY:Rf.bytes labs L[k] (Rf.upf L[k] (fs.getD k 0)) (st.getD k 0)=BY at *
    have hLBk1:(Rf.labsTo L st (k+1)).length≤k+1:=Rf.labsTo_len L st (k+1)
    have Hsu:=QB hsu
    have Hsui:=QB hsui
    have hszk2:=hszk
    generalize hat:st.getD k 0=at0 at *
    generalize hat1:st.getD (k+1) 0=at1 at *
    generalize hI0:Rf.imgTo labs L fs st k=I0 at *
    generalize hI1:Rf.imgTo labs L fs st (k+1)=I1 at *
    generalize hB0:Rf.labsTo L st k=B0 at *
    generalize hB1:Rf.labsTo L st (k+1)=B1 at *
    have Hat1:=QB hat1
    have HI1:=QB hI1
    have HB1:=QB hB1
    generalize hlab:L[k].label=lab at *
    clear hsu hsui hszk hfgk hgd hokk hBY hat hat1 hI0 hI1 hB0 hB1 hlab y0 y2 y3 y4 hT hK1 hPr hL5
    go_upto_if 36 with fail
    generalize wr.setCell ⟨ba,k,none⟩ (.int .i64 at0)=W1 at *
    go_cut [5] (fun c5 wq=>∃(p:Option Addr) (c:Nat),c5=.slice p B1.length c∧Rf.Z0 w.heap.size wq (.slice p B1.length c) B1∧Rf.PrgB base wq g org en L qs Fs (st.take (k+1)++As.drop (k+1)) labs (some ⟨bl,0,none⟩) cl pf cf (some ⟨ba,0,none⟩) ca pb cb∧Kept base Rf.PTag w wq)
    case first=>
     by_cases hl0:lab=[]
     ·have hB:B1=B0:=by rw[QA Hsu,if_pos hl0,List.append_nil]
      subst hl0
      go_wp2
      go_meet
      rw[hB]
      exact⟨p5,cp5,rfl,hL1,hP1,hK2⟩
     ·have hB:B1=B0++[(lab,at0)]:=by rw[QA Hsu,if_neg hl0]
      have hb0:(!List.isEmpty lab)=true:=by cases lab with|nil=>exact(hl0 rfl).elim|cons x y=>rfl
      rw[hb0]
      have HBe:=QB hB
      have HL1:=QB hL1
      have hsz1:=hK2.size
      clear hb0 hl0 hB hL1
      go_wp2_with (first|(at_builtin;refine wpList_append_own _ rfl _ _ 33 rfl w.heap.size 37 i0 (.agg #[.string ⟨#[]⟩,.int .i64 0]) 2 24 Tryz.underlying33 hi0 hz0 hz1 hz2 rfl (by decide) _ _ _ rfl ((QA HL1).alloc _) ⟨W1.heap.size,0,none⟩ 1 1 [.string (bstr lab),.int .i64 at0] rfl rfl (Rf.cells_two _ _ _ _) (Rf.lab_one _ _) (by unfold maxLen;omega) (by omega) (by rw[World.size_alloc];omega) ?_;intro v1 w2 hown hgrow _;obtain⟨p2,cap2,rfl⟩:=Rf.row_shape hown;have Hown:=QB hown;have Hgrow:=QB hgrow;clear hown hgrow)|go_in)
      go_meet
      have hown:=QA Hown
      have hkk:Kept w.heap.size (Tag 37) (W1.alloc (.cells #[.string (bstr lab),.int .i64 at0] 37)) w2:=Kept.of_grown (QA Hgrow) ((QA HL1).alloc _)
      have hba:=QF W1 (.cells #[.string (bstr lab),.int .i64 at0] 37)
      rw[QA HBe,List.length_append]
      refine⟨p2,cap2,rfl,?_,(hP1.below hba).grown hkk (QA Hlbl),hK2.trans ((Kept.of_below hba).trans (hkk.mono hbw (fun o ho=>.inr (.inl ho))))⟩
      show World.ownsRow _ _ _ _ _ _ _
      rw[List.length_append,Rf.labCells_app]
      exact hown
    case rest=>
     obtain⟨p6,cp6,rfl,hL6,hP6,hK6⟩:=hcut
     have q1:IntKind.i64.wrap (at0+(BY.length:Int))=at0+(BY.length:Int):=IntWalk.i64_in _ (by omega)
     have q2:IntKind.i64.wrap ((k:Int)+1)=(k:Int)+1:=IntWalk.i64_in _ (by omega)
     have hI1l:I1.length=I0.length+BY.length:=by rw[QA Hsui,List.length_append]
     have s1:¬9223372036854775807<List.length I0+List.length BY:=by omega
     have HP6:=QB hP6
     have HL6:=QB hL6
     clear hP6 hL6 hP1 hL1
     go_wp2_with (go_at_call 79;refine(QA HB _ (QA HP6).prg).mono ?_;rintro e w7 ⟨rfl,hb7⟩)
     go_roundw
     case rel=>
      refine⟨k+1,p6,cp6,by omega,by go_num,?_,?_,?_,?_,(QA HP6).below hb7,hK6.trans (Kept.of_below hb7)⟩
      ·rw[QA Hat1];congr 1;omega
      ·rw[QA HI1,QA Hsui];exact congrArg Value.string (QZ (by simp))
      ·rw[QA HB1]
      ·rw[QA HB1];exact(QA HL6).below hb7
     case measure=>simp[intOf];omega
  ·
   as_aux_lemma=>
    obtain rfl:k=L.length:=by omega
    have r4:=QC hPr.box 4
    have f4:=ZC hPr.box 4
    have r5:=QC hPr.box 5
    have f5:=ZC hPr.box 5
    simp only[gA,gZ,gS]at r4 r5
    have hAs0:st.take L.length++As.drop L.length=st.take L.length:=by rw[List.drop_eq_nil_of_le (by omega),List.append_nil]
    have HPr:=QB hPr
    have HL5:=QB hL5
    generalize hEn:st.getD L.length 0=E at *
    generalize hLb:Rf.labsTo L st L.length=LB at *
    have k5:(wr.setCell ⟨g,4,none⟩ (.int .i64 E)).cell? ⟨g,5,none⟩=some (.slice pb labs.length cb):=by
     have:=QC (Rf.box_set (i:=4) (x:=.int .i64 E) hPr.box) 5
     simpa using this
    have k5f:=ZC (Rf.box_set (i:=4) (x:=.int .i64 E) hPr.box) 5
    clear hPr hL5
    go_wp2
    go_ret
    refine⟨rfl,⟨p5,cp5,?_⟩,?_⟩
    ·rw[hEn,hLb]
     have hPr:=QA HPr
     rw[hAs0]at hPr
     have hbx:=Rf.box_set (i:=5) (x:=.slice p5 LB.length cp5) (Rf.box_set (i:=4) (x:=.int .i64 E) hPr.box)
     have hk2:Kept base (Tag 108) wr ((wr.setCell ⟨g,4,none⟩ (.int .i64 E)).setCell ⟨g,5,none⟩ (.slice p5 LB.length cp5)):=by
      refine⟨rfl,rfl,rfl,Nat.le_of_eq (by simp[World.setCell]),fun j _ hd=>?_⟩
      have hne:j≠g:=by
       rintro rfl
       rcases hd with hd|hd
       ·have:=hPr.gb;omega
       ·exact hd _ hPr.box ⟨_,_,rfl⟩
      rw[Below.heap_setCell _ _ _ _ hne,Below.heap_setCell _ _ _ _ hne]
     exact⟨hbx,hPr.lines.tag hk2 (by decide) (by decide),hPr.forms.tag hk2 (by decide),hPr.ats.tag hk2 (by decide),Rf.row_base ((QA HL5).tag hk2 (by decide)) hbw,hPr.ne,hPr.gb⟩
    ·have hPr:=QA HPr
     refine hKr.trans ⟨rfl,rfl,rfl,Nat.le_of_eq (by simp[World.setCell]),fun j _ hd=>?_⟩
     have hne:j≠g:=by
      rintro rfl
      rcases hd with hd|hd
      ·have:=hPr.gb;omega
      ·exact hd _ hPr.box (.inr (.inr ⟨_,_,rfl⟩))
     rw[Below.heap_setCell _ _ _ _ hne,Below.heap_setCell _ _ _ _ hne]
namespace Rf
theorem info3r:(Tryz.prog.info? 3).map (fun i=>(i.zero,i.size,i.bytes))=some (some (.int .i64 0),1,8):=by kernel_rfl
theorem make_ints (n:Nat) (h:n≤2^30) (W:World):(Instr.makeSlice 42 (.int .i64 (n:Int)) (.int .i64 (n:Int))).run Tryz.prog W=.ok (.slice (some ⟨W.heap.size,0,none⟩) n n) (W.alloc (.cells (madeCells #[.int .i64 0] n) 3)):=by
 obtain⟨i,hi,hz0,hz1,hz2⟩:=info_parts info3r
 have h:=run_make (P:=Tryz.prog) W 42 3 i (.int .i64 0) Tryz.underlying42 hi hz0 .i64 .i64 (n:Int) (n:Int) (by omega) (by omega) (by rw[hz2];omega) (by omega)
 rw[hz1,Nat.mul_one]at h
 exact h
theorem made_ints (n:Nat):(madeCells #[.int .i64 0] n).toList=(List.replicate n (0:Int)).map (Value.int .i64):=by
 rw[List.map_replicate]
 induction n with
 |zero=>simp[madeCells]
 |succ n ih=>
  simp only[madeCells,Array.toList_map,Array.toList_range]at ih ⊢
  rw[List.range_succ,List.map_append,ih,List.replicate_succ']
  congr 1
  simp[Nat.mod_one]
theorem ints_at (n base:Nat) (h:n≤2^30) (W:World) (b:Nat) (hb:base≤b) (hx:W.heap[b]? = some (.cells (madeCells #[.int .i64 0] n) 3 (0,0))):ZO 3 base W (.slice (some ⟨b,0,none⟩) n n) (List.replicate n 0):=by
 refine⟨by simp,.inr ⟨b,n,_,by rw[List.length_replicate],hb,hx,by rw[List.length_replicate];exact Nat.le_refl _,by unfold maxLen;omega,by rw[size_madeCells,Nat.mul_one],?_⟩⟩
 rw[made_ints,List.length_replicate,Nat.mul_one,List.take_of_length_le (by simp)]
theorem PrgB.setForm {base:Nat} {w:World} {g:Nat} {org en:Int} {L:List Line} {qs:List (Line×Sl)} {Fs As:List Int} {labs:List (Strd.Bs×Int)} {pl:Option Addr} {cl:Nat} {bf:Nat} {cf:Nat} {pa:Option Addr} {ca:Nat} {pb:Option Addr} {cb:Nat} (h:PrgB base w g org en L qs Fs As labs pl cl (some ⟨bf,0,none⟩) cf pa ca pb cb) (k:Nat) (hk:k<Fs.length) (a:Int) :
  PrgB base (w.setCell ⟨bf,k,none⟩ (.int .i64 a)) g org en L qs (Fs.set k a) As labs pl cl (some ⟨bf,0,none⟩) cf pa ca pb cb∧Kept base PTag w (w.setCell ⟨bf,k,none⟩ (.int .i64 a))∧w.frozen? ⟨bf,k,none⟩=false∧bf<w.heap.size∧w.cell? ⟨bf,k,none⟩=some (.int .i64 (Fs.getD k 0)):=by
 obtain⟨s1,s2,s3⟩:=ZO.setAt a h.forms hk
 obtain⟨b,hb,_,hbl,hc⟩:=h.forms.at k hk
 cases hb
 have hbox:bf≠g:=by
  rintro rfl
  rcases h.forms.2 with ⟨h0,_⟩|⟨g',c,cur,hv,_,hh,_⟩
  ·cases h0
  ·cases hv
   rw[h.box]at hh
   cases hh
 have hf:ZO 3 base (w.setCell ⟨bf,k,none⟩ (.int .i64 a)) (.slice pa As.length ca) As:=by
  obtain⟨q1,q2⟩:=h.ats
  refine⟨q1,q2.imp id ?_⟩
  rintro ⟨g',c,cur,hv,hb',hh,r⟩
  refine⟨g',c,cur,hv,hb',?_,r⟩
  rw[Below.heap_setCell _ _ _ _ (fun e=>by
   subst e
   simp only[Value.slice.injEq]at hv
   exact h.ne g' rfl hv.1)]
  exact hh
 refine⟨⟨?_,h.lines.tag s2 (by decide) (by decide),by simpa using s1,hf,h.labs.tag s2 (by decide),h.ne,h.gb⟩,s2.mono (Nat.le_refl _) (fun o ho=>.inl ho),s3,hbl,?_⟩
 ·rw[List.length_set,Below.heap_setCell _ _ _ _ (fun e=>hbox e.symm)]
  exact h.box
 ·rw[hc,gD,gE hk];rfl
end Rf
namespace Rf
def MTag (o:Obj):Prop:=PTag o∨Tag 144 o
theorem mtag9:∀cur,¬MTag (.cells cur 9 (0,0)):=by
 rintro cur ((⟨_,_,h⟩|⟨_,_,h⟩|⟨_,_,h⟩)|⟨_,_,h⟩) <;> cases h
theorem info144:(Tryz.prog.info? 144).map (fun i=>(i.zero,i.size,i.bytes))=some (some (.agg #[.int .i64 0,.string ⟨#[]⟩,.string ⟨#[]⟩,.int .i64 0,.slice none 0 0]),5,72):=by kernel_rfl
theorem PrgB.start (w:World):PrgB w.heap.size (w.alloc (.cells #[.int .i64 0,.slice none 0 0,.slice none 0 0,.slice none 0 0,.int .i64 0,.slice none 0 0] 108)) w.heap.size 0 0 [] [] [] [] [] none 0 none 0 none 0 none 0:=
 ⟨QH w _,⟨rfl,World.ownsRow_nil _ _ _ _,fun x hx=>by cases hx⟩,World.ownsRow_nil _ _ _ _,World.ownsRow_nil _ _ _ _,World.ownsRow_nil _ _ _ _,(fun b h=>by cases h),Nat.le_refl _⟩
theorem kept_box {base g i:Nat} {cs:Array Value} {w:World} (x:Value) (hb:w.heap[g]? = some (.cells cs 108 (0,0))) (hg:base≤g):Kept base PTag w (w.setCell ⟨g,i,none⟩ x):=by
 refine⟨rfl,rfl,rfl,Nat.le_of_eq (Rf.ZF _ _ _ _).symm,fun j _ hd=>Below.heap_setCell _ _ _ _ ?_⟩
 rintro rfl
 rcases hd with hd|hd
 ·omega
 ·exact hd _ hb (.inr (.inr ⟨_,_,rfl⟩))
theorem ZS.setBox {base g i:Nat} {cs:Array Value} {w:World} {v x:Value} {L:List Line} {qs:List (Line×Sl)} (h:ZS base w v L qs) (hb:w.heap[g]? = some (.cells cs 108 (0,0))):ZS base (w.setCell ⟨g,i,none⟩ x) v L qs:=
 ⟨h.fst,own_set h.row hb (by decide),fun y hy=>⟨(h.texts y hy).1,own_set (h.texts y hy).2 hb (by decide)⟩⟩
theorem PrgB.setOrg {base:Nat} {w:World} {g:Nat} {org en:Int} {L:List Line} {qs:List (Line×Sl)} {Fs As:List Int} {labs:List (Strd.Bs×Int)} {pl:Option Addr} {cl:Nat} {pf:Option Addr} {cf:Nat} {pa:Option Addr} {ca:Nat} {pb:Option Addr} {cb:Nat} (h:PrgB base w g org en L qs Fs As labs pl cl pf cf pa ca pb cb) (o:Int):PrgB base (w.setCell ⟨g,0,none⟩ (.int .i64 o)) g o en L qs Fs As labs pl cl pf cf pa ca pb cb:=by
 refine⟨?_,h.lines.setBox h.box,own_set h.forms h.box (by decide),own_set h.ats h.box (by decide),own_set h.labs h.box (by decide),h.ne,h.gb⟩
 rw[box_set h.box]
 simp
theorem PrgB.addLine {base:Nat} {w w6:World} {g:Nat} {org en:Int} {L:List Line} {qs:List (Line×Sl)} {pl:Option Addr} {cl:Nat} (h:PrgB base w g org en L qs [] [] [] pl cl none 0 none 0 none 0) {l:Line} {p:Option Addr} {n c:Nat} (hl:LineAt w p n c l) {p6:Option Addr} {cap6:Nat} (hk6:Kept base (Tag 144) w w6) (hown:w6.ownsRow base 144 5 (.slice p6 (qs.length+1) cap6) (qs.length+1) (qs.flatMap encL++encL (l,(p,n,c)))) :
  PrgB base (w6.setCell ⟨g,1,none⟩ (.slice p6 (qs.length+1) cap6)) g org en (L++[l]) (qs++[(l,(p,n,c))]) [] [] [] p6 cap6 none 0 none 0 none 0∧Kept base MTag w (w6.setCell ⟨g,1,none⟩ (.slice p6 (qs.length+1) cap6)):=by
 have hql:=h.lines.len
 have hb6:w6.heap[g]? = _:=kboxE hk6 h.box (by decide)
 refine⟨⟨?_,⟨?_,?_,?_⟩,World.ownsRow_nil _ _ _ _,World.ownsRow_nil _ _ _ _,World.ownsRow_nil _ _ _ _,(fun b h=>by cases h),h.gb⟩,(hk6.mono (Nat.le_refl _) (fun o ho=>.inr ho)).trans ((kept_box _ hb6 h.gb).mono (Nat.le_refl _) (fun o ho=>.inl ho))⟩
 ·rw[box_set hb6,List.length_append,List.length_singleton,hql]
  simp
 ·rw[List.map_append,h.lines.fst];rfl
 ·have:=own_set (i:=1) (x:=.slice p6 (qs.length+1) cap6) hown hb6 (by decide)
  rw[List.length_append,List.length_append,List.flatMap_append,hql]at *
  simpa using this
 ·intro x hx
  rcases List.mem_append.1 hx with hx|hx
  ·exact⟨(h.lines.texts x hx).1,own_set (ZN (h.lines.texts x hx).2 hk6 (not_tag (by decide))) hb6 (by decide)⟩
  ·rw[List.mem_singleton]at hx
   subst hx
   exact⟨hl.1,own_set (ZN hl.2 hk6 (not_tag (by decide))) hb6 (by decide)⟩
end Rf
namespace Rf
def opsOf (n:Nat):Code→Option (Array Oper)
 |.region id ops _=>if id=n then some ops else none
 |.seq a b=>match opsOf n a with
  |some c=>some c
  |none=>opsOf n b
 |.block _ c=>opsOf n c
 |.loop c=>opsOf n c
 |.scope c=>opsOf n c
 |.cond _ a b=>match opsOf n a with
  |some c=>some c
  |none=>opsOf n b
 |_=>none
theorem mk_arr (l:List Oper):Array.mk l=l.toArray:=rfl
noncomputable def ops24:Array Oper:=((Tryz.f42.body.bind (opsOf 24)).getD #[])
theorem encL_one (x:Line×Sl):∀u∈encL x,u.oneCell'=true:=by
 intro u hu
 simp only[encL,List.mem_cons,List.not_mem_nil,or_false]at hu
 rcases hu with rfl|rfl|rfl|rfl|rfl <;> rfl
theorem news_encL (w:World) (x:Line×Sl) (t:TypeId):∀j u,(encL x)[j]? = some u→(w.alloc (.cells (encL x).toArray t)).drew.cell? ((⟨w.heap.size,0,none⟩:Addr).add j)=some u:=by
 intro j u h
 have hb:=QC (box_new_d w (.cells (encL x).toArray t)) j
 rw[gA]at hb
 have e:(⟨w.heap.size,0,none⟩:Addr).add j=⟨w.heap.size,j,none⟩:=by
  unfold Addr.add
  split
  ·rename_i h0;subst h0;rfl
  ·simp
 rw[e]
 exact hb.trans h
def Left24 (tmps:Array Value) (R:World→Prop) (e:Exit) (a:Act) (w:World):Prop:=match e with
 |.normal=>a.defers=[]∧a.tmps.size=tmps.size∧(∀i,i<122∨131<i→a.tmps[i]? = tmps[i]?)∧R w
 |_=>False
theorem frame24 {t t':Array Value} (hs:t'.size=t.size) (h132:132≤t.size) (h:∀i,i<122∨131<i→t'[i]? = t[i]?):∃x0 x1 x2 x3 x4 x5 x6 x7 x8 x9,t'=(t.toList.take 122++[x0,x1,x2,x3,x4,x5,x6,x7,x8,x9]++t.toList.drop 132).toArray:=by
 refine⟨t'[122]'(by omega),t'[123]'(by omega),t'[124]'(by omega),t'[125]'(by omega),t'[126]'(by omega),t'[127]'(by omega),t'[128]'(by omega),t'[129]'(by omega),t'[130]'(by omega),t'[131]'(by omega),?_⟩
 have hl:(t.toList.take 122).length=122:=by rw[List.length_take,Array.length_toList];omega
 apply Array.ext_getElem?
 intro i
 rw[List.append_assoc]
 refine Eq.trans ?_ List.getElem?_toArray.symm
 by_cases h1:i<122
 ·rw[List.getElem?_append_left (by omega),List.getElem?_take_of_lt h1,Array.getElem?_toList]
  exact h i (.inl h1)
 ·rw[List.getElem?_append_right (by omega),hl]
  by_cases h2:131<i
  ·rw[List.getElem?_append_right (by simp;omega),List.getElem?_drop,Array.getElem?_toList]
   rw[h i (.inr h2)]
   show t[i]? = t[132+(i-122-10)]?
   rw[show 132+(i-122-10)=i by omega]
  ·have hc:i=122∨i=123∨i=124∨i=125∨i=126∨i=127∨i=128∨i=129∨i=130∨i=131:=by omega
   rcases hc with rfl|rfl|rfl|rfl|rfl|rfl|rfl|rfl|rfl|rfl <;> (rw[Array.getElem?_eq_getElem (by omega)];rfl)
end Rf
theorem region24 (B g g8:Nat) (w7:World) (L:List Rf.Line) (qs:List (Rf.Line×Sl)) (pl:Option Addr) (cl:Nat) (org en:Int) (l:Rf.Line) (p:Option Addr) (n c:Nat) (tmps:Array Value) (R:World→Prop)
  (hsz:tmps.size=277) (h5:tmps[5]? = some (.pointer (some ⟨g,0,none⟩))) (h8:tmps[8]? = some (.pointer (some ⟨g8,0,none⟩)))
  (hP:Rf.PrgB B w7 g org en L qs [] [] [] pl cl none 0 none 0 none 0) (hbx:w7.heap[g8]? = some (.cells #[.int .i64 l.no,.string (bstr l.label),.string (bstr l.word),.int .i64 l.form,.slice p n c] 144 (0,0))) (hB:B≤w7.heap.size) (hLn:L.length≤4001)
  (hR:∀w6 p6 cap6,Kept B (Tag 144) ((w7.alloc (.cells #[.int .i64 l.no,.string (bstr l.label),.string (bstr l.word),.int .i64 l.form,.slice p n c] 144)).drew) w6→w6.ownsRow B 144 5 (.slice p6 (qs.length+1) cap6) (qs.length+1) (qs.flatMap Rf.encL++Rf.encL (l,(p,n,c)))→R (w6.setCell ⟨g,1,none⟩ (.slice p6 (qs.length+1) cap6))) :
  (Code.region 24 Rf.ops24 true).wp Tryz.prog (Rf.Left24 tmps R) ⟨tmps,[]⟩ w7:=by
 obtain⟨i0,hi0,hz0,hz1,hz2⟩:=info_parts Rf.info144
 have KB:Hid (∀W6,Kept B (Tag 144) ((w7.alloc (.cells #[.int .i64 l.no,.string (bstr l.label),.string (bstr l.word),.int .i64 l.form,.slice p n c] 144)).drew) W6→W6.cell? ⟨g,1,none⟩=some (.slice pl L.length cl)∧W6.frozen? ⟨g,1,none⟩=false∧g<W6.heap.size):=QB (fun W6 hk=>by
  have hb:=kboxE hk (bbox (QW (QF w7 (.cells #[.int .i64 l.no,.string (bstr l.label),.string (bstr l.word),.int .i64 l.form,.slice p n c] 144))) hP.box) (by decide)
  have k:=QC hb 1
  simp only[gA,gZ,gS]at k
  exact⟨k,ZC hb 1,QD hb⟩)
 have b0:=QC hbx 0
 have b1:=QC hbx 1
 have b2:=QC hbx 2
 have b3:=QC hbx 3
 have b4:=QC hbx 4
 have g1:=QC hP.box 1
 simp only[gA,gZ,gS]at b0 b1 b2 b3 b4 g1
 have hb6l:=QD hbx
 have hgl:=QD hP.box
 have hql:=hP.lines.len
 have Hrow:=QB hP.lines.row
 have HR:=QB hR
 clear hP hbx hR
 have h5':tmps[5]'(by omega)=.pointer (some ⟨g,0,none⟩):=(Array.getElem?_eq_some_iff.1 h5).2
 have h8':tmps[8]'(by omega)=.pointer (some ⟨g8,0,none⟩):=(Array.getElem?_eq_some_iff.1 h8).2
 clear h5 h8
 conv=>arg 2;arg 2;whnf
 rw[Rf.mk_arr]
 go_region_law (refine step_append_own rfl (.tmp 126) (.tmp 128) 106 rfl B 144 i0 (.agg #[.int .i64 0,.string ⟨#[]⟩,.string ⟨#[]⟩,.int .i64 0,.slice none 0 0]) 5 72 Tryz.underlying106 hi0 hz0 hz1 hz2 rfl (by decide) _ _ _ (by simp[Act.eval,Act.put,hsz]) (QO (QA Hrow) (QW (QF w7 _))) ⟨w7.heap.size,0,none⟩ 1 1 (Rf.encL (l,(p,n,c))) (by simp[Act.eval,Act.put,hsz]) rfl (Rf.news_encL _ _ _) (Rf.encL_one _) (by unfold maxLen;omega) (by omega) (by simp;omega) ?_;intro v6 w6 hown6 hk6;obtain⟨p6,cap6,hv6⟩:=Rf.row_shape hown6;subst hv6;have Hown:=QB hown6;have Hk:=QB hk6;clear hown6 hk6;obtain⟨k6,f6,hs6⟩:=QA KB w6 (QA Hk))
 all_goals refine⟨rfl,by simp,fun i hi=>?_,by rw[←hql];exact QA HR w6 p6 cap6 (QA Hk) (QA Hown)⟩
 all_goals repeat rw[Array.getElem?_setIfInBounds_ne (by omega)]
end Go.Proofs.YtegiloiojloaoaaGreatDoor
