/- The contract of (*Plan).Image. -/
import Derived.Test.YtegiloiojloaoaaGreatDoorCSpec
import Derived.Test.YtegiloiojloaoaaGreatDoorCWfS
import Derived.Deep.RegionHeld3
import Derived.Laws.BytesArg
set_option linter.unusedVariables false
set_option linter.unusedSimpArgs false
set_option maxHeartbeats 4000000
set_option maxRecDepth 1000000
namespace Go.Proofs.YtegiloiojloaoaaGreatDoor
open Go.RowKit Go.Shelf Go.Sort Go.Maps
theorem make88 (c:Int) (h0:0≤c) (h1:c≤2^40) (W:World):(Instr.makeSlice 88 (.int .i64 0) (.int .i64 c)).run Tryz.prog W=.ok (.slice (some ⟨W.heap.size,0,none⟩) 0 c.toNat) (W.alloc (.cells (madeCells #[.int .u8 0] c.toNat) 5)):=by
 obtain⟨i,hi,hz0,hz1,hz2⟩:=info_parts Tryz.info5
 have h:=run_make (P:=Tryz.prog) W 88 5 i (.int .u8 0) Tryz.underlying88 hi hz0 .i64 .i64 0 c (by omega) h0 (by rw[hz2];omega) (by omega)
 rw[hz1,Nat.mul_one]at h
 exact h
theorem bytes_new (base b:Nat) (W:World) (n:Nat) (h:n≤2^40) (hb:base≤b) (hx:W.heap[b]? = some (.cells (madeCells #[.int .u8 0] n) 5 (0,0))):Q1 base W (.slice (some ⟨b,0,none⟩) 0 n) []:=
 ⟨by simp,.inr ⟨b,n,_,rfl,hb,hx,Nat.zero_le _,by unfold maxLen;omega,by rw[size_madeCells,Nat.mul_one],by simp⟩⟩
theorem strOf_bytes (bs:Strd.Bs):strOfNums (bs.map fun b=>(b.toNat:Int))=bstr bs:=by
 unfold strOfNums
 have:(bs.map (fun b=>(b.toNat:Int))).map (fun n=>UInt8.ofNat n.toNat)=bs:=by
  rw[List.map_map]
  conv=>rhs;rw[←List.map_id bs]
  exact List.map_congr_left fun b _=>by simp
 rw[this]
theorem conv88 {base:Nat} {W:World} {v:Value} {bs:Strd.Bs} (h:Q1 base W v bs):(convert 88 9 v).run Tryz.prog W=.ok (.string (bstr bs)) W:=by
 rcases h.2 with ⟨rfl,h0⟩|⟨g,cap,cur,rfl,hb,hx,_,_,hsz,htk⟩
 ·have e:=List.eq_nil_of_length_eq_zero h0
  subst e
  exact run_convert_bytes_nil W 88 5 Tryz.underlying88 Tryz.underlying5 0 0 9 Tryz.underlying9
 ·have:=run_convert_bytes_arg (P:=Tryz.prog) W 88 5 Tryz.underlying88 Tryz.underlying5 g 0 bs.length cap (bs.map fun b=>(b.toNat:Int)) (by simp) (fun i hi=>by
   have hc:=QC hx i
   rw[Nat.zero_add,hc]
   have e:cur[i]? = (bs.map encB)[i]?:=by
    rw[←htk,List.getElem?_take,if_pos (by omega)]
    simp
   rw[e]
   simp[gE hi,encB,gD]) 9 Tryz.underlying9
  rw[strOf_bytes]at this
  exact this
structure PlanX (base gp:Nat) (r:Strd.Rd) (fs st:List Int) (p:Option Addr) (cap gm:Nat) (qs:List (Strd.Line×Sl)) (bf cf bs cS:Nat) (w:World):Prop where
 box:w.heap[gp]? = some (.cells #[.int .i64 r.org,.slice p r.lines.length cap,.map (some gm),.slice (some ⟨bf,0,none⟩) r.lines.length cf,.slice (some ⟨bs,0,none⟩) (r.lines.length+1) cS] 67 (0,0))
 lines:ZS base w (.slice p r.lines.length cap) r.lines qs
 labs:Z0 w gm r.lines.length r.lines
 gm:base≤gm
 ints:ZO 92 base w (.slice (some ⟨bf,0,none⟩) r.lines.length cf) fs
 sts:ZO 3 base w (.slice (some ⟨bs,0,none⟩) (r.lines.length+1) cS) st
 gb:base≤gp
 flen:fs.length=r.lines.length
 slen:st.length=r.lines.length+1
theorem PlanX.plan {base gp:Nat} {r:Strd.Rd} {fs st:List Int} {p:Option Addr} {cap gm:Nat} {qs:List (Strd.Line×Sl)} {bf cf bs cS:Nat} {w:World} (h:PlanX base gp r fs st p cap gm qs bf cf bs cS w):PlanAt base w gp r fs st:=
 ⟨⟨p,cap,gm,qs,_,_,h.box,h.lines,h.labs,h.gm,h.ints,h.sts⟩,h.gb,h.flen,h.slen⟩
theorem PlanX.below {base gp:Nat} {r:Strd.Rd} {fs st:List Int} {p:Option Addr} {cap gm:Nat} {qs:List (Strd.Line×Sl)} {bf cf bs cS:Nat} {w w':World} (h:PlanX base gp r fs st p cap gm qs bf cf bs cS w) (hb:Below w.heap.size w w'):PlanX base gp r fs st p cap gm qs bf cf bs cS w':=
 ⟨bbox hb h.box,h.lines.below hb,h.labs.below hb,h.gm,h.ints.below hb,h.sts.below hb,h.gb,h.flen,h.slen⟩
theorem PlanX.tag {base gp:Nat} {r:Strd.Rd} {fs st:List Int} {p:Option Addr} {cap gm:Nat} {qs:List (Strd.Line×Sl)} {bf cf bs cS:Nat} {w w':World} (h:PlanX base gp r fs st p cap gm qs bf cf bs cS w) {B:Nat} (hk:Kept B (Tag 5) w w') (hB:base≤B):PlanX base gp r fs st p cap gm qs bf cf bs cS w':=by
 have hk':Kept base (Tag 5) w w':=hk.mono hB (fun _ h=>h)
 exact⟨kboxE hk' h.box (by decide),h.lines.tag hk' (by decide) (by decide),h.labs.tag hk',h.gm,h.ints.tag hk' (by decide),h.sts.tag hk' (by decide),h.gb,h.flen,h.slen⟩
def Held (gp n bf cf bs cS k:Nat) (f a:Int) (W:World):Prop:=W.cell? ⟨gp,3,none⟩=some (.slice (some ⟨bf,0,none⟩) n cf)∧W.cell? ⟨gp,4,none⟩=some (.slice (some ⟨bs,0,none⟩) (n+1) cS)∧W.cell? ⟨bf,k,none⟩=some (.int .i64 f)∧W.cell? ⟨bs,k,none⟩=some (.int .i64 a)
theorem PlanX.held {base gp:Nat} {r:Strd.Rd} {fs st:List Int} {p:Option Addr} {cap gm:Nat} {qs:List (Strd.Line×Sl)} {bf cf bs cS:Nat} {w:World} (h:PlanX base gp r fs st p cap gm qs bf cf bs cS w) (k:Nat) (hk:k<r.lines.length):Held gp r.lines.length bf cf bs cS k (fs.getD k 0) (st.getD k 0) w:=by
 have h1:k<fs.length:=by rw[h.flen];exact hk
 have h2:k<st.length:=by rw[h.slen];omega
 obtain⟨b1,e1,_,_,c1⟩:=h.ints.at k h1
 obtain⟨b2,e2,_,_,c2⟩:=h.sts.at k h2
 cases e1
 cases e2
 have c3:=QC h.box 3
 have c4:=QC h.box 4
 simp only[gA,gZ,gS]at c3 c4
 refine⟨c3,c4,?_,?_⟩
 ·rw[c1,gD,gE h1];rfl
 ·rw[c2,gD,gE h2];rfl
theorem PlanX.lts {base gp:Nat} {r:Strd.Rd} {fs st:List Int} {p:Option Addr} {cap gm:Nat} {qs:List (Strd.Line×Sl)} {bf cf bs cS:Nat} {w:World} (h:PlanX base gp r fs st p cap gm qs bf cf bs cS w) (k:Nat) (hk:k<r.lines.length):gp<w.heap.size∧bf<w.heap.size∧bs<w.heap.size:=by
 obtain⟨b1,e1,_,l1,_⟩:=h.ints.at k (by rw[h.flen];exact hk)
 obtain⟨b2,e2,_,l2,_⟩:=h.sts.at k (by rw[h.slen];omega)
 cases e1
 cases e2
 exact⟨QD h.box,l1,l2⟩
theorem Image_c (base gp:Nat) (r:Strd.Rd) (fs st:List Int) (w:World) (hP:PlanAt base w gp r fs st) (hW:WfR r) (hQ:∀l∈r.lines,WfQ l) (hst:∀a∈st,0≤a∧a≤2^31) (hend:r.org≤st.getD r.lines.length 0) :
  Calls Tryz.prog 26 #[.pointer (some ⟨gp,0,none⟩)] w fun e w'=>e=.returned (.agg #[.int .i64 r.org,.string (bstr (Strd.image r.lines st r.lines fs st))])∧Below w.heap.size w w':=by
 have HP:=QB hP
 obtain⟨⟨p,cap,gm,qs,vf,vs,hbx,hL,_,_,hf,hs⟩,_,hfl,hsl⟩:=hP
 obtain⟨pf,cf,rfl⟩:=hf.shape
 obtain⟨pS,cS,rfl⟩:=hs.shape
 rw[hfl]at hbx hf
 rw[hsl]at hbx hs
 have hn:=hW.len
 have horg:=hW.org
 have hE:0≤st.getD r.lines.length 0∧st.getD r.lines.length 0≤2^31:=by
  rw[gD,gE (by omega:r.lines.length<st.length)]
  exact hst _ (List.getElem_mem _)
 have c0:=QC hbx 0
 have c1:=QC hbx 1
 simp only[gA,gZ,gS]at c0 c1
 have hlg:=QD hbx
 have HL:=QB hL
 have Hf:=QB hf
 have Hs:=QB hs
 have Hbx:=QB hbx
 have Hst:=QB hst
 generalize hEq:st.getD r.lines.length 0=E at *
 have HE:=QB hEq
 clear hL hf hs hbx hst hEq
 have mk:=make88 (E-r.org) (by omega) (by omega)
 have ew:IntKind.i64.wrap (E-r.org)=E-r.org:=IntWalk.i64_in _ (by omega)
 have hb0:=QF w (.cells #[.int .i64 0,.string ⟨#[]⟩] 23)
 have Hr0:=QB (QH w (.cells #[.int .i64 0,.string ⟨#[]⟩] 23))
 go_enter Tryz.func26,Tryz.ntmps26
 go_upto_region 1 with fail
 have HP0:=QB ((QA HP).below hb0)
 have c0':=(hb0.cell (p:=⟨gp,0,none⟩) hlg).trans c0
 have c1':=(hb0.cell (p:=⟨gp,1,none⟩) hlg).trans c1
 have hlg':gp<(w.alloc (.cells #[.int .i64 0,.string ⟨#[]⟩] 23)).heap.size:=Nat.lt_of_lt_of_le hlg hb0.size
 clear c0 c1
 generalize w.alloc (.cells #[.int .i64 0,.string ⟨#[]⟩] 23)=w0 at *
 go_cut [3] (fun v wc=>Q1 w.heap.size wc v []∧Below w0.heap.size w0 wc)
 case first=>
  go_region_held3 (fun W=>W.cell? ⟨gp,0,none⟩=some (.int .i64 r.org)) (first|go_keep|exact hk1) (first
   |(go_at_call 39;refine(end_c base gp r fs st _ ?_ hW).mono ?_;(first|exact QA HP0|exact(QA HP0).below (QW (Below.refl _ _)));rintro e w1 ⟨rfl,hb1⟩;rw[QA HE];have hB1:Below w0.heap.size w0 w1:=(by first|exact hb1|exact QE (QW (Below.refl _ _)) hb1);have hk1:w1.cell? ⟨gp,0,none⟩=some (.int .i64 r.org):=(hB1.cell (p:=⟨gp,0,none⟩) hlg').trans c0';have hl1:gp<w1.heap.size:=Nat.lt_of_lt_of_le hlg' hB1.size))
  all_goals go_wp2_with fail
  all_goals go_meet
  all_goals exact⟨bytes_new _ _ _ _ (by omega) (Nat.le_trans hb0.size hB1.size) (QH _ _),QE hB1 (QF _ _)⟩
 case rest=>
  obtain⟨hB0,hbc⟩:=hcut
  have HB0:=QB hB0
  have hbw:=QE hb0 hbc
  have HPc:=QB ((QA HP0).below hbc)
  have HLc:=QB ((QA HL).below hbw)
  have Hfc:=QB ((QA Hf).below hbw)
  have Hsc:=QB ((QA Hs).below hbw)
  have hbxc:=bbox hbw (QA Hbx)
  have d1:=QC hbxc 1
  simp only[gA,gZ,gS]at d1
  have hld:=QD hbxc
  have Hbxc:=QB hbxc
  have Hrc:=QB (bbox hbc (QA Hr0))
  clear hB0 hbxc c0' c1' mk ew
  go_wp2_with fail
  go_loopw [3,21] (fun v c wr=>∃k:Nat,k≤r.lines.length∧c=.int .i64 k∧Q1 w.heap.size wr v (Strd.image r.lines st (r.lines.take k) (fs.take k) (st.take k))∧(Strd.image r.lines st (r.lines.take k) (fs.take k) (st.take k)).length≤1024*k∧Kept w.heap.size (Tag 5) wc wr) (fun _ c _=>r.lines.length-(intOf c).toNat)
  case atStart=>exact⟨0,by omega,rfl,QA HB0,by simp[Strd.image],Kept.refl _ _ _⟩
  case round=>
   obtain⟨k,hk,rfl,hB,hBl,hKk⟩:=hrel
   have HB:=QB hB
   have HBl:=QB hBl
   clear hB hBl
   by_cases hlt:k<r.lines.length
   ·have hbb:base≤w.heap.size:=by omega
    have hKb:Kept base (Tag 5) wc wr:=hKk.mono hbb (fun _ h=>h)
    obtain⟨bf,hpf,-,-,-⟩:=(QA Hfc).at k (by omega)
    obtain⟨bs,hps,-,-,-⟩:=(QA Hsc).at k (by omega)
    subst hpf hps
    obtain⟨⟨_,_,_,_,_,_,hbx',hL',hLab',hgm',-,-⟩,-,-,-⟩:=QA HPc
    have hXc:PlanX base gp r fs st p cap gm qs bf cf bs cS wc:=by
     have e:=(QA Hbxc).symm.trans hbx'
     simp only[Option.some.injEq,Obj.cells.injEq,Array.mk.injEq,List.cons.injEq,Value.map.injEq]at e
     obtain⟨⟨_,_,rfl,_⟩,_⟩:=e
     exact⟨QA Hbxc,QA HLc,hLab',hgm',QA Hfc,QA Hsc,by omega,hfl,hsl⟩
    have hXr:=hXc.tag hKk hbb
    obtain⟨b,pq,nq,cq,rfl,-,hb,hOq,hcl⟩:=hXr.lines.at k hlt
    have l0:=hcl 0 _ rfl
    have l1:=hcl 1 _ rfl
    have l2:=hcl 2 _ rfl
    have l3:=hcl 3 _ rfl
    have l4:=hcl 4 _ rfl
    have l5:=hcl 5 _ rfl
    have l6:=hcl 6 _ rfl
    simp only[Nat.add_zero]at l0
    have hWA:=placed_wfA r hW st (QA Hst) _ (List.getElem_mem hlt) (hQ _ (List.getElem_mem hlt))
    have hnz:=hW.names _ (List.getElem_mem hlt)
    have h8:=(hW.ins _ (List.getElem_mem hlt)).le
    have Hstep:=QB (image_take r.lines st r.lines fs st k hlt hfl (by omega))
    have hsmall:=bytes_small _ (fs.getD k 0) (st.getD k 0) hWA
    have hak:0≤st.getD k 0∧st.getD k 0≤2^31:=by
     rw[gD,gE (by omega:k<st.length)]
     exact QA Hst _ (List.getElem_mem _)
    have hheld:=hXr.held k hlt
    obtain⟨hgl,hbfl,hbsl⟩:=hXr.lts k hlt
    generalize hff:fs.getD k 0=f at *
    generalize hfa0:st.getD k 0=a at *
    have Hff:=QB hff
    have Hfa:=QB hfa0
    clear hff hfa0
    generalize r.lines[k]=l at *
    have hb1:=QF wr (.cells #[.string (bstr l.label),.int .i64 l.ins.op.kind,.int .i64 l.ins.op.base,.int .i64 l.ins.op.number,.int .i64 l.ins.op.first,.int .i64 l.ins.op.last,.slice pq nq cq] 99)
    have Hl1:=QB (QH wr (.cells #[.string (bstr l.label),.int .i64 l.ins.op.kind,.int .i64 l.ins.op.base,.int .i64 l.ins.op.number,.int .i64 l.ins.op.first,.int .i64 l.ins.op.last,.slice pq nq cq] 99))
    have hkn:(k:Int)<(r.lines.length:Int):=by omega
    have hkn1:(k:Int)<(r.lines.length:Int)+1:=by omega
    have HXr:=QB hXr
    have HO:=QB hOq
    have HWA:=QB hWA
    have Hnz:=QB hnz
    have Hsmall:=QB hsmall
    have Hak:=QB hak
    have H8:=QB h8
    have Hheld:=QB hheld
    clear hcl hXc hXr hOq hWA hnz hbx' hL' hLab' hsmall hak h8 hheld hkn1
    go_upto_region 5 with fail
    have hheld:=QA Hheld
    have hkn1:(k:Int)<(r.lines.length:Int)+1:=by omega
    have HXa:=QB ((QA HXr).below hb1)
    have HOa:=QB ((QA HO).below hb1)
    have HBa:=QB ((QA HB).below hb1)
    have hKa:Kept w.heap.size (Tag 5) wc _:=hKk.trans (.of_below hb1)
    have hsa:=hb1.size
    clear l0 l1 l2 l3 l4 l5 l6
    generalize wr.alloc (.cells #[.string (bstr l.label),.int .i64 l.ins.op.kind,.int .i64 l.ins.op.base,.int .i64 l.ins.op.number,.int .i64 l.ins.op.first,.int .i64 l.ins.op.last,.slice pq nq cq] 99)=wa at *
    have d1:=QC (QA Hl1) 1
    have d2:=QC (QA Hl1) 2
    have d3:=QC (QA Hl1) 3
    have d4:=QC (QA Hl1) 4
    have d5:=QC (QA Hl1) 5
    have d6:=QC (QA Hl1) 6
    simp only[gA,gZ,gS]at d1 d2 d3 d4 d5 d6
    have hld':=QD (QA Hl1)
    have hwsz:w.heap.size≤wa.heap.size:=Nat.le_trans (Nat.le_trans hbw.size hKk.size) hsa
    have hhelda:Held gp r.lines.length bf cf bs cS k f a wa:=by
     have:=hheld
     obtain⟨x1,x2,x3,x4⟩:=this
     exact⟨(hb1.cell (p:=⟨gp,3,none⟩) hgl).trans x1,(hb1.cell (p:=⟨gp,4,none⟩) hgl).trans x2,(hb1.cell (p:=⟨bf,k,none⟩) hbfl).trans x3,(hb1.cell (p:=⟨bs,k,none⟩) hbsl).trans x4⟩
    obtain⟨x1,x2,x3,x4⟩:=hhelda
    have hga:gp<wa.heap.size:=by omega
    have hfa:bf<wa.heap.size:=by omega
    have hsa':bs<wa.heap.size:=by omega
    clear hheld
    have HXd:=QB ((QA HXa).below (QW (Below.refl wa.heap.size wa)))
    go_region_held3 (fun W=>W.cell? ⟨gp,3,none⟩=some (.slice (some ⟨bf,0,none⟩) r.lines.length cf)∧W.cell? ⟨gp,4,none⟩=some (.slice (some ⟨bs,0,none⟩) (r.lines.length+1) cS)∧W.cell? ⟨bf,k,none⟩=some (.int .i64 f)∧W.cell? ⟨bs,k,none⟩=some (.int .i64 a)∧W.cell? ⟨wr.heap.size,1,none⟩=some (.int .i64 l.ins.op.kind)∧W.cell? ⟨wr.heap.size,2,none⟩=some (.int .i64 l.ins.op.base)∧W.cell? ⟨wr.heap.size,3,none⟩=some (.int .i64 l.ins.op.number)∧W.cell? ⟨wr.heap.size,4,none⟩=some (.int .i64 l.ins.op.first)∧W.cell? ⟨wr.heap.size,5,none⟩=some (.int .i64 l.ins.op.last)∧W.cell? ⟨wr.heap.size,6,none⟩=some (.slice pq nq cq)) (first|go_keep|exact hk3|exact hk4) (first
     |(go_at_call 40;refine(placed_c base gp r fs st l.ins (.slice pq nq cq) _ ?_ ?_ (QA Hnz) (QA H8) hn).mono ?_;(first|exact(QA HXa).plan|exact(QA HXd).plan);(first|exact QA HOa|exact(QA HOa).below (QW (Below.refl _ _)));rintro e w3 ⟨vo,rfl,hO3,hb3⟩;have hB3:Below wa.heap.size wa w3:=(by first|exact hb3|exact QE (QW (Below.refl _ _)) hb3);have hX3:=(QA HXa).below hB3;have hk3:=hX3.held k hlt;rw[QA Hff,QA Hfa]at hk3;obtain⟨y1,y2,y3,y4⟩:=hk3;have hbx3:=bbox hB3 (QA Hl1);have g1:=QC hbx3 1;have g2:=QC hbx3 2;have g3:=QC hbx3 3;have g4:=QC hbx3 4;have g5:=QC hbx3 5;have g6:=QC hbx3 6;simp only[gA,gZ,gS]at g1 g2 g3 g4 g5 g6;have hk3:=And.intro y1 (And.intro y2 (And.intro y3 (And.intro y4 (And.intro g1 (And.intro g2 (And.intro g3 (And.intro g4 (And.intro g5 g6))))))));have HO3:=QB hO3;have HX3:=QB hX3;have hl3:gp<w3.heap.size:=Nat.lt_of_lt_of_le hga hB3.size;have hl3':bf<w3.heap.size:=Nat.lt_of_lt_of_le hfa hB3.size;have hl3'':bs<w3.heap.size:=Nat.lt_of_lt_of_le hsa' hB3.size;clear hO3 hX3)
     |(go_at_call 41;refine(Append_c (Strd.placed r.lines st l.ins) vo u3 f a w3 w.heap.size _ (QA HO3) ((QA HBa).below hB3) (Nat.le_trans hwsz hB3.size) (by have:=QA HBl;omega) (QA HWA) (by have:=QA Hak;omega)).mono ?_;rintro e w4 ⟨v4,rfl,hB4,hk5⟩;have hX4:=(QA HX3).tag hk5 hbb;have hk4:=hX4.held k hlt;rw[QA Hff,QA Hfa]at hk4;obtain⟨z1,z2,z3,z4⟩:=hk4;have hbx4:=kboxE (hk5.mono hbb (fun _ h=>h)) hbx3 (by decide);have j1:=QC hbx4 1;have j2:=QC hbx4 2;have j3:=QC hbx4 3;have j4:=QC hbx4 4;have j5:=QC hbx4 5;have j6:=QC hbx4 6;simp only[gA,gZ,gS]at j1 j2 j3 j4 j5 j6;have hk4:=And.intro z1 (And.intro z2 (And.intro z3 (And.intro z4 (And.intro j1 (And.intro j2 (And.intro j3 (And.intro j4 (And.intro j5 j6))))))));have HB4:=QB hB4;clear hB4 hX4))
    have hk4w:Kept w.heap.size (Tag 5) wc w4:=(hKa.trans (.of_below hB3)).trans hk5
    have HB5:Hid (Q1 w.heap.size w4 v4 (Strd.image r.lines st (r.lines.take (k+1)) (fs.take (k+1)) (st.take (k+1)))∧(Strd.image r.lines st (r.lines.take (k+1)) (fs.take (k+1)) (st.take (k+1))).length≤1024*(k+1)):=QB (by
     rw[QA Hstep]
     refine⟨QA HB4,?_⟩
     rw[List.length_append]
     have:=QA HBl
     have:=QA Hsmall
     omega)
    go_wp2_with fail
    go_roundw
    case rel=>exact⟨k+1,by omega,by go_num,(QA HB5).1,(QA HB5).2,hk4w⟩
    case measure=>simp[intOf];omega
   ·obtain rfl:k=r.lines.length:=by omega
    have hB:=QA HB
    rw[List.take_length,List.take_of_length_le (by omega),image_cut _ _ _ _ _ hfl]at hB
    have cv:=conv88 (W:=wr.drew) hB
    have hbb:base≤w.heap.size:=by omega
    have hKb:Kept base (Tag 5) wc wr:=hKk.mono hbb (fun _ h=>h)
    have hbx5:=kboxE hKb (QA Hbxc) (by decide)
    have z0:wr.drew.cell? ⟨gp,0,none⟩=some (.int .i64 r.org):=by
     show wr.cell? ⟨gp,0,none⟩=_
     have:=QC hbx5 0
     simpa only[gA,gZ] using this
    have hgl:=QD hbx5
    have hr5:=kboxE hKb (QA Hrc) (by decide)
    have Hr5:=QB hr5
    have hfin:Below w.heap.size w wr:=by
     have h1:=hKk.below (base:=w.heap.size) hbw.size
     exact hbw.trans h1
    generalize hI:Strd.image r.lines st r.lines fs st=I at *
    have HI:=QB hI
    clear hI
    have r0:=QC hr5 0
    have r1:=QC hr5 1
    simp only[gA,gZ,gS]at r0 r1
    have g0:=ZC hr5 0
    have g1:=ZC hr5 1
    have hlr:=QD hr5
    clear hB hbx5 hr5 HB HBl
    go_upto_region 7 with fail
    go_region
    all_goals go_wp2_with fail
    all_goals refine bodyPost_ret (v:=.agg #[.int .i64 r.org,.string (bstr I)]) (by exact results_cell1 Tryz.results26 _ _ w.heap.size 23 _ _ _ rfl (by exact box_two (QA Hr5)) Tryz.underlying23 rfl (by kernel_rfl)) rfl ?_
    all_goals exact⟨by rw[QA HI],(below_two hfin (Nat.le_refl _) _ _).drew⟩
theorem kbox2 {base:Nat} {W w1:World} {b:Nat} {cs:Array Value} {t:TypeId} (hk:Kept base Tag2 W w1) (hb:W.heap[b]? = some (.cells cs t (0,0))) (h3:t≠3) (h92:t≠92):w1.heap[b]? = some (.cells cs t (0,0)):=by
 rw[hk.block b (QD hb) (.inr fun o ho hd=>by
  rw[hb]at ho
  cases ho
  rcases hd with ⟨_,_,h⟩|⟨_,_,h⟩
  ·cases h;exact h3 rfl
  ·cases h;exact h92 rfl)]
 exact hb
theorem ProgAt.below {base:Nat} {w w':World} {cs:Array Value} {r:Strd.Rd} (h:ProgAt base w cs r) (hb:Below w.heap.size w w'):ProgAt base w' cs r:=by
 obtain⟨p,cap,gm,qs,e,h1,h2,h3⟩:=h
 exact⟨p,cap,gm,qs,e,h1.below hb,h2.below hb,h3⟩
theorem planval_row {base g:Nat} {w:World} {cur cs:Array Value} {r:Strd.Rd} {fs st:List Int} {p:Option Addr} {cap gm:Nat} {qs:List (Strd.Line×Sl)} {vf vs:Value} (hg:w.heap[g]? = some (.cells cur 67 (0,0)))
  (hL:ZS base w (.slice p r.lines.length cap) r.lines qs) (hLab:Z0 w gm r.lines.length r.lines) (hgm:base≤gm) (hf:ZO 92 base w vf fs) (hs:ZO 3 base w vs st) (h8:fs.length=r.lines.length) (h9:st.length=r.lines.length+1) :
  PlanVal base (w.setRow g cs) #[.int .i64 r.org,.slice p r.lines.length cap,.map (some gm),vf,vs] r fs st:=
 ⟨p,cap,gm,qs,_,_,rfl,⟨hL.fst,ZP hL.row hg (by decide),fun x hx=>ZP (hL.oprs x hx) hg (by decide)⟩,hLab.block (setRow_other w g gm _ (hLab.ne hg)),hgm,ZP hf hg (by decide),ZP hs hg (by decide),h8,h9⟩
theorem Make_c (base:Nat) (r:Strd.Rd) (cs:Array Value) (w:World) (hP:ProgAt base w cs r) (hW:WfR r) (hbw:base≤w.heap.size) :
  Calls Tryz.prog 38 #[.agg cs] w fun e w'=>∃ps,e=.returned (.tuple #[.agg ps,.int .i64 (Strd.lay r.org r.lines).2.1,.int .i64 (Strd.lay r.org r.lines).2.2])∧((∃o p n c m p2 n2 c2 p3 n3 c3,ps=#[Value.int .i64 o,.slice p n c,.map m,.slice p2 n2 c2,.slice p3 n3 c3]))∧((Strd.lay r.org r.lines).2.2=0→PlanVal base w' ps r (Strd.lay r.org r.lines).1.1 (Strd.lay r.org r.lines).1.2)∧Kept base Tag2 w w':=by
 have HP:=QB hP
 obtain⟨p,cap,gm,qs,rfl,_,_,_⟩:=hP
 generalize hX:Strd.lay r.org r.lines=X
 unfold Strd.lay at hX
 simp only at hX
 have hn:=hW.len
 have HX:=QB hX
 have HW:=QB hW
 clear hX hW
 have hb1:=QF w (.cells #[.int .i64 r.org,.slice p r.lines.length cap,.map (some gm)] 64)
 have Hx1:=QB (QH w (.cells #[.int .i64 r.org,.slice p r.lines.length cap,.map (some gm)] 64))
 go_enter Tryz.func38,Tryz.ntmps38
 have hb2:=QF (w.alloc (.cells #[.int .i64 r.org,.slice p r.lines.length cap,.map (some gm)] 64)) (.cells #[.int .i64 0,.slice none 0 0,.map none,.slice none 0 0,.slice none 0 0] 67)
 have Hx2:=QB (QH (w.alloc (.cells #[.int .i64 r.org,.slice p r.lines.length cap,.map (some gm)] 64)) (.cells #[.int .i64 0,.slice none 0 0,.map none,.slice none 0 0,.slice none 0 0] 67))
 have Hx1':=QB (bbox hb2 (QA Hx1))
 have hB2:=QE hb1 hb2
 rw[show (w.alloc (.cells #[.int .i64 r.org,.slice p r.lines.length cap,.map (some gm)] 64)).heap.size=w.heap.size+1 by simp]at Hx2
 go_upto_region 1 with fail
 clear hb1 hb2 Hx1
 generalize (w.alloc (.cells #[.int .i64 r.org,.slice p r.lines.length cap,.map (some gm)] 64)).alloc (.cells #[.int .i64 0,.slice none 0 0,.map none,.slice none 0 0,.slice none 0 0] 67)=w0 at *
 have x0:=QC (QA Hx1') 0
 have x1:=QC (QA Hx1') 1
 have x2:=QC (QA Hx1') 2
 simp only[gA,gZ,gS]at x0 x1 x2
 have hlx:=QD (QA Hx1')
 have HP0:=QB ((QA HP).below hB2)
 go_wp2_with fail
 refine(firstUnknown_c base r _ w0 (QA HP0) hn (QA HW).names (fun l hl=>((QA HW).ins l hl).le)).mono ?_
 rintro e w1 ⟨rfl,hb1⟩
 generalize hU:Strd.firstUnknown r.lines=U
 rw[hU]at HX
 have Hx3:=QB (bbox hb1 (QA Hx2))
 have hBw1:=QE hB2 hb1
 by_cases hU0:0<U
 ·have hUi:(0:Int)<(U:Int):=by omega
  have Hfin:Hid (X=(([],[]),U,2)):=QB (by rw[←QA HX,if_pos hU0])
  clear hU
  go_wp2_with (refine wpList_store_row rfl 67 (.tmp 2) (.tmp 13) rfl (w.heap.size+1) #[.int .i64 0,.slice none 0 0,.map none,.slice none 0 0,.slice none 0 0] rfl rfl 67 #[.int .i64 0,.slice none 0 0,.map none,.slice none 0 0,.slice none 0 0] (by exact QA Hx3) (by kernel_rfl) rfl (plan_one _ _ _ _ _ _ _ _ _ _ _) ?_)
  refine bodyPost_ret (v:=.tuple #[.agg #[.int .i64 0,.slice none 0 0,.map none,.slice none 0 0,.slice none 0 0],.int .i64 (U:Int),.int .i64 2]) (by exact Q6 Tryz.results38 _ _ (w.heap.size+1) 67 _ _ _ rfl (by exact ZJ (QA Hx3)) Tryz.underlying67 rfl (by kernel_rfl)) rfl ?_
  exact⟨_,by rw[QA Hfin],⟨_,_,_,_,_,_,_,_,_,_,_,rfl⟩,fun h=>(by rw[QA Hfin]at h;cases h),(Kept.of_below hBw1).row (by omega) _⟩
 ·obtain rfl:U=0:=by omega
  clear hU
  have hbx1:=bbox hb1 (QA Hx1')
  have y0:=QC hbx1 0
  have y1:=QC hbx1 1
  have y2:=QC hbx1 2
  simp only[gA,gZ,gS]at y0 y1 y2
  have hly:=QD hbx1
  have HP1:=QB ((QA HP0).below hb1)
  clear x0 x1 x2 hbx1
  go_wp2_with fail
  refine(shortest_c base r _ w1 (QA HP1) (QA HW) (Nat.le_trans hbw hBw1.size)).mono ?_
  rintro e w2 ⟨ps,rfl,hpv,hk2⟩
  obtain⟨p',cap',gm',qs',vf,vs,rfl,hL',hLab',hgm',hf,hs,h8,h9⟩:=hpv
  obtain⟨pf,cf,rfl⟩:=hf.shape
  obtain⟨pS,cS,rfl⟩:=hs.shape
  simp only[h8,List.length_replicate]at hf hs
  rw[h8,List.length_replicate]
  have hba:=QF w2 (.cells #[.int .i64 r.org,.slice p' r.lines.length cap',.map (some gm'),.slice pf r.lines.length cf,.slice pS (r.lines.length+1) cS] 67)
  have hbg:=QH w2 (.cells #[.int .i64 r.org,.slice p' r.lines.length cap',.map (some gm'),.slice pf r.lines.length cf,.slice pS (r.lines.length+1) cS] 67)
  have hbw2:base≤w2.heap.size:=Nat.le_trans (Nat.le_trans hbw hBw1.size) hk2.size
  have HPa:Hid (PlanAt base (w2.alloc (.cells #[.int .i64 r.org,.slice p' r.lines.length cap',.map (some gm'),.slice pf r.lines.length cf,.slice pS (r.lines.length+1) cS] 67)) w2.heap.size r (Strd.Q5 r.lines) (List.replicate (r.lines.length+1) 0)):=
   QB ⟨⟨p',cap',gm',qs',_,_,hbg,hL'.below hba,hLab'.below hba,hgm',hf.below hba,hs.below hba⟩,hbw2,h8,h9⟩
  have hkw:Kept base Tag2 w (w2.alloc (.cells #[.int .i64 r.org,.slice p' r.lines.length cap',.map (some gm'),.slice pf r.lines.length cf,.slice pS (r.lines.length+1) cS] 67)):=((Kept.of_below hBw1).trans (hk2.mono (Nat.le_refl _) fun o h=>.inr h)).trans (.of_below hba)
  have Hx4:=QB (bbox hba (kboxE hk2 (QA Hx3) (by decide)))
  have hwa:base≤(w2.alloc (.cells #[.int .i64 r.org,.slice p' r.lines.length cap',.map (some gm'),.slice pf r.lines.length cf,.slice pS (r.lines.length+1) cS] 67)).heap.size:=Nat.le_trans hbw2 hba.size
  clear hL' hLab' hf hs hbg hk2 HP1 HP0 Hx3 y0 y1 y2 h8 h9 hbw2
  go_upto_region 5 with fail
  generalize w2.alloc (.cells #[.int .i64 r.org,.slice p' r.lines.length cap',.map (some gm'),.slice pf r.lines.length cf,.slice pS (r.lines.length+1) cS] 67)=w3 at *
  clear hba
  generalize w2.heap.size=g at *
  go_wp2_with fail
  refine(settle_c base g r _ _ w3 (2*r.lines.length+1) (QA HPa) (QA HW) hwa (fun f hf=>?_) (by have:=first_pot r.lines (fun l hl=>by have:=(QA HW).forms l hl;omega);unfold Strd.Q5;omega)).mono ?_
  ·unfold Strd.Q5 at hf
   obtain⟨l,hl,rfl⟩:=List.mem_map.1 hf
   have:=(QA HW).forms l hl;omega
  rintro e w4 ⟨rfl,hP4,hk4⟩
  have HXl:Hid (Strd.settle r.org r.lines (2*r.lines.length+1) (Strd.Q5 r.lines)=Strd.QJ r.org r.lines):=QB rfl
  rw[QA HXl]at hP4
  have hX2:=QA HX
  rw[if_neg (by omega)]at hX2
  have hfl:(Strd.QJ r.org r.lines).length=r.lines.length:=by unfold Strd.QJ;exact settle_len _ _ _ _ (by simp[Strd.Q5])
  have hsm:∀a∈Strd.starts r.org r.lines (Strd.QJ r.org r.lines),-2^40≤a∧a≤2^40:=starts_mem r (QA HW) _ hfl
  have hsl:(Strd.starts r.org r.lines (Strd.QJ r.org r.lines)).length=r.lines.length+1:=starts_len _ _ _ hfl
  have hend:=starts_small r (QA HW) (Strd.QJ r.org r.lines) hfl r.lines.length (Nat.le_refl _)
  generalize Strd.QJ r.org r.lines=fs at *
  generalize Strd.starts r.org r.lines fs=st at *
  have hmi:=firstMiss_idx r fs st hfl (by omega)
  have hoi:=firstOver_idx r st
  have HX3:=QB hX2
  have Hsm:=QB hsm
  have HP4:=QB hP4
  have hk4w:=hkw.trans hk4
  have Hx5:=QB (kbox2 hk4 (QA Hx4) (by decide) (by decide))
  clear hX2 hsm hP4 HX HXl Hx4 hkw HPa hk4
  have hold1:∀k W,k<r.lines.length→Below w4.heap.size w4 W→Calls Tryz.prog 63 #[.pointer (some ⟨g,0,none⟩),.int .i64 (k:Int)] W fun e w'=>e=.returned (.bool (missK r fs st k))∧Below W.heap.size W w':=fun k W hk hb=>by
   have:=misses_c base g r fs st k W ((QA HP4).below hb) (QA HW) (QA Hsm) hk
   unfold missK
   rw[dif_pos hk]
   exact this
  have hold2:∀k W,k<r.lines.length→Below w4.heap.size w4 W→Calls Tryz.prog 64 #[.pointer (some ⟨g,0,none⟩),.int .i64 (k:Int)] W fun e w'=>e=.returned (.bool (overK r st k))∧Below W.heap.size W w':=fun k W hk hb=>by
   have:=overflows_c base g r fs st k W ((QA HP4).below hb) (QA HW) (QA Hsm) hk
   unfold overK
   rw[dif_pos hk]
   exact this
  have H1:=QB hold1
  have H2:=QB hold2
  have Hmi:=QB hmi
  have Hoi:=QB hoi
  clear hold1 hold2 hmi hoi
  go_wp2_with fail
  refine(firstThat_63 base g r fs st (missK r fs st) w4 (QA HP4) (QA HW) (QA H1)).mono ?_
  rintro e w5 ⟨rfl,hb5⟩
  rw[QA Hmi]
  clear Hmi H1
  generalize hM:Strd.firstMiss r.lines st 0 r.lines fs st=M at *
  have Hx6:=QB (bbox hb5 (QA Hx5))
  have hk5w:=hk4w.trans (.of_below hb5)
  by_cases hM0:0<M
  ·have hMi:(0:Int)<(M:Int):=by omega
   have Hfin:Hid (X=(([],[]),M,6)):=QB (by rw[←QA HX3,if_pos hM0])
   clear hM
   go_wp2_with (refine wpList_store_row rfl 67 (.tmp 2) (.tmp 22) rfl (w.heap.size+1) #[.int .i64 0,.slice none 0 0,.map none,.slice none 0 0,.slice none 0 0] rfl rfl 67 #[.int .i64 0,.slice none 0 0,.map none,.slice none 0 0,.slice none 0 0] (by exact QA Hx6) (by kernel_rfl) rfl (plan_one _ _ _ _ _ _ _ _ _ _ _) ?_)
   refine bodyPost_ret (v:=.tuple #[.agg #[.int .i64 0,.slice none 0 0,.map none,.slice none 0 0,.slice none 0 0],.int .i64 (M:Int),.int .i64 6]) (by exact Q6 Tryz.results38 _ _ (w.heap.size+1) 67 _ _ _ rfl (by exact ZJ (QA Hx6)) Tryz.underlying67 rfl (by kernel_rfl)) rfl ?_
   exact⟨_,by rw[QA Hfin],⟨_,_,_,_,_,_,_,_,_,_,_,rfl⟩,fun h=>(by rw[QA Hfin]at h;cases h),hk5w.row (by omega) _⟩
  ·obtain rfl:M=0:=by omega
   clear hM
   have HP5:=QB ((QA HP4).below hb5)
   go_wp2_with fail
   refine(firstThat_64 base g r fs st (overK r st) w5 (QA HP5) (QA HW) (fun k W hk hb=>QA H2 k W hk (QE hb5 hb))).mono ?_
   rintro e w6 ⟨rfl,hb6⟩
   rw[QA Hoi]
   clear Hoi H2
   generalize hO:Strd.firstOver r.lines st=O at *
   have Hx7:=QB (bbox hb6 (QA Hx6))
   have hk6w:=hk5w.trans (.of_below hb6)
   by_cases hO0:0<O
   ·have hOi:(0:Int)<(O:Int):=by omega
    have Hfin:Hid (X=(([],[]),O,4)):=QB (by rw[←QA HX3,if_neg (by omega),if_pos hO0])
    clear hO
    go_wp2_with (refine wpList_store_row rfl 67 (.tmp 2) (.tmp 28) rfl (w.heap.size+1) #[.int .i64 0,.slice none 0 0,.map none,.slice none 0 0,.slice none 0 0] rfl rfl 67 #[.int .i64 0,.slice none 0 0,.map none,.slice none 0 0,.slice none 0 0] (by exact QA Hx7) (by kernel_rfl) rfl (plan_one _ _ _ _ _ _ _ _ _ _ _) ?_)
    refine bodyPost_ret (v:=.tuple #[.agg #[.int .i64 0,.slice none 0 0,.map none,.slice none 0 0,.slice none 0 0],.int .i64 (O:Int),.int .i64 4]) (by exact Q6 Tryz.results38 _ _ (w.heap.size+1) 67 _ _ _ rfl (by exact ZJ (QA Hx7)) Tryz.underlying67 rfl (by kernel_rfl)) rfl ?_
    exact⟨_,by rw[QA Hfin],⟨_,_,_,_,_,_,_,_,_,_,_,rfl⟩,fun h=>(by rw[QA Hfin]at h;cases h),hk6w.row (by omega) _⟩
   ·obtain rfl:O=0:=by omega
    clear hO
    have HP6:=QB ((QA HP5).below hb6)
    go_wp2_with fail
    refine(end_c base g r fs st w6 (QA HP6) (QA HW)).mono ?_
    rintro e w7 ⟨rfl,hb7⟩
    have Hx8:=QB (bbox hb7 (QA Hx7))
    have hk7w:=hk6w.trans (.of_below hb7)
    have HP7:=QB ((QA HP6).below hb7)
    generalize hE:st.getD r.lines.length 0=E at *
    have ew:IntKind.i64.wrap (E-1)=E-1:=IntWalk.i64_in _ (by omega)
    by_cases hE0:E-1 > 16777214
    ·have Hfin:Hid (X=(([],[]),0,7)):=QB (by rw[←QA HX3,if_neg (by omega),if_neg (by omega),if_pos hE0])
     have hE1:16777214<E-1:=hE0
     clear hE
     go_wp2_with (refine wpList_store_row rfl 67 (.tmp 2) (.tmp 33) rfl (w.heap.size+1) #[.int .i64 0,.slice none 0 0,.map none,.slice none 0 0,.slice none 0 0] rfl rfl 67 #[.int .i64 0,.slice none 0 0,.map none,.slice none 0 0,.slice none 0 0] (by exact QA Hx8) (by kernel_rfl) rfl (plan_one _ _ _ _ _ _ _ _ _ _ _) ?_)
     refine bodyPost_ret (v:=.tuple #[.agg #[.int .i64 0,.slice none 0 0,.map none,.slice none 0 0,.slice none 0 0],.int .i64 0,.int .i64 7]) (by exact Q6 Tryz.results38 _ _ (w.heap.size+1) 67 _ _ _ rfl (by exact ZJ (QA Hx8)) Tryz.underlying67 rfl (by kernel_rfl)) rfl ?_
     exact⟨_,by rw[QA Hfin];rfl,⟨_,_,_,_,_,_,_,_,_,_,_,rfl⟩,fun h=>(by rw[QA Hfin]at h;cases h),hk7w.row (by omega) _⟩
    ·have Hfin:Hid (X=((fs,st),0,0)):=QB (by rw[←QA HX3,if_neg (by omega),if_neg (by omega),if_neg hE0])
     have hE1:E-1≤16777214:=by omega
     obtain⟨⟨p7,cap7,gm7,qs7,vf7,vs7,hbx,hL7,hLab7,hgm7,hf7,hs7⟩,_,h8,h9⟩:=QA HP7
     obtain⟨pf7,cf7,rfl⟩:=hf7.shape
     obtain⟨pS7,cS7,rfl⟩:=hs7.shape
     rw[h8]at hf7 hbx
     rw[h9]at hs7 hbx
     have z0:=QC hbx 0
     have z1:=QC hbx 1
     have z2:=QC hbx 2
     have z3:=QC hbx 3
     have z4:=QC hbx 4
     simp only[gA,gZ,gS]at z0 z1 z2 z3 z4
     have hlz:=QD hbx
     have HL7:=QB hL7
     have HLab7:=QB hLab7
     have Hf7:=QB hf7
     have Hs7:=QB hs7
     have H8:=QB h8
     have H9:=QB h9
     clear hE hL7 hLab7 hf7 hs7 hbx h8 h9 hfl hsl
     go_wp2_with (refine wpList_store_row rfl 67 (.tmp 2) (.tmp 34) rfl (w.heap.size+1) #[.int .i64 r.org,.slice p7 r.lines.length cap7,.map (some gm7),.slice pf7 r.lines.length cf7,.slice pS7 (r.lines.length+1) cS7] rfl rfl 67 #[.int .i64 0,.slice none 0 0,.map none,.slice none 0 0,.slice none 0 0] (by exact QA Hx8) (by kernel_rfl) rfl (plan_one _ _ _ _ _ _ _ _ _ _ _) ?_)
     refine bodyPost_ret (v:=.tuple #[.agg #[.int .i64 r.org,.slice p7 r.lines.length cap7,.map (some gm7),.slice pf7 r.lines.length cf7,.slice pS7 (r.lines.length+1) cS7],.int .i64 0,.int .i64 0]) (by exact Q6 Tryz.results38 _ _ (w.heap.size+1) 67 _ _ _ rfl (by exact ZJ (QA Hx8)) Tryz.underlying67 rfl (by kernel_rfl)) rfl ?_
     refine⟨_,by rw[QA Hfin];rfl,⟨_,_,_,_,_,_,_,_,_,_,_,rfl⟩,fun _=>?_,hk7w.row (by omega) _⟩
     rw[QA Hfin]
     exact planval_row (QA Hx8) (QA HL7) (QA HLab7) hgm7 (QA Hf7) (QA Hs7) (QA H8) (QA H9)
theorem PlanVal.kept {base:Nat} {w:World} {ps:Array Value} {r:Strd.Rd} {fs st:List Int} (h:PlanVal base w ps r fs st) {g:Nat} {cur cs:Array Value} (hg:w.heap[g]? = some (.cells cur 67 (0,0))):PlanVal base (w.setRow g cs) ps r fs st:=by
 obtain⟨p,cap,gm,qs,vf,vs,rfl,h1,h2,h3,h4,h5,h6,h7⟩:=h
 exact planval_row hg h1 h2 h3 h4 h5 h6 h7
def ZM (s:Strd.Bs):(List Int×List Int)×Nat×Int:=if (Strd.QM s).2.2≠0 then (([],[]),(Strd.QM s).2.1,(Strd.QM s).2.2) else Strd.lay (Strd.QM s).1.org (Strd.QM s).1.lines
theorem layOut_c (s:ByteArray) (w:World) (hs:s.size≤2^20) (h11:11≤w.heap.size) (hT:Tabs w) :
  Calls Tryz.prog 25 #[.string s] w fun e w'=>∃ps,e=.returned (.tuple #[.agg ps,.int .i64 (ZM s.data.toList).2.1,.int .i64 (ZM s.data.toList).2.2])∧(∃o p n c m p2 n2 c2 p3 n3 c3,ps=#[Value.int .i64 o,.slice p n c,.map m,.slice p2 n2 c2,.slice p3 n3 c3])∧((ZM s.data.toList).2.2=0→∃base,w.heap.size≤base∧base≤w'.heap.size∧PlanVal base w' ps (Strd.QM s.data.toList).1 (ZM s.data.toList).1.1 (ZM s.data.toList).1.2)∧Below w.heap.size w w':=by
 generalize hY:ZM s.data.toList=Y
 unfold ZM at hY
 have hWr:=source_wfR s.data.toList
 have HY:=QB hY
 have HT:=QB hT
 clear hY hT
 have hb0:=QF w (.cells #[.int .i64 0,.slice none 0 0,.map none,.slice none 0 0,.slice none 0 0] 67)
 have Hx0:=QB (QH w (.cells #[.int .i64 0,.slice none 0 0,.map none,.slice none 0 0,.slice none 0 0] 67))
 go_enter Tryz.func25,Tryz.ntmps25
 go_upto_region 1 with fail
 have HT0:=QB ((QA HT).below hb0)
 have h12:11≤(w.alloc (.cells #[.int .i64 0,.slice none 0 0,.map none,.slice none 0 0,.slice none 0 0] 67)).heap.size:=Nat.le_trans h11 hb0.size
 generalize w.alloc (.cells #[.int .i64 0,.slice none 0 0,.map none,.slice none 0 0,.slice none 0 0] 67)=w0 at *
 go_wp2_with fail
 refine(Source_c s w0 hs h12 (QA HT0)).mono ?_
 rintro e w1 ⟨cs,rfl,⟨o,p,n,c,m,rfl⟩,hPc,hb1⟩
 generalize hR:Strd.QM s.data.toList=R at *
 obtain⟨r,ln,er⟩:=R
 have HR:=QB hR
 clear hR
 simp only at hPc hWr HY ⊢
 have hb2:=QF w1 (.cells #[.int .i64 o,.slice p n c,.map m] 64)
 have Hy:=QB (QH w1 (.cells #[.int .i64 o,.slice p n c,.map m] 64))
 have Hx2:=QB (bbox hb2 (bbox hb1 (QA Hx0)))
 have hB2:=QE hb0 (QE hb1 hb2)
 have HPc:=QB (fun h=>(hPc h).below hb2)
 have hb02:=QE hb1 hb2
 clear hPc
 go_upto_region 2 with fail
 generalize w1.alloc (.cells #[.int .i64 o,.slice p n c,.map m] 64)=w2 at *
 generalize w1.heap.size=g at *
 clear hb1 hb2
 by_cases her:er=0
 ·subst her
  have HYl:Hid (Y=Strd.lay r.org r.lines):=QB (by rw[←QA HY,if_neg (by simp)])
  have hP:=QA HPc rfl
  have y0:=QC (QA Hy) 0
  have y1:=QC (QA Hy) 1
  have y2:=QC (QA Hy) 2
  simp only[gA,gZ,gS]at y0 y1 y2
  have hly:=QD (QA Hy)
  have HP:=QB hP
  clear hP HPc
  go_wp2_with fail
  refine(Make_c w0.heap.size r _ w2 (QA HP) hWr hb02.size).mono ?_
  rintro e w3 ⟨ps,rfl,⟨o3,p3,n3,c3,m3,p4,n4,c4,p5,n5,c5,rfl⟩,hpv,hk3⟩
  have Hx3:=QB (kbox2 hk3 (QA Hx2) (by decide) (by decide))
  have Hpv:=QB hpv
  have hB3:Below w.heap.size w w3:=by
   have h1:=hk3.below hb02.size
   exact hB2.trans ⟨h1.os,h1.tape,h1.output,h1.size,fun k hk=>h1.block k (by have:=hb0.size;omega)⟩
  have hsz:=hk3.size
  clear hpv y0 y1 y2
  generalize Strd.lay r.org r.lines=Z at *
  obtain⟨⟨zf,zs⟩,zl,ze⟩:=Z
  simp only at Hpv ⊢
  go_wp2_with (refine wpList_store_row rfl 67 (.tmp 2) (.tmp 21) rfl w.heap.size #[.int .i64 o3,.slice p3 n3 c3,.map m3,.slice p4 n4 c4,.slice p5 n5 c5] rfl rfl 67 #[.int .i64 0,.slice none 0 0,.map none,.slice none 0 0,.slice none 0 0] (by exact QA Hx3) (by kernel_rfl) rfl (plan_one _ _ _ _ _ _ _ _ _ _ _) ?_)
  refine bodyPost_ret (v:=.tuple #[.agg #[.int .i64 o3,.slice p3 n3 c3,.map m3,.slice p4 n4 c4,.slice p5 n5 c5],.int .i64 (zl:Int),.int .i64 ze]) (by exact Q6 Tryz.results25 _ _ w.heap.size 67 _ _ _ rfl (by exact ZJ (QA Hx3)) Tryz.underlying67 rfl (by kernel_rfl)) rfl ?_
  refine⟨_,by rw[QA HYl],⟨_,_,_,_,_,_,_,_,_,_,_,rfl⟩,fun h=>?_,QT hB3 (Nat.le_refl _) _⟩
  rw[QA HYl]at h
  rw[QA HYl,QA HR]
  exact⟨w0.heap.size,hb0.size,Nat.le_trans hb02.size (Nat.le_trans hsz (by simp[World.setRow])),(QA Hpv h).kept (QA Hx3)⟩
 ·have HYl:Hid (Y=(([],[]),ln,er)):=QB (by rw[←QA HY,if_pos her])
  go_wp2_with (refine wpList_store_row rfl 67 (.tmp 2) (.tmp 16) rfl w.heap.size #[.int .i64 0,.slice none 0 0,.map none,.slice none 0 0,.slice none 0 0] rfl rfl 67 #[.int .i64 0,.slice none 0 0,.map none,.slice none 0 0,.slice none 0 0] (by exact QA Hx2) (by kernel_rfl) rfl (plan_one _ _ _ _ _ _ _ _ _ _ _) ?_)
  refine bodyPost_ret (v:=.tuple #[.agg #[.int .i64 0,.slice none 0 0,.map none,.slice none 0 0,.slice none 0 0],.int .i64 (ln:Int),.int .i64 er]) (by exact Q6 Tryz.results25 _ _ w.heap.size 67 _ _ _ rfl (by exact ZJ (QA Hx2)) Tryz.underlying67 rfl (by kernel_rfl)) rfl ?_
  exact⟨_,by rw[QA HYl],⟨_,_,_,_,_,_,_,_,_,_,_,rfl⟩,fun h=>absurd (by rw[QA HYl]at h;exact h) her,QT hB2 (Nat.le_refl _) _⟩
theorem img_one (o:Int) (s:ByteArray):(#[Value.int .i64 o,.string s]).all (·.oneCell')=true:=by simp[Value.oneCell']
theorem lay_ok (org:Int) (lines:List Strd.Line) (h:(Strd.lay org lines).2.2=0):(Strd.lay org lines)=((Strd.QJ org lines,Strd.starts org lines (Strd.QJ org lines)),0,0):=by
 unfold Strd.lay at h ⊢
 simp only at h ⊢
 split
 ·rename_i h1;rw[if_pos h1]at h;cases h
 ·rename_i h1
  rw[if_neg h1]at h
  split
  ·rename_i h2;rw[if_pos h2]at h;cases h
  ·rename_i h2
   rw[if_neg h2]at h
   split
   ·rename_i h3;rw[if_pos h3]at h;cases h
   ·rename_i h3
    rw[if_neg h3]at h
    split
    ·rename_i h4;rw[if_pos h4]at h;cases h
    ·rfl
theorem asm_eq (s:Strd.Bs):Strd.assemble s=if (ZM s).2.2≠0 then ((0,[]),(ZM s).2.1,(ZM s).2.2) else (((Strd.QM s).1.org,Strd.image (Strd.QM s).1.lines (ZM s).1.2 (Strd.QM s).1.lines (ZM s).1.1 (ZM s).1.2),0,0):=by
 unfold Strd.assemble ZM
 simp only
 by_cases h:(Strd.QM s).2.2=0
 ·simp only[h,ne_eq,not_true,if_false]
 ·simp only[ne_eq,h,not_false_eq_true,if_true]
theorem layOut_ok (s:Strd.Bs) (h:(ZM s).2.2=0):(ZM s)=((Strd.QJ (Strd.QM s).1.org (Strd.QM s).1.lines,Strd.starts (Strd.QM s).1.org (Strd.QM s).1.lines (Strd.QJ (Strd.QM s).1.org (Strd.QM s).1.lines)),0,0):=by
 unfold ZM at h ⊢
 by_cases e:(Strd.QM s).2.2=0
 ·simp only[ne_eq,e,not_true,if_false]at h ⊢
  exact lay_ok _ _ h
 ·simp only[ne_eq,e,not_false_eq_true,if_true]at h
theorem start_ge (r:Strd.Rd) (hW:WfR r) (fs:List Int) (hf:fs.length=r.lines.length):∀k,k≤r.lines.length→r.org≤(Strd.starts r.org r.lines fs).getD k 0
 |0,_=>by rw[starts_zero];exact Int.le_refl _
 |k+1,h=>by
  have ih:=start_ge r hW fs hf k (by omega)
  rw[starts_step r.org r.lines fs k (by omega) (by omega)]
  have:=size_small r hW r.lines[k] (List.getElem_mem _) fs[k] ((Strd.starts r.org r.lines fs).getD k 0)
  omega
theorem Assemble_c (s:ByteArray) (w:World) (hs:s.size≤2^20) (h11:11≤w.heap.size) (hT:Tabs w) :
  Calls Tryz.prog 10 #[.string s] w fun e w'=>e=.returned (.tuple #[.agg #[.int .i64 (Strd.assemble s.data.toList).1.1,.string (bstr (Strd.assemble s.data.toList).1.2)],.int .i64 (Strd.assemble s.data.toList).2.1,.int .i64 (Strd.assemble s.data.toList).2.2])∧Below w.heap.size w w':=by
 have hA:=asm_eq s.data.toList
 have hok:=layOut_ok s.data.toList
 have hWr:=source_wfR s.data.toList
 have hQr:=source_wfQ s.data.toList
 generalize Strd.assemble s.data.toList=A at *
 have HA:=QB hA
 have Hok:=QB hok
 have HT:=QB hT
 clear hA hT hok
 have hb0:=QF w (.cells #[.int .i64 0,.string ⟨#[]⟩] 23)
 have Hx0:=QB (QH w (.cells #[.int .i64 0,.string ⟨#[]⟩] 23))
 go_enter Tryz.func10,Tryz.ntmps10
 go_upto_region 1 with fail
 have HT0:=QB ((QA HT).below hb0)
 have h12:11≤(w.alloc (.cells #[.int .i64 0,.string ⟨#[]⟩] 23)).heap.size:=Nat.le_trans h11 hb0.size
 generalize w.alloc (.cells #[.int .i64 0,.string ⟨#[]⟩] 23)=w0 at *
 go_wp2_with fail
 refine(layOut_c s w0 hs h12 (QA HT0)).mono ?_
 rintro e w1 ⟨ps,rfl,⟨o3,p3,n3,c3,m3,p4,n4,c4,p5,n5,c5,rfl⟩,hpv,hb1⟩
 generalize ZM s.data.toList=Y at *
 generalize (Strd.QM s.data.toList).1=r at *
 obtain⟨⟨fs,st⟩,ln,er⟩:=Y
 simp only at hpv HA Hok ⊢
 have hb2:=QF w1 (.cells #[.int .i64 o3,.slice p3 n3 c3,.map m3,.slice p4 n4 c4,.slice p5 n5 c5] 67)
 have Hg:=QB (QH w1 (.cells #[.int .i64 o3,.slice p3 n3 c3,.map m3,.slice p4 n4 c4,.slice p5 n5 c5] 67))
 have Hx2:=QB (bbox hb2 (bbox hb1 (QA Hx0)))
 have hB2:=QE hb0 (QE hb1 hb2)
 have HPl:Hid (er=0→∃base,PlanAt base (w1.alloc (.cells #[.int .i64 o3,.slice p3 n3 c3,.map m3,.slice p4 n4 c4,.slice p5 n5 c5] 67)) w1.heap.size r fs st):=QB fun h=>by
  obtain⟨base,_,h2,p,cap,gm,qs,vf,vs,e,hL,hLab,hgm,hf,hs',h8,h9⟩:=hpv h
  rw[e]at hb2 Hg ⊢
  exact⟨base,⟨p,cap,gm,qs,vf,vs,QA Hg,hL.below hb2,hLab.below hb2,hgm,hf.below hb2,hs'.below hb2⟩,h2,h8,h9⟩
 clear hpv
 go_upto_region 2 with fail
 generalize w1.alloc (.cells #[.int .i64 o3,.slice p3 n3 c3,.map m3,.slice p4 n4 c4,.slice p5 n5 c5] 67)=w2 at *
 generalize w1.heap.size=g at *
 clear hb1 hb2 Hg
 by_cases her:er=0
 ·subst her
  obtain⟨base,hPl⟩:=QA HPl rfl
  have hk:=QA Hok rfl
  simp only[Prod.mk.injEq]at hk
  obtain⟨⟨rfl,rfl⟩,_,_⟩:=hk
  have hfl:(Strd.QJ r.org r.lines).length=r.lines.length:=by unfold Strd.QJ;exact settle_len _ _ _ _ (by simp[Strd.Q5])
  have hA2:A=((r.org,Strd.image r.lines (Strd.starts r.org r.lines (Strd.QJ r.org r.lines)) r.lines (Strd.QJ r.org r.lines) (Strd.starts r.org r.lines (Strd.QJ r.org r.lines))),0,0):=by rw[QA HA,if_neg (by simp)]
  have HA2:=QB hA2
  have hst:∀a∈Strd.starts r.org r.lines (Strd.QJ r.org r.lines),0≤a∧a≤2^31:=by
   intro a ha
   obtain⟨k,hk,rfl⟩:=List.getElem_of_mem ha
   rw[starts_len _ _ _ hfl]at hk
   have h1:=starts_small r hWr (Strd.QJ r.org r.lines) hfl k (by omega)
   rw[gD,gE (by rw[starts_len _ _ _ hfl];exact hk)]at h1
   simp only[Option.getD_some]at h1
   have:=hWr.len
   omega
  have hend:=start_ge r hWr (Strd.QJ r.org r.lines) hfl r.lines.length (Nat.le_refl _)
  have cI:=Image_c base g r _ _ w2 hPl hWr hQr hst hend
  generalize Strd.image r.lines (Strd.starts r.org r.lines (Strd.QJ r.org r.lines)) r.lines (Strd.QJ r.org r.lines) (Strd.starts r.org r.lines (Strd.QJ r.org r.lines))=I at *
  have CI:=QB cI
  clear hA2 HA Hok hst hend hPl HPl cI
  go_wp2_with fail
  refine(QA CI).mono ?_
  rintro e w3 ⟨rfl,hb3⟩
  have Hx3:=QB (bbox hb3 (QA Hx2))
  go_wp2_with (refine wpList_store_row rfl 23 (.tmp 2) (.tmp 19) rfl w.heap.size #[.int .i64 r.org,.string (bstr I)] rfl rfl 23 #[.int .i64 0,.string ⟨#[]⟩] (by exact QA Hx3) (by kernel_rfl) rfl (img_one _ _) ?_)
  refine bodyPost_ret (v:=.tuple #[.agg #[.int .i64 r.org,.string (bstr I)],.int .i64 0,.int .i64 0]) (by exact Q6 Tryz.results10 _ _ w.heap.size 23 _ _ _ rfl (by exact ZJ (QA Hx3)) Tryz.underlying23 rfl (by kernel_rfl)) rfl ?_
  exact⟨by rw[QA HA2];rfl,QT (QE hB2 hb3) (Nat.le_refl _) _⟩
 ·have HA2:Hid (A=((0,[]),ln,er)):=QB (by rw[QA HA,if_pos her])
  go_wp2_with (refine wpList_store_row rfl 23 (.tmp 2) (.tmp 16) rfl w.heap.size #[.int .i64 0,.string ⟨#[]⟩] rfl rfl 23 #[.int .i64 0,.string ⟨#[]⟩] (by exact QA Hx2) (by kernel_rfl) rfl (img_one _ _) ?_)
  refine bodyPost_ret (v:=.tuple #[.agg #[.int .i64 0,.string ⟨#[]⟩],.int .i64 (ln:Int),.int .i64 er]) (by exact Q6 Tryz.results10 _ _ w.heap.size 23 _ _ _ rfl (by exact ZJ (QA Hx2)) Tryz.underlying23 rfl (by kernel_rfl)) rfl ?_
  exact⟨by rw[QA HA2],QT hB2 (Nat.le_refl _) _⟩
end Go.Proofs.YtegiloiojloaoaaGreatDoor
