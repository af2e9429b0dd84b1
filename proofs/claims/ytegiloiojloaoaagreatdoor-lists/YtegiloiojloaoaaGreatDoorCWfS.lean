/- The contract of layout.shortest. -/
import Derived.Test.YtegiloiojloaoaaGreatDoorCSpec
import Derived.Test.YtegiloiojloaoaaGreatDoorCSetSt
import Derived.Laws.MakeOwn
import Derived.Test.YtegiloiojloaoaaGreatDoorCApp
import Derived.Test.YtegiloiojloaoaaGreatDoorCUnk
set_option linter.unusedVariables false
set_option linter.unusedSimpArgs false
set_option maxHeartbeats 4000000
set_option maxRecDepth 1000000
namespace Go.Proofs.YtegiloiojloaoaaGreatDoor
open Go.RowKit Go.Shelf Go.Sort Go.Maps
theorem Tryz.info92:(Tryz.prog.info? 92).map (fun i=>(i.zero,i.size,i.bytes))=some (some (.int .i64 0),1,8):=by kernel_rfl
theorem Tryz.info3:(Tryz.prog.info? 3).map (fun i=>(i.zero,i.size,i.bytes))=some (some (.int .i64 0),1,8):=by kernel_rfl
theorem made_ints (n:Nat):madeCells (Value.int .i64 0).cells n=((List.replicate n (0:Int)).map (Value.int .i64)).toArray:=by
 apply Array.ext
 ·simp[madeCells]
 ·intro i h1 h2
  simp[madeCells,Value.cells,Nat.mod_one]
theorem make65 (n:Nat) (hn:n≤2^30) (W:World):(Instr.makeSlice 65 (.int .i64 (n:Int)) (.int .i64 (n:Int))).run Tryz.prog W=.ok (.slice (some ⟨W.heap.size,0,none⟩) n n) (W.alloc (.cells ((List.replicate n (0:Int)).map (Value.int .i64)).toArray 92)):=by
 obtain⟨i,hi,hz0,hz1,hz2⟩:=info_parts Tryz.info92
 have h:=run_make (P:=Tryz.prog) W 65 92 i (.int .i64 0) Tryz.underlying65 hi hz0 .i64 .i64 n n (by omega) (Int.le_refl _) (by rw[hz2];omega) (by omega)
 rw[hz1,Int.toNat_natCast,Nat.mul_one,made_ints]at h
 exact h
theorem make42 (n:Nat) (hn:n≤2^30) (W:World):(Instr.makeSlice 42 (.int .i64 ((n:Int)+1)) (.int .i64 ((n:Int)+1))).run Tryz.prog W=.ok (.slice (some ⟨W.heap.size,0,none⟩) (n+1) (n+1)) (W.alloc (.cells ((List.replicate (n+1) (0:Int)).map (Value.int .i64)).toArray 3)):=by
 obtain⟨i,hi,hz0,hz1,hz2⟩:=info_parts Tryz.info3
 have h:=run_make (P:=Tryz.prog) W 42 3 i (.int .i64 0) Tryz.underlying42 hi hz0 .i64 .i64 ((n+1:Nat):Int) ((n+1:Nat):Int) (by omega) (Int.le_refl _) (by rw[hz2];omega) (by omega)
 rw[hz1,Int.toNat_natCast,Nat.mul_one,made_ints]at h
 exact h
theorem ints_row (e:TypeId) (base b:Nat) (w:World) (xs:List Int) (h:xs.length≤2^30) (hb:base≤b) (hx:w.heap[b]? = some (.cells (xs.map (Value.int .i64)).toArray e (0,0))):ZO e base w (.slice (some ⟨b,0,none⟩) xs.length xs.length) xs:=
 ⟨by simp,.inr ⟨b,xs.length,_,rfl,hb,hx,Nat.le_refl _,by unfold maxLen;omega,by simp,by simp[List.take_of_length_le]⟩⟩
theorem results_cell1 {P:Program} {fn:Func} {p:Tmp} {ty:TypeId} (h:fn.results=#[.cell p ty]) (tmps:Array Value) (w:World) (g:Nat) (t:TypeId) (cs:Array Value) (fr:Nat×Nat) (d:TypeDesc)
  (hp:tmps.getD p undef=.pointer (some ⟨g,0,none⟩)) (hg:w.heap[g]? = some (.cells cs t fr))
  (hu:P.underlying ty=some d) (hd:(match d with|.struct _|.array _ _=>true|_=>false)=true) (hi:(P.info? ty).map (·.size)=some cs.size) :
  (results fn tmps).run P w=.ok (.agg cs) w:=by
 have hp':tmps[p]?.getD undef=.pointer (some ⟨g,0,none⟩):=by simpa using hp
 simp[results,h,hp',asAddr,run_loadVar_row w g t ty cs fr d hg hu hd hi]
theorem Kept.row {base:Nat} {D:Obj→Prop} {a w:World} (h:Kept base D a w) {g:Nat} (hg:a.heap.size≤g) (cs:Array Value):Kept base D a (w.setRow g cs):=
 ⟨h.os,h.tape,h.output,Nat.le_trans h.size (by simp[World.setRow]),fun k hk hd=>(setRow_other w g k _ (by omega)).trans (h.block k hk hd)⟩
theorem Z0.ne {w:World} {b n g:Nat} {lines:List Strd.Line} {cs:Array Value} {t:TypeId} {fr:Nat×Nat} (h:Z0 w b n lines) (hg:w.heap[g]? = some (.cells cs t fr)):b≠g:=by
 obtain⟨D,⟨es,clock,h1,_⟩,_⟩:=h
 rintro rfl
 rw[hg]at h1;cases h1
def PlanVal (base:Nat) (w:World) (ps:Array Value) (r:Strd.Rd) (fs st:List Int):Prop:=
 ∃p cap gm qs vf vs,ps=#[.int .i64 r.org,.slice p r.lines.length cap,.map (some gm),vf,vs]∧ZS base w (.slice p r.lines.length cap) r.lines qs∧Z0 w gm r.lines.length r.lines∧base≤gm∧ZO 92 base w vf fs∧ZO 3 base w vs st∧fs.length=r.lines.length∧st.length=r.lines.length+1
theorem plan_one (o:Int) (p:Option Addr) (n c:Nat) (m:Option Nat) (p2:Option Addr) (n2 c2:Nat) (p3:Option Addr) (n3 c3:Nat):(#[Value.int .i64 o,.slice p n c,.map m,.slice p2 n2 c2,.slice p3 n3 c3]).all (·.oneCell')=true:=by simp[Value.oneCell']
theorem three (w:World) (a b c:Obj):(((w.alloc a).alloc b).alloc c).drew.heap[w.heap.size]? = some a∧(((w.alloc a).alloc b).alloc c).drew.heap[w.heap.size+1]? = some b∧(((w.alloc a).alloc b).alloc c).drew.heap[w.heap.size+1+1]? = some c∧Below w.heap.size w (((w.alloc a).alloc b).alloc c).drew:=by
 have e1:(w.alloc a).heap.size=w.heap.size+1:=by simp
 have e2:((w.alloc a).alloc b).heap.size=w.heap.size+1+1:=by simp
 refine⟨bbox (QW (QF ((w.alloc a).alloc b) c)) (bbox (QF _ b) (QH w a)),?_,?_,QW (QE (QE (QF w a) (QF _ b)) (QF _ c))⟩
 ·have h:=bbox (QF ((w.alloc a).alloc b) c) (QH (w.alloc a) b)
  rw[e1]at h
  exact h
 ·have h:=QH ((w.alloc a).alloc b) c
  rw[e2]at h
  exact h
theorem shortest_c (base:Nat) (r:Strd.Rd) (cs:Array Value) (w:World) (hP:ProgAt base w cs r) (hW:WfR r) (hbw:base≤w.heap.size) :
  Calls Tryz.prog 60 #[.agg cs] w fun e w'=>∃ps,e=.returned (.agg ps)∧PlanVal base w' ps r (Strd.Q5 r.lines) (List.replicate (r.lines.length+1) 0)∧Kept base (Tag 92) w w':=by
 obtain⟨p,cap,gm,qs,rfl,hL,hLab,hgm⟩:=hP
 have hn:=hW.len
 have m1:=make65 r.lines.length (by omega)
 have m2:=make42 r.lines.length (by omega)
 have HL:=QB hL
 have HLab:=QB hLab
 clear hL hLab
 have hb1:=QF w (.cells #[.int .i64 r.org,.slice p r.lines.length cap,.map (some gm)] 64)
 have Hx1:=QB (QH w (.cells #[.int .i64 r.org,.slice p r.lines.length cap,.map (some gm)] 64))
 go_enter Tryz.func60,Tryz.ntmps60
 have hb2:=QF (w.alloc (.cells #[.int .i64 r.org,.slice p r.lines.length cap,.map (some gm)] 64)) (.cells #[.int .i64 0,.slice none 0 0,.map none,.slice none 0 0,.slice none 0 0] 67)
 have Hx2:=QB (QH (w.alloc (.cells #[.int .i64 r.org,.slice p r.lines.length cap,.map (some gm)] 64)) (.cells #[.int .i64 0,.slice none 0 0,.map none,.slice none 0 0,.slice none 0 0] 67))
 have Hx1':=QB (bbox hb2 (QA Hx1))
 have hB2:=QE hb1 hb2
 rw[show (w.alloc (.cells #[.int .i64 r.org,.slice p r.lines.length cap,.map (some gm)] 64)).heap.size=w.heap.size+1 by simp]at Hx2
 go_upto_region 1 with fail
 clear hb1 hb2 Hx1
 generalize (w.alloc (.cells #[.int .i64 r.org,.slice p r.lines.length cap,.map (some gm)] 64)).alloc (.cells #[.int .i64 0,.slice none 0 0,.map none,.slice none 0 0,.slice none 0 0] 67)=w0 at *
 have x0:=QC (QA Hx1') 0
 have x1:=QC (QA Hx1') 1
 have x2:=QC (QA Hx1') 2
 simp only[gA,gZ,gS]at x0 x1 x2
 have hlx:=QD (QA Hx1')
 have hlx2:=QD (QA Hx2)
 have hmp:∀(wc:World) (g bf bs:Nat),Below w0.heap.size w0 wc→wc.heap[g]? = some (.cells #[.int .i64 r.org,.slice p r.lines.length cap,.map (some gm),.slice (some ⟨bf,0,none⟩) r.lines.length r.lines.length,.slice (some ⟨bs,0,none⟩) (r.lines.length+1) (r.lines.length+1)] 67 (0,0))→wc.heap[bf]? = some (.cells (Array.replicate r.lines.length (.int .i64 0)) 92 (0,0))→wc.heap[bs]? = some (.cells (Array.replicate (r.lines.length+1) (.int .i64 0)) 3 (0,0))→w0.heap.size≤g→w0.heap.size≤bf→w0.heap.size≤bs→PlanAt base wc g r (List.replicate r.lines.length 0) (List.replicate (r.lines.length+1) 0):=fun wc g bf bs hb h1 h2 h3 g1 g2 g3=>by
  have hbb:=QE hB2 hb
  have hbase:base≤w0.heap.size:=Nat.le_trans hbw hB2.size
  have i1:=ints_row 92 base bf wc (List.replicate r.lines.length 0) (by simp;omega) (by omega) (by rw[h2,List.map_replicate,List.toArray_replicate])
  have i2:=ints_row 3 base bs wc (List.replicate (r.lines.length+1) 0) (by simp;omega) (by omega) (by rw[h3,List.map_replicate,List.toArray_replicate])
  rw[List.length_replicate]at i1 i2
  exact⟨⟨p,cap,gm,qs,_,_,h1,(QA HL).below hbb,(QA HLab).below hbb,hgm,i1,i2⟩,by omega,by simp,by simp⟩
 have Hmp:=QB hmp
 have hq1:w.heap.size<w0.heap.size+1:=by omega
 have hq2:w.heap.size<w0.heap.size+1+1:=by omega
 have hq3:w.heap.size<w0.heap.size+1+1+1:=by omega
 have hq4:w.heap.size<w0.heap.size+2:=by omega
 have hq5:w.heap.size<w0.heap.size+3:=by omega
 have ew:IntKind.i64.wrap ((r.lines.length:Int)+1)=(r.lines.length:Int)+1:=IntWalk.i64_in _ (by omega)
 clear hmp
 go_cut [3] (fun v wc=>∃g,v=.pointer (some ⟨g,0,none⟩)∧PlanAt base wc g r (List.replicate r.lines.length 0) (List.replicate (r.lines.length+1) 0)∧Below w0.heap.size w0 wc∧w0.heap.size≤g)
 case first=>
  go_region
  all_goals go_wp2_with fail
  all_goals go_meet
  all_goals obtain⟨t1,t2,t3,t4⟩:=three w0 _ _ _
  all_goals first
   |exact⟨_,rfl,QA Hmp _ _ _ _ t4 t3 t1 t2 (by omega) (by omega) (by omega),t4,by omega⟩
   |exact⟨_,rfl,QA Hmp _ _ _ _ t4 t3 t2 t1 (by omega) (by omega) (by omega),t4,by omega⟩
   |exact⟨_,rfl,QA Hmp _ _ _ _ t4 t2 t1 t3 (by omega) (by omega) (by omega),t4,by omega⟩
   |exact⟨_,rfl,QA Hmp _ _ _ _ t4 t2 t3 t1 (by omega) (by omega) (by omega),t4,by omega⟩
   |exact⟨_,rfl,QA Hmp _ _ _ _ t4 t1 t2 t3 (by omega) (by omega) (by omega),t4,by omega⟩
   |exact⟨_,rfl,QA Hmp _ _ _ _ t4 t1 t3 t2 (by omega) (by omega) (by omega),t4,by omega⟩
 case rest=>
  obtain⟨g,rfl,hPg,hbc,hgg⟩:=hcut
  have hbx1:=bbox hbc (QA Hx1')
  have y1:=QC hbx1 1
  simp only[gA,gZ,gS]at y1
  have hly:=QD hbx1
  have Hy1:=QB hbx1
  have Hy2:=QB (bbox hbc (QA Hx2))
  have hbW:=QE hB2 hbc
  have HLc:=QB ((QA HL).below hbW)
  have HPg:=QB hPg
  have hfl:(Strd.Q5 r.lines).length=r.lines.length:=by simp[Strd.Q5]
  clear hbx1 hPg x0 x1 x2 Hmp hq1 hq2 hq3 hq4 hq5 m1 m2
  go_wp2_with fail
  go_loopw [20] (fun c wr=>∃k:Nat,k≤r.lines.length∧c=.int .i64 k∧PlanAt base wr g r ((Strd.Q5 r.lines).take k++(List.replicate r.lines.length (0:Int)).drop k) (List.replicate (r.lines.length+1) 0)∧Kept base (Tag 92) wc wr) (fun c _=>r.lines.length-(intOf c).toNat)
  case atStart=>exact⟨0,by omega,rfl,QA HPg,Kept.refl _ _ _⟩
  case round=>
   obtain⟨k,hk,rfl,hPk,hKk⟩:=hrel
   by_cases hlt:k<r.lines.length
   ·obtain⟨b,pq,nq,cq,rfl,_,hb,_,hcl⟩:=((QA HLc).tag hKk (by decide) (by decide)).at k hlt
    have l0:=hcl 0 _ rfl
    have l1:=hcl 1 _ rfl
    have l2:=hcl 2 _ rfl
    have l3:=hcl 3 _ rfl
    have l4:=hcl 4 _ rfl
    have l5:=hcl 5 _ rfl
    have l6:=hcl 6 _ rfl
    simp only[Nat.add_zero]at l0
    have hff:(Strd.Q5 r.lines).getD k 0=r.lines[k].ins.op.first:=by
     unfold Strd.Q5
     rw[gD,List.getElem?_map,gE hlt];rfl
    have hset:=take_drop_set (Strd.Q5 r.lines) (List.replicate r.lines.length (0:Int)) k (by omega) (by simp[hfl])
    rw[hff]at hset
    have hkF:k<((Strd.Q5 r.lines).take k++(List.replicate r.lines.length (0:Int)).drop k).length:=by
     rw[List.length_append,List.length_take,List.length_drop,List.length_replicate];omega
    have hFl:((Strd.Q5 r.lines).take k++(List.replicate r.lines.length (0:Int)).drop k).length=r.lines.length:=by
     rw[List.length_append,List.length_take,List.length_drop,List.length_replicate];omega
    generalize r.lines[k]=l at *
    have hb1:=QF wr (.cells #[.string (bstr l.label),.int .i64 l.ins.op.kind,.int .i64 l.ins.op.base,.int .i64 l.ins.op.number,.int .i64 l.ins.op.first,.int .i64 l.ins.op.last,.slice pq nq cq] 99)
    have Hl1:=QB (QH wr (.cells #[.string (bstr l.label),.int .i64 l.ins.op.kind,.int .i64 l.ins.op.base,.int .i64 l.ins.op.number,.int .i64 l.ins.op.first,.int .i64 l.ins.op.last,.slice pq nq cq] 99))
    have hkn:(k:Int)<(r.lines.length:Int):=by omega
    have Hset:=QB hset
    have HPk:=QB hPk
    clear hcl hset hff hPk
    go_upto_region 5 with fail
    have HPa:=QB ((QA HPk).below hb1)
    have hKa:Kept base (Tag 92) wc _:=hKk.trans (.of_below hb1)
    clear l0 l1 l2 l3 l4 l5 l6
    generalize wr.alloc (.cells #[.string (bstr l.label),.int .i64 l.ins.op.kind,.int .i64 l.ins.op.base,.int .i64 l.ins.op.number,.int .i64 l.ins.op.first,.int .i64 l.ins.op.last,.slice pq nq cq] 99)=wa at *
    have d4:=QC (QA Hl1) 4
    simp only[gA,gZ,gS]at d4
    have hld:=QD (QA Hl1)
    obtain⟨bf,cf,g3,hga,hbf,gf,gz,hst⟩:=(QA HPa).form k hkF
    obtain⟨hp5,hk5⟩:=hst l.ins.op.first
    rw[QA Hset]at hp5
    rw[hFl]at g3
    have Hp5:=QB hp5
    clear hp5 hst
    go_wp2
    go_roundw
    case rel=>exact⟨k+1,by omega,by go_num,QA Hp5,hKa.trans hk5⟩
    case measure=>simp[intOf];omega
   ·obtain rfl:k=r.lines.length:=by omega
    rw[List.take_of_length_le (by omega),List.drop_eq_nil_of_le (by simp),List.append_nil]at hPk
    have hy2:=kboxE hKk (QA Hy2) (by decide)
    have Hy2':=QB hy2
    obtain⟨⟨p',cap',gm',qs',vf,vs,hbx,hL',hLab',hgm',hf,hs⟩,_,h8,h9⟩:=hPk
    obtain⟨pf,cf,rfl⟩:=hf.shape
    obtain⟨ps,cps,rfl⟩:=hs.shape
    rw[hfl]at hf hbx
    rw[List.length_replicate]at hs hbx
    have z0:=QC hbx 0
    have z1:=QC hbx 1
    have z2:=QC hbx 2
    have z3:=QC hbx 3
    have z4:=QC hbx 4
    simp only[gA,gZ,gS]at z0 z1 z2 z3 z4
    have hlz:=QD hbx
    have HL':=QB hL'
    have HLab':=QB hLab'
    have Hf:=QB hf
    have Hs:=QB hs
    have hKw:Kept base (Tag 92) w wr:=(Kept.of_below hbW).trans hKk
    clear hL' hLab' hf hs hbx hy2
    go_wp2_with (refine wpList_store_row rfl 67 (.tmp 2) (.tmp 34) rfl (w.heap.size+1) #[.int .i64 r.org,.slice p' r.lines.length cap',.map (some gm'),.slice pf r.lines.length cf,.slice ps (r.lines.length+1) cps] rfl rfl 67 #[.int .i64 0,.slice none 0 0,.map none,.slice none 0 0,.slice none 0 0] (by exact QA Hy2') (by kernel_rfl) rfl (plan_one _ _ _ _ _ _ _ _ _ _ _) ?_)
    refine bodyPost_ret (v:=.agg #[.int .i64 r.org,.slice p' r.lines.length cap',.map (some gm'),.slice pf r.lines.length cf,.slice ps (r.lines.length+1) cps]) (by exact results_cell1 Tryz.results60 _ _ (w.heap.size+1) 67 _ _ _ rfl (by exact ZJ (QA Hy2')) Tryz.underlying67 rfl (by kernel_rfl)) rfl ?_
    have hrow:∀cs k,k≠w.heap.size+1→(wr.setRow (w.heap.size+1) cs).heap[k]? = wr.heap[k]?:=fun cs k hk=>setRow_other wr (w.heap.size+1) k _ hk
    refine⟨_,rfl,⟨p',cap',gm',qs',_,_,rfl,⟨(QA HL').fst,ZP (QA HL').row (QA Hy2') (by decide),fun x hx=>ZP ((QA HL').oprs x hx) (QA Hy2') (by decide)⟩,(QA HLab').block (hrow _ _ ((QA HLab').ne (QA Hy2'))),hgm',ZP (QA Hf) (QA Hy2') (by decide),ZP (QA Hs) (QA Hy2') (by decide),hfl,h9⟩,hKw.row (by omega) _⟩
def plc (r:Strd.Rd) (st:List Int) (os:List Strd.Opr):List Strd.Opr:=os.map fun o=>⟨[],Strd.Q7 r.lines st o⟩
theorem placed_c (base gp:Nat) (r:Strd.Rd) (fs st:List Int) (i:Strd.Ins) (vo:Value) (w:World) (hP:PlanAt base w gp r fs st) (hO:QS w vo i.oprs) (hz:∀o∈i.oprs,o.name.length≤2^20) (h8:i.oprs.length≤8) (hlen:r.lines.length≤2^20) :
  Calls Tryz.prog 40 #[.pointer (some ⟨gp,0,none⟩),.agg #[.int .i64 i.op.kind,.int .i64 i.op.base,.int .i64 i.op.number,.int .i64 i.op.first,.int .i64 i.op.last,vo]] w fun e w'=>∃vo',e=.returned (.agg #[.int .i64 i.op.kind,.int .i64 i.op.base,.int .i64 i.op.number,.int .i64 i.op.first,.int .i64 i.op.last,vo'])∧QS w' vo' (Strd.placed r.lines st i).oprs∧Below w.heap.size w w':=by
 obtain⟨p,cap,rfl⟩:=hO.shape
 obtain⟨ok,oba,on,of,ol⟩:∃a b c d e,i.op=⟨a,b,c,d,e⟩:=⟨_,_,_,_,_,rfl⟩
 have HO:=QB hO
 have HP:=QB hP
 have Hz:=QB hz
 have Hq:Hid ((Strd.placed r.lines st i).oprs=plc r st i.oprs):=QB rfl
 generalize (Strd.placed r.lines st i).oprs=PO at *
 generalize i.oprs=os at *
 generalize i.op.kind=ok at *
 generalize i.op.base=oba at *
 generalize i.op.number=on at *
 generalize i.op.first=of at *
 generalize i.op.last=ol at *
 clear hO hP hz
 obtain⟨i0,hi,hz0,hz1,hz2⟩:=info_parts Tryz.info136
 have hb1:=QF w (.cells #[.int .i64 ok,.int .i64 oba,.int .i64 on,.int .i64 of,.int .i64 ol,.slice p os.length cap] 97)
 have Hx1:=QB (QH w (.cells #[.int .i64 ok,.int .i64 oba,.int .i64 on,.int .i64 of,.int .i64 ol,.slice p os.length cap] 97))
 go_enter Tryz.func40,Tryz.ntmps40
 have hb2:=QF (w.alloc (.cells #[.int .i64 ok,.int .i64 oba,.int .i64 on,.int .i64 of,.int .i64 ol,.slice p os.length cap] 97)) (.cells #[.int .i64 0,.int .i64 0,.int .i64 0,.int .i64 0,.int .i64 0,.slice none 0 0] 97)
 have Hx2:=QB (QH (w.alloc (.cells #[.int .i64 ok,.int .i64 oba,.int .i64 on,.int .i64 of,.int .i64 ol,.slice p os.length cap] 97)) (.cells #[.int .i64 0,.int .i64 0,.int .i64 0,.int .i64 0,.int .i64 0,.slice none 0 0] 97))
 have Hx1':=QB (bbox hb2 (QA Hx1))
 have hB2:=QE hb1 hb2
 rw[show (w.alloc (.cells #[.int .i64 ok,.int .i64 oba,.int .i64 on,.int .i64 of,.int .i64 ol,.slice p os.length cap] 97)).heap.size=w.heap.size+1 by simp]at Hx2
 go_upto_region 1 with fail
 clear hb1 hb2 Hx1
 generalize (w.alloc (.cells #[.int .i64 ok,.int .i64 oba,.int .i64 on,.int .i64 of,.int .i64 ol,.slice p os.length cap] 97)).alloc (.cells #[.int .i64 0,.int .i64 0,.int .i64 0,.int .i64 0,.int .i64 0,.slice none 0 0] 97)=w0 at *
 have x5:=QC (QA Hx1') 5
 simp only[gA,gZ,gS]at x5
 have hlx:=QD (QA Hx1')
 have hlx2:=QD (QA Hx2)
 go_wp2_with (at_make;refine wpList_make_full _ rfl _ _ 95 rfl _ 136 i0 (.agg #[.string ⟨#[]⟩,.int .i64 0]) 2 Tryz.underlying95 hi hz0 hz1 .i64 .i64 _ _ os.length rfl rfl rfl rfl (by rw[hz2];omega) (by unfold maxLen;omega) (Nat.le_refl _) ?_;intro w2 hown hgrow;have hrow:w2.heap[w0.heap.size]? = some (.cells (oprRow [] os.length).toArray 136 (0,0)):=(by have:=own_full2 hown;have e:(madeCells (Value.agg #[.string ⟨#[]⟩,.int .i64 0]).cells (os.length*2)).toList=oprRow [] os.length:=made_pairs _ _ _;rw[e]at this;exact this);have hbl2:Below w0.heap.size w0 w2:=⟨hgrow.os,hgrow.tape,hgrow.output,hgrow.size,fun k hk=>hgrow.block k hk (by simp)⟩;have Hrow:=QB hrow;clear hown hgrow hrow;have y5:=(hbl2.cell (p:=⟨w.heap.size,5,none⟩) hlx).trans x5;have hly:=Nat.lt_of_lt_of_le hlx hbl2.size)
 have Hx2':=QB (bbox hbl2 (QA Hx2))
 have Hx1'':=QB (bbox hbl2 (QA Hx1'))
 have hBw2:=QE hB2 hbl2
 go_loopw [15] (fun c wr=>∃j:Nat,j≤os.length∧c=.int .i64 j∧wr.heap[w0.heap.size]? = some (.cells (oprRow (plc r st (os.take j)) (os.length-j)).toArray 136 (0,0))∧Below w0.heap.size w0 wr) (fun c _=>os.length-(intOf c).toNat)
 case atStart=>exact⟨0,by omega,rfl,QA Hrow,hbl2⟩
 case round=>
  obtain⟨j,hj,rfl,hrw,hbl⟩:=hrel
  have Hrw:=QB hrw
  clear hrw
  have hblw:Below w.heap.size w wr:=QE hB2 hbl
  have hw0:w.heap.size+1<w0.heap.size:=hlx2
  by_cases hlt:j<os.length
  ·obtain⟨bo,rfl,_,hbo,hc0,hc1⟩:=((QA HO).below hblw).at j hlt
   have hnz:=QA Hz _ (List.getElem_mem hlt)
   have Htk:Hid (os.take (j+1)=os.take j++[os[j]]):=QB (List.take_succ_eq_append_getElem hlt)
   have hjn:(j:Int)<(os.length:Int):=by omega
   generalize os[j]=o at *
   have hba:=QF wr (.cells #[.string (bstr o.name),.int .i64 o.num] 136)
   have Hox:=QB (QH wr (.cells #[.string (bstr o.name),.int .i64 o.num] 136))
   go_upto_region 5 with fail
   have HPa:=QB ((QA HP).below (QE hblw hba))
   have Hrwa:=QB (bbox hba (QA Hrw))
   have hbla:=QE hbl hba
   clear hc0 hc1
   generalize wr.alloc (.cells #[.string (bstr o.name),.int .i64 o.num] 136)=wa at *
   have o0:=QC (QA Hox) 0
   have o1:=QC (QA Hox) 1
   simp only[gA,gZ,gS]at o0 o1
   have hlo:=QD (QA Hox)
   go_wp2_with fail
   refine(number_p base gp r fs st o wa (QA HPa) hnz hlen).mono ?_
   rintro e w3 ⟨rfl,hb3⟩
   have Hnum:Hid (plc r st (os.take (j+1))=plc r st (os.take j)++[⟨[],Strd.Q7 r.lines st o⟩]):=QB (by rw[QA Htk];simp[plc])
   generalize Strd.Q7 r.lines st o=N at *
   obtain⟨m,hm⟩:∃m,os.length-j=m+1:=⟨os.length-j-1,by omega⟩
   have hpl:(plc r st (os.take j)).length=j:=by simp[plc];omega
   have hrl:=oprRow_len (plc r st (os.take j)) (os.length-j)
   have Hrw3:=QB (bbox hb3 (QA Hrwa))
   have hjl:j*2+1<(oprRow (plc r st (os.take j)) (os.length-j)).length:=by rw[hrl,hpl];omega
   obtain⟨u0,hu0⟩:∃u0,w3.cell? ⟨w0.heap.size,j*2,none⟩=some u0:=by
    rw[QC (QA Hrw3),gA]
    exact⟨_,gE (by omega)⟩
   obtain⟨u1,hu1⟩:∃u1,w3.cell? ⟨w0.heap.size,j*2+1,none⟩=some u1:=by
    rw[QC (QA Hrw3),gA]
    exact⟨_,gE hjl⟩
   have f0:=ZC (QA Hrw3) (j*2)
   have f1:=ZC (QA Hrw3) (j*2+1)
   have hnew:((w3.setCell ⟨w0.heap.size,j*2,none⟩ (.string ⟨#[]⟩)).setCell ⟨w0.heap.size,j*2+1,none⟩ (.int .i64 N)).heap[w0.heap.size]? = some (.cells (oprRow (plc r st (os.take (j+1))) (os.length-(j+1))).toArray 136 (0,0)):=by
    rw[row_two (QA Hrw3),hm]
    have e:=oprRow_set (plc r st (os.take j)) m ⟨[],N⟩
    rw[hpl]at e
    rw[QA Hnum,show os.length-(j+1)=m by omega,←e]
   have Hnew:=QB hnew
   have hbl3:Below w0.heap.size w0 ((w3.setCell ⟨w0.heap.size,j*2,none⟩ (.string ⟨#[]⟩)).setCell ⟨w0.heap.size,j*2+1,none⟩ (.int .i64 N)):=below_twoAt (QE hbla hb3) (Nat.le_refl _) _ _ _
   clear hnew hm hrl hjl hpl
   go_wp2
   go_roundw
   case rel=>exact⟨j+1,by omega,by go_num,QA Hnew,hbl3⟩
   case measure=>simp[intOf];omega
  ·obtain rfl:j=os.length:=by omega
   have hO:QS wr (.slice (some ⟨w0.heap.size,0,none⟩) os.length os.length) PO:=by
    have hr:=QA Hrw
    rw[Nat.sub_self,List.take_length]at hr
    have e:oprRow (plc r st os) 0=encOprs (plc r st os):=by simp[oprRow]
    rw[e]at hr
    have hl:(encOprs (plc r st os)).length=(plc r st os).length*2:=flatMap_len encOpr 2 (fun _=>rfl) _
    have hol:(plc r st os).length=os.length:=by simp[plc]
    rw[QA Hq]
    show World.ownsRow _ _ _ _ _ _ _
    rw[hol]
    rw[hol]at hl
    exact⟨hl,.inr ⟨w0.heap.size,os.length,_,rfl,Nat.zero_le _,hr,Nat.le_refl _,by unfold maxLen;omega,by simp[hl],by rw[←hl];simp⟩⟩
   have HOf:=QB hO
   have hbx:=bbox hbl (QA Hx1')
   have c0:=QC hbx 0
   have c1:=QC hbx 1
   have c2:=QC hbx 2
   have c3:=QC hbx 3
   have c4:=QC hbx 4
   simp only[gA,gZ,gS]at c0 c1 c2 c3 c4
   have hlc:=QD hbx
   have Hx2r:=QB (bbox hbl (QA Hx2))
   clear hO hbx
   go_wp2_with (refine wpList_store_row rfl 97 (.tmp 4) (.tmp 31) rfl (w.heap.size+1) #[.int .i64 ok,.int .i64 oba,.int .i64 on,.int .i64 of,.int .i64 ol,.slice (some ⟨w0.heap.size,0,none⟩) os.length os.length] rfl rfl 97 #[.int .i64 0,.int .i64 0,.int .i64 0,.int .i64 0,.int .i64 0,.slice none 0 0] (by exact QA Hx2r) (by kernel_rfl) rfl (ins_one _ _ _ _ _ _ _ _) ?_)
   refine bodyPost_ret (v:=.agg #[.int .i64 ok,.int .i64 oba,.int .i64 on,.int .i64 of,.int .i64 ol,.slice (some ⟨w0.heap.size,0,none⟩) os.length os.length]) (by exact results_cell1 Tryz.results40 _ _ (w.heap.size+1) 97 _ _ _ rfl (by exact ZJ (QA Hx2r)) Tryz.underlying97 rfl (by kernel_rfl)) rfl ?_
   exact⟨_,rfl,ZP (QA HOf) (QA Hx2r) (by decide),QT hblw (by omega) _⟩
end Go.Proofs.YtegiloiojloaoaaGreatDoor
namespace Go.Proofs.YtegiloiojloaoaaGreatDoor
open Go.RowKit
theorem cutForm_forms (w:Strd.Bs):0≤(Strd.cutForm w).2.1∧(Strd.cutForm w).2.1≤2∧(Strd.cutForm w).2.2≤2:=by
 unfold Strd.cutForm
 split
 ·simp
 ·split
  ·simp
  ·split <;> simp
theorem find_wf (w:Strd.Bs) (op:Strd.Op) (h:Strd.find w=some op):0≤op.first∧op.first≤2∧op.last≤2∧1≤op.kind∧op.kind≤11:=by
 unfold Strd.find at h
 split at h
 ·rename_i r hr
  cases h
  have hm:=List.mem_of_find?_eq_some hr
  have:∀x∈Strd.fixedWords,1≤x.2.1∧x.2.1≤11:=by decide
  have:=this r hm
  simp only
  omega
 ·have hc:=cutForm_forms w
  generalize Strd.cutForm w=cf at h hc
  obtain⟨st,f,l⟩:=cf
  simp only at h hc
  split at h
  ·cases h
   simp only[Strd.jumpOp];omega
  ·split at h
   ·cases h
   ·split at h
    ·cases h
     simp only[Strd.ZZ];omega
    ·cases h
theorem readOperand_name (r:Int) (s:Strd.Bs) (o:Strd.Opr) (h:Strd.QR r s=some o):o.name.length≤s.length∧(r≠3→o.name=[]):=by
 unfold Strd.QR at h
 split at h
 ·rename_i h3
  cases h;exact⟨Nat.le_refl _,fun e=>(e h3.1).elim⟩
 ·split at h
  ·cases h
  ·split at h
   ·cases h
   ·rename_i d _ _
    cases hn:Strd.number d with
    |none=>rw[hn]at h;cases h
    |some n=>rw[hn]at h;cases h;exact⟨by simp,fun _=>rfl⟩
theorem ros_names (n:Nat):∀(rs:List Int) (ts:List Strd.Bs) (os:List Strd.Opr),(∀t∈ts,t.length≤n)→Strd.ZG rs ts=some os→∀o∈os,o.name.length≤n∧((∀r∈rs,r≠3)→o.name=[])
 |[],[],os,_,h=>by cases h;intro o ho;cases ho
 |[],_::_,os,_,h=>by cases h
 |_::_,[],os,_,h=>by cases h
 |r::rs,t::ts,os,hn,h=>by
  simp only[Strd.ZG]at h
  cases h1:Strd.QR r (Strd.trim t) with
  |none=>rw[h1]at h;cases h
  |some o=>
   rw[h1]at h
   simp only[Option.bind_some]at h
   cases h2:Strd.ZG rs ts with
   |none=>rw[h2]at h;cases h
   |some os2=>
    rw[h2]at h
    cases h
    intro x hx
    rcases List.mem_cons.1 hx with rfl|hx
    ·have h3:=readOperand_name _ _ _ h1
     have h4:=trim_len t
     have h5:=hn t (by simp)
     exact⟨by omega,fun hr=>h3.2 (hr r (by simp))⟩
    ·have h3:=ros_names n rs ts os2 (fun t ht=>hn t (by simp[ht])) h2 x hx
     exact⟨h3.1,fun hr=>h3.2 (fun r hr'=>hr r (by simp[hr']))⟩
theorem cutWord_len2:∀(s:Strd.Bs),(Strd.ZU s).1.length≤s.length∧(Strd.ZU s).2.length≤s.length
 |[]=>⟨Nat.le_refl _,Nat.le_refl _⟩
 |c::t=>by
  unfold Strd.ZU
  split
  ·exact⟨by simp,trim_len _⟩
  ·have:=cutWord_len2 t
   exact⟨by simp;omega,by simp;omega⟩
structure WfL (l:Strd.Line):Prop where
 ins:WfI l.ins
 names:∀o∈l.ins.oprs,o.name.length≤2^20
 bare:9≤l.ins.op.kind→∀o∈l.ins.oprs,o.name=[]
 forms:0≤l.ins.op.first∧l.ins.op.first≤2∧l.ins.op.last≤2
 kinds:0≤l.ins.op.kind∧l.ins.op.kind≤11
theorem roles_bare (k:Int) (h1:9≤k) (h2:k≤11) (n:Nat):∀r∈Strd.roles k n,r≠3:=by
 have:k=9∨k=10∨k=11:=by omega
 rcases this with rfl|rfl|rfl <;> simp[Strd.roles]
theorem instruction_wfL (s a:Strd.Bs) (hs:s.length≤2^20) (i:Strd.Ins) (h:Strd.instruction s=some i):WfL ⟨a,i⟩:=by
 refine⟨instruction_wf s i h,?_,?_,?_,?_⟩ <;>
 ·unfold Strd.instruction at h
  simp only at h
  split at h
  ·cases h
   simp[Strd.emptyIns]
  ·cases hf:Strd.find (Strd.ZU (Strd.trim s)).1 with
   |none=>rw[hf]at h;cases h
   |some op=>
    rw[hf]at h
    simp only[Option.bind_some]at h
    have hts:∀t∈(if (Strd.ZU (Strd.trim s)).2=[] then [] else Strd.split 44 (Strd.ZU (Strd.trim s)).2),t.length≤2^20:=by
     intro t ht
     split at ht
     ·cases ht
     ·have h1:=(split_len 44 (Strd.ZU (Strd.trim s)).2).2.1 t ht
      have h2:=(cutWord_len2 (Strd.trim s)).2
      have h3:=trim_len s
      omega
    generalize (if (Strd.ZU (Strd.trim s)).2=[] then [] else Strd.split 44 (Strd.ZU (Strd.trim s)).2)=ts at h hts
    cases ho:Strd.operands op.kind ts with
    |none=>rw[ho]at h;cases h
    |some os=>
     rw[ho]at h
     cases h
     have hw:=find_wf _ _ hf
     have hn:=ros_names (2^20) _ _ _ hts ho
     simp only
     first
      |exact fun o ho=>(hn o ho).1
      |exact fun h9 o ho=>(hn o ho).2 (roles_bare _ h9 (by omega) _)
      |omega
theorem readLine_wfL (s:Strd.Bs) (hs:s.length≤2^20) (l:Strd.Line) (h:Strd.readLine s=some l):WfL l:=by
 have h59:((Strd.split 59 s).headD []).length≤s.length:=by
  obtain⟨_,hpl,_⟩:=split_len 59 s
  cases hS:Strd.split 59 s with
  |nil=>simp
  |cons c r=>exact hpl c (by rw[hS];simp)
 have h58:=(split_len 58 ((Strd.split 59 s).headD [])).2.1
 unfold Strd.readLine at h
 split at h
 ·rename_i a hp
  have:=h58 a (by rw[hp];simp)
  cases hi:Strd.instruction a with
  |none=>rw[hi]at h;cases h
  |some i=>rw[hi]at h;cases h;exact instruction_wfL a _ (by omega) _ hi
 ·rename_i a b hp
  have:=h58 b (by rw[hp];simp)
  cases hi:Strd.instruction b with
  |none=>rw[hi]at h;cases h
  |some i=>
   rw[hi]at h
   simp only[Option.bind_some]at h
   cases hl:Strd.labelName a with
   |none=>rw[hl]at h;cases h
   |some n=>rw[hl]at h;cases h;exact instruction_wfL b _ (by omega) _ hi
 ·cases h
structure WfP (r:Strd.Rd):Prop where
 all:∀l∈r.lines,WfL l∧Strd.Q9 l.ins=true
 org:0≤r.org∧r.org≤16777214
theorem one_opr {l:Strd.Line} (h:WfL l) (hk:9≤l.ins.op.kind) (hm:Strd.Q9 l.ins=true):∃n,l.ins.oprs=[⟨[],n⟩]∧Strd.allows l.ins.op.kind n=true:=by
 have hlen:=h.ins.len
 have hb:=h.bare hk
 have hkk:=h.kinds
 have hr:Strd.roles l.ins.op.kind l.ins.oprs.length=[2]:=by
  have:l.ins.op.kind=9∨l.ins.op.kind=10∨l.ins.op.kind=11:=by omega
  rcases this with e|e|e <;> rw[e] <;> simp[Strd.roles]
 rw[hr]at hlen
 unfold Strd.Q9 at hm
 rw[hr]at hm
 match ho:l.ins.oprs,hlen with
 |[o],_=>
  rw[ho]at hm hb
  have e:=hb o (by simp)
  obtain⟨nm,n⟩:=o
  simp only at e
  subst e
  simp[Strd.numbersOk]at hm
  exact⟨n,rfl,hm⟩
theorem add_wfP (r:Strd.Rd) (t:Strd.Bs) (ht:t.length≤2^20) (h:WfP r):WfP (Strd.add r t).1:=by
 unfold Strd.add
 split
 ·exact h
 ·rename_i l hl
  have hw:=readLine_wfL t ht l hl
  split
  ·exact h
  ·split
   ·exact h
   ·rename_i hm
    simp only[Bool.not_eq_false]at hm
    simp only
    split
    ·exact h
    ·refine⟨fun x hx=>?_,?_⟩
     ·simp only[List.mem_append,List.mem_singleton]at hx
      rcases hx with hx|rfl
      ·exact h.all x hx
      ·exact⟨hw,hm⟩
     ·simp only
      split
      ·rename_i h11
       obtain⟨n,ho,ha⟩:=one_opr hw (by omega) hm
       rw[ho,List.headD_cons]
       rw[h11]at ha
       simp[Strd.allows,Strd.isPlace,Strd.within]at ha
       simp only
       omega
      ·exact h.org
theorem addAll_wfP:∀(ts:List Strd.Bs) (k:Nat) (r:Strd.Rd),(∀t∈ts,t.length≤2^20)→WfP r→WfP (Strd.addAll k r ts).1∧(Strd.addAll k r ts).1.lines.length≤r.lines.length+ts.length
 |[],k,r,_,h=>⟨h,by simp[Strd.addAll]⟩
 |t::ts,k,r,ht,h=>by
  have h1:=add_wfP r t (ht t (by simp)) h
  have h2:=add_len r t
  simp only[Strd.addAll]
  split
  ·have h3:=addAll_wfP ts (k+1) _ (fun t h=>ht t (by simp[h])) h1
   exact⟨h3.1,by rw[List.length_cons];omega⟩
  ·exact⟨h1,by rw[List.length_cons];show (Strd.add r t).1.lines.length≤_;omega⟩
theorem source_wfR (s:Strd.Bs):WfR (Strd.QM s).1:=by
 have key:WfP (Strd.QM s).1∧(Strd.QM s).1.lines.length≤4001:=by
  unfold Strd.QM
  split
  ·exact⟨⟨fun l hl=>(List.not_mem_nil hl).elim,by decide⟩,by simp⟩
  ·have h:=split_len 10 s
   have h1:=addAll_wfP (Strd.split 10 s) 0 ⟨0,[],false⟩ (fun t ht=>by have:=h.2.1 t ht;omega) ⟨fun l hl=>(List.not_mem_nil hl).elim,by decide⟩
   exact⟨h1.1,by have:=h.2.2;have:=h1.2;simp only[List.length_nil]at this;omega⟩
 obtain⟨hp,hl⟩:=key
 refine⟨by omega,fun l h=>(hp.all l h).1.ins,fun l h=>(hp.all l h).1.names,fun l h hk=>?_,fun l h hk=>?_,hp.org,fun l h=>(hp.all l h).1.forms⟩
 ·obtain⟨n,ho,ha⟩:=one_opr (hp.all l h).1 (by omega) (hp.all l h).2
  rw[hk]at ha
  simpa [Strd.num,ho,Strd.allows] using ha
 ·obtain⟨n,ho,ha⟩:=one_opr (hp.all l h).1 (by omega) (hp.all l h).2
  rw[hk]at ha
  simp[Strd.allows,Strd.within]at ha
  simp[Strd.num,ho]
  omega
structure WfQ (l:Strd.Line):Prop where
 bare:9≤l.ins.op.kind→∀o∈l.ins.oprs,o.name=[]
 base:0≤l.ins.op.base∧l.ins.op.base≤65535
 number:0≤l.ins.op.number∧l.ins.op.number<16
theorem find_ops (w:Strd.Bs) (op:Strd.Op) (h:Strd.find w=some op):0≤op.base∧op.base≤65535∧0≤op.number∧op.number<16:=by
 unfold Strd.find at h
 split at h
 ·rename_i r hr
  cases h
  have hm:=List.mem_of_find?_eq_some hr
  have:∀x∈Strd.fixedWords,0≤x.2.2∧x.2.2≤65535:=by decide
  have:=this r hm
  simp only
  omega
 ·generalize Strd.cutForm w=cf at h
  obtain⟨st,f,l⟩:=cf
  simp only at h
  split at h
  ·rename_i n hn
   cases h
   have hlt:n<16:=(List.findIdx?_eq_some_iff_getElem.1 hn).1
   simp only[Strd.jumpOp];omega
  ·split at h
   ·cases h
   ·split at h
    ·rename_i r hr
     cases h
     have hm:=List.mem_of_find?_eq_some hr
     have:∀x∈Strd.farWords,0≤x.2∧x.2≤65535:=by decide
     have:=this r hm
     simp only[Strd.ZZ];omega
    ·cases h
theorem instruction_ops (s:Strd.Bs) (i:Strd.Ins) (h:Strd.instruction s=some i):0≤i.op.base∧i.op.base≤65535∧0≤i.op.number∧i.op.number<16:=by
 unfold Strd.instruction at h
 simp only at h
 split at h
 ·cases h;decide
 ·cases hf:Strd.find (Strd.ZU (Strd.trim s)).1 with
  |none=>rw[hf]at h;cases h
  |some op=>
   rw[hf]at h
   simp only[Option.bind_some]at h
   generalize (if (Strd.ZU (Strd.trim s)).2=[] then [] else Strd.split 44 (Strd.ZU (Strd.trim s)).2)=ts at h
   cases ho:Strd.operands op.kind ts with
   |none=>rw[ho]at h;cases h
   |some os=>
    rw[ho]at h
    cases h
    exact find_ops _ _ hf
theorem readLine_q (s:Strd.Bs) (hs:s.length≤2^20) (l:Strd.Line) (h:Strd.readLine s=some l):WfQ l:=by
 have hL:=readLine_wfL s hs l h
 have hO:0≤l.ins.op.base∧l.ins.op.base≤65535∧0≤l.ins.op.number∧l.ins.op.number<16:=by
  unfold Strd.readLine at h
  split at h
  ·rename_i a _
   cases hi:Strd.instruction a with
   |none=>rw[hi]at h;cases h
   |some i=>rw[hi]at h;cases h;exact instruction_ops _ _ hi
  ·rename_i a b _
   cases hi:Strd.instruction b with
   |none=>rw[hi]at h;cases h
   |some i=>
    rw[hi]at h
    simp only[Option.bind_some]at h
    cases hl:Strd.labelName a with
    |none=>rw[hl]at h;cases h
    |some n=>rw[hl]at h;cases h;exact instruction_ops _ _ hi
  ·cases h
 exact⟨hL.bare,⟨hO.1,hO.2.1⟩,hO.2.2⟩
theorem add_all (Q:Strd.Line→Prop) (r:Strd.Rd) (t:Strd.Bs) (ht:∀l,Strd.readLine t=some l→Q l) (h:∀l∈r.lines,Q l):∀l∈(Strd.add r t).1.lines,Q l:=by
 unfold Strd.add
 split
 ·exact h
 ·rename_i l hl
  split
  ·exact h
  ·split
   ·exact h
   ·simp only
    split
    ·exact h
    ·intro x hx
     simp only[List.mem_append,List.mem_singleton]at hx
     rcases hx with hx|rfl
     ·exact h x hx
     ·exact ht _ hl
theorem addAll_all (Q:Strd.Line→Prop):∀(ts:List Strd.Bs) (k:Nat) (r:Strd.Rd),(∀t∈ts,∀l,Strd.readLine t=some l→Q l)→(∀l∈r.lines,Q l)→∀l∈(Strd.addAll k r ts).1.lines,Q l
 |[],k,r,_,h=>h
 |t::ts,k,r,ht,h=>by
  have h1:=add_all Q r t (ht t (by simp)) h
  simp only[Strd.addAll]
  split
  ·exact addAll_all Q ts (k+1) _ (fun t h=>ht t (by simp[h])) h1
  ·exact h1
theorem source_wfQ (s:Strd.Bs):∀l∈(Strd.QM s).1.lines,WfQ l:=by
 unfold Strd.QM
 split
 ·intro l hl;exact(List.not_mem_nil hl).elim
 ·have h:=split_len 10 s
  exact addAll_all WfQ _ _ _ (fun t ht l hl=>readLine_q t (by have:=h.2.1 t ht;omega) l hl) (fun l hl=>(List.not_mem_nil hl).elim)
theorem placed_num (lines:List Strd.Line) (st:List Int) (i:Strd.Ins) (h:∀o∈i.oprs,o.name=[]) (k:Nat):Strd.num (Strd.placed lines st i) k=Strd.num i k:=by
 unfold Strd.num Strd.placed
 simp only[gD,List.getElem?_map]
 cases hk:i.oprs[k]? with
 |none=>rfl
 |some o=>
  have:=h o (List.mem_of_getElem? hk)
  simp[Strd.Q7,this]
theorem placed_wfA (r:Strd.Rd) (hW:WfR r) (st:List Int) (hst:∀a∈st,0≤a∧a≤2^31) (l:Strd.Line) (hl:l∈r.lines) (hQ:WfQ l):WfA (Strd.placed r.lines st l.ins):=by
 have hI:=hW.ins l hl
 have hlen:(Strd.placed r.lines st l.ins).oprs.length=l.ins.oprs.length:=by simp[Strd.placed]
 have hrl:=hI.len
 refine⟨fun h=>?_,fun h=>?_,fun h=>?_,fun h=>?_,fun o ho=>?_,?_,hQ.base,hQ.number⟩
 ·have h':l.ins.op.kind=2∨l.ins.op.kind=3∨l.ins.op.kind=4:=h
  rw[hlen,←hrl]
  rcases h' with e|e|e <;> rw[e] <;> simp[Strd.roles]
 ·have h':l.ins.op.kind=5∨l.ins.op.kind=6∨l.ins.op.kind=9∨l.ins.op.kind=10:=h
  rw[hlen,←hrl]
  rcases h' with e|e|e|e <;> rw[e] <;> simp[Strd.roles]
 ·have h':l.ins.op.kind=10:=h
  rw[placed_num _ _ _ (hQ.bare (by omega))]
  exact hW.pow l hl h'
 ·have h':l.ins.op.kind=9:=h
  rw[placed_num _ _ _ (hQ.bare (by omega))]
  exact hW.space l hl h'
 ·unfold Strd.placed at ho
  simp only[List.mem_map]at ho
  obtain⟨o',ho',rfl⟩:=ho
  have:=hI.nums o' ho'
  simp only[Strd.Q7,Strd.placeOf]
  split
  ·exact this
  ·generalize (Strd.labelAt r.lines o'.name).getD 0=k
   by_cases hk:k<st.length
   ·have h1:=hst _ (List.getElem_mem hk)
    rw[gD,gE hk]
    simp only[Option.getD_some]
    omega
   ·rw[gD,List.getElem?_eq_none (by omega)]
    decide
 ·rw[hlen];exact hI.le
theorem flat_words2:∀(os:List Strd.Opr),((os.map fun o=>Strd.QI o.num).flatten).length=2*os.length
 |[]=>rfl
 |o::os=>by rw[List.map_cons,List.flatten_cons,List.length_append,flat_words2 os,List.length_cons,show (Strd.QI o.num).length=2 from rfl];omega
theorem pow_le (n:Int) (h:Strd.isPow n=true):0<n∧n≤256:=by
 simp[Strd.isPow]at h;omega
theorem bytes_small (i:Strd.Ins) (f a:Int) (h:WfA i):(Strd.bytes i f a).length≤1024:=by
 have w2:∀n,(Strd.QI n).length=2:=fun _=>rfl
 have h8:=h.len
 by_cases h1:i.op.kind=1
 ·simp[Strd.bytes,h1,w2]
 by_cases h2:i.op.kind=2
 ·simp[Strd.bytes,h2,w2]
 by_cases h3:i.op.kind=3
 ·simp[Strd.bytes,h3,w2]
 by_cases h4:i.op.kind=4
 ·simp only[Strd.bytes,h4]
  unfold Strd.addBytes
  cases Strd.addsShort (Strd.num i 0) <;> simp[w2]
 by_cases h5:i.op.kind=5
 ·simp only[Strd.bytes,h5]
  simp only[show ¬((5:Int)=1) by decide,show ¬((5:Int)=2) by decide,show ¬((5:Int)=3) by decide,show ¬((5:Int)=4) by decide,if_false,if_true]
  unfold Strd.jumpBytes
  simp only
  split
  ·simp[w2]
  ·split
   ·simp[w2]
   ·split
    ·simp[Strd.longJump,w2]
    ·cases Strd.isCond i.op <;> simp[Strd.longJump,w2]
 by_cases h6:i.op.kind=6
 ·simp only[Strd.bytes,h6]
  simp only[show ¬((6:Int)=1) by decide,show ¬((6:Int)=2) by decide,show ¬((6:Int)=3) by decide,show ¬((6:Int)=4) by decide,show ¬((6:Int)=5) by decide,if_false,if_true]
  unfold Strd.farBytes
  split <;> simp[Strd.longJump,w2]
 by_cases h7:i.op.kind=7
 ·have:Strd.bytes i f a=(i.oprs.map fun o=>Strd.QI o.num).flatten:=by
   simp[Strd.bytes,h7]
  rw[this,flat_words2];omega
 by_cases h9:i.op.kind=8
 ·have:Strd.bytes i f a=i.oprs.map fun o=>Strd.byteB o.num:=by
   simp[Strd.bytes,h9]
  rw[this,List.length_map];omega
 by_cases h10:i.op.kind=9∨i.op.kind=10
 ·have e:Strd.bytes i f a=List.replicate (Strd.size i f a).toNat 0:=by
   unfold Strd.bytes
   simp only[h1,h2,h3,h4,h5,h6,h7,h9,h10,if_false,if_true]
  rw[e,List.length_replicate]
  rcases h10 with hk|hk
  ·have:=h.space hk
   have e2:Strd.size i f a=Strd.num i 0:=by unfold Strd.size;simp[hk]
   rw[e2];omega
  ·have:=pow_le _ (h.pow hk)
   have e2:Strd.size i f a=(-a) % Strd.num i 0:=by unfold Strd.size;simp[hk]
   rw[e2]
   have:=Int.emod_lt_of_pos (-a) this.1
   omega
 ·have e:Strd.bytes i f a=[]:=by
   unfold Strd.bytes
   simp only[h1,h2,h3,h4,h5,h6,h7,h9,h10,if_false]
  rw[e];simp
theorem image_take (lines:List Strd.Line) (st:List Int):∀(ls:List Strd.Line) (fs bs:List Int) (k:Nat) (h1:k<ls.length),fs.length=ls.length→ls.length≤bs.length→Strd.image lines st (ls.take (k+1)) (fs.take (k+1)) (bs.take (k+1))=Strd.image lines st (ls.take k) (fs.take k) (bs.take k)++Strd.bytes (Strd.placed lines st ls[k].ins) (fs.getD k 0) (bs.getD k 0)
 |[],_,_,_,h,_,_=>by cases h
 |_::_,[],_,_,_,h,_=>by cases h
 |_::_,_::_,[],_,_,_,h=>by simp at h
 |l::ls,f::fs,b::bs,0,_,_,_=>by simp[Strd.image]
 |l::ls,f::fs,b::bs,k+1,h,h1,h2=>by
  have ih:=image_take lines st ls fs bs k (by simpa using h) (by simpa using h1) (by simpa using h2)
  simp only[List.take_succ_cons,Strd.image,List.getElem_cons_succ,List.getD_cons_succ]at ih ⊢
  rw[ih,List.append_assoc]
theorem image_cut (lines:List Strd.Line) (st:List Int):∀(ls:List Strd.Line) (fs bs:List Int),fs.length=ls.length→Strd.image lines st ls fs (bs.take ls.length)=Strd.image lines st ls fs bs
 |[],_,_,_=>by simp[Strd.image]
 |_::_,[],_,h=>by cases h
 |_::_,_::_,[],_=>by simp[Strd.image]
 |l::ls,f::fs,b::bs,h=>by
  simp only[List.length_cons,List.take_succ_cons,Strd.image]
  rw[image_cut lines st ls fs bs (by simpa using h)]
def missK (r:Strd.Rd) (fs st:List Int) (k:Nat):Bool:=if h:k<r.lines.length then Strd.misses r.lines st r.lines[k] (fs.getD k 0) (st.getD k 0) else false
def overK (r:Strd.Rd) (st:List Int) (k:Nat):Bool:=if h:k<r.lines.length then Strd.overflows r.lines st r.lines[k] else false
theorem firstMiss_cases (lines:List Strd.Line) (st:List Int):∀(n:Nat) (ls:List Strd.Line) (fs bs:List Int),fs.length=ls.length→ls.length≤bs.length →
  (Strd.firstMiss lines st n ls fs bs=0∧∀k (h:k<ls.length),Strd.misses lines st ls[k] (fs.getD k 0) (bs.getD k 0)=false) ∨
  ∃k,∃h:k<ls.length,Strd.firstMiss lines st n ls fs bs=n+k+1∧Strd.misses lines st ls[k] (fs.getD k 0) (bs.getD k 0)=true∧∀j (hj:j<k),Strd.misses lines st (ls[j]'(by omega)) (fs.getD j 0) (bs.getD j 0)=false
 |n,[],[],_,_,_=>.inl ⟨by simp[Strd.firstMiss],fun k hk=>by cases hk⟩
 |_,[],_::_,_,h,_=>by cases h
 |_,_::_,[],_,h,_=>by cases h
 |_,_::_,_::_,[],_,h=>by simp at h
 |n,l::ls,f::fs,a::bs,h1,h2=>by
  simp only[Strd.firstMiss]
  cases hm:Strd.misses lines st l f a
  ·rw[if_neg (by simp)]
   rcases firstMiss_cases lines st (n+1) ls fs bs (by simpa using h1) (by simpa using h2) with ⟨e,h⟩|⟨k,hk,e,h,h'⟩
   ·refine .inl ⟨e,fun k hk=>?_⟩
    cases k with
    |zero=>simpa using hm
    |succ k=>simpa using h k (by simpa using hk)
   ·refine .inr ⟨k+1,by simpa using hk,by omega,by simpa using h,fun j hj=>?_⟩
    cases j with
    |zero=>simpa using hm
    |succ j=>simpa using h' j (by omega)
  ·rw[if_pos rfl]
   exact .inr ⟨0,by simp,by omega,by simpa using hm,fun j hj=>by omega⟩
theorem firstMiss_idx (r:Strd.Rd) (fs st:List Int) (h1:fs.length=r.lines.length) (h2:r.lines.length≤st.length):firstIdx (missK r fs st) r.lines.length=Strd.firstMiss r.lines st 0 r.lines fs st:=by
 rcases firstMiss_cases r.lines st 0 r.lines fs st h1 h2 with ⟨e,h⟩|⟨k,hk,e,h,h'⟩
 ·rw[e]
  exact firstIdx_none _ _ fun i hi=>by unfold missK;rw[dif_pos hi];exact h i hi
 ·rw[e,firstIdx_some (missK r fs st) _ k hk (fun i hi=>by unfold missK;rw[dif_pos (by omega)];exact h' i hi) (by unfold missK;rw[dif_pos hk];exact h)]
  omega
theorem firstOver_idx (r:Strd.Rd) (st:List Int):firstIdx (overK r st) r.lines.length=Strd.firstOver r.lines st:=by
 unfold Strd.firstOver
 split
 ·rename_i k hk
  obtain⟨h1,h2,h3⟩:=List.findIdx?_eq_some_iff_getElem.1 hk
  exact firstIdx_some _ _ k h1 (fun i hi=>by unfold overK;rw[dif_pos (by omega)];have:=h3 i hi;simpa using this) (by unfold overK;rw[dif_pos h1];exact h2)
 ·rename_i hn
  have:=List.findIdx?_eq_none_iff.1 hn
  exact firstIdx_none _ _ fun i hi=>by unfold overK;rw[dif_pos hi];exact this _ (List.getElem_mem _)
theorem settle_len (org:Int) (lines:List Strd.Line):∀(n:Nat) (fs:List Int),fs.length=lines.length→(Strd.settle org lines n fs).length=lines.length
 |0,fs,h=>h
 |n+1,fs,h=>by
  unfold Strd.settle
  simp only
  split
  ·exact h
  ·exact settle_len org lines n _ (longer_len lines _ lines fs _ h (by rw[starts_len _ _ _ h];omega))
end Go.Proofs.YtegiloiojloaoaaGreatDoor
