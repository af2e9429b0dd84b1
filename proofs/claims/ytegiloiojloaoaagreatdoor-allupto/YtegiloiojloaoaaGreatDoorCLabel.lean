/- The contract of read.labelName. -/
import Derived.Test.YtegiloiojloaoaaGreatDoorCSpec
import Derived.Test.YtegiloiojloaoaaGreatDoorCOprs
import Derived.Lib.QuietBelow
import Derived.BigQuiet
set_option linter.unusedVariables false
set_option linter.unusedSimpArgs false
set_option maxHeartbeats 4000000
namespace Go.Proofs.YtegiloiojloaoaaGreatDoor
open Go.RowKit Go.Shelf Go.Sort
theorem label_some (l:Strd.Bs) (n:Strd.Bs) (h:Strd.labelName l=some n):n=Strd.trim l:=by
 unfold Strd.labelName at h
 simp only at h
 split at h
 ·exact(Option.some.inj h).symm
 ·cases h
theorem label_isSome (l:Strd.Bs):(Strd.labelName l).isSome=(Strd.ZT (Strd.trim l)&&(l.drop (l.length-(Strd.trim l).length)==Strd.trim l)):=by
 unfold Strd.labelName
 simp only
 by_cases h:Strd.ZT (Strd.trim l)=true∧l.drop (l.length-(Strd.trim l).length)=Strd.trim l
 ·rw[if_pos h,h.1,h.2];simp
 ·rw[if_neg h]
  cases h1:Strd.ZT (Strd.trim l)
  ·rfl
  ·rw[h1]at h
   have:(l.drop (l.length-(Strd.trim l).length)==Strd.trim l)=false:=by simpa using fun e=>h ⟨rfl,e⟩
   rw[this];rfl
theorem labelName_c (s:ByteArray) (w:World) (hs:s.size≤2^40) (hT:Tabs w) :
  Calls Tryz.prog 134 #[.string s] w fun e w'=>e=.returned (.tuple #[.string (bstr (Strd.trim s.data.toList)),.bool (Strd.labelName s.data.toList).isSome])∧Below w.heap.size w w':=by
 have hl:s.size=s.data.toList.length:=ZY s
 have htl:=trim_len s.data.toList
 rw[label_isSome]
 generalize hnm:Strd.trim s.data.toList=nm at *
 have hns:(bstr nm).size=nm.length:=ZA nm
 have hex:(s.extract (s.size-nm.length) s.size).data.toList=s.data.toList.drop (s.data.toList.length-nm.length):=by rw[ZV,hl,List.take_length]
 have hnl:nm.length≤s.size:=by omega
 have Hl:=QB hl
 have Hnm:=QB hnm
 have Hex:=QB hex
 have HT:=QB hT
 clear hl hnm hT htl hex
 generalize hN:Strd.ZT nm=N
 generalize hD:s.data.toList.drop (s.data.toList.length-nm.length)=D at *
 have HN:=QB hN
 have HD:=QB hD
 clear hN hD
 go_enter Tryz.func134,Tryz.ntmps134
 go_wp2_with fail
 refine(trimBlanks_c _ _ (by omega) (QA HT)).mono ?_
 rintro e w1 ⟨rfl,hb1⟩
 rw[QA Hnm]
 have ew:IntKind.i64.wrap ((s.size:Int)-(nm.length:Int))=((s.size-nm.length:Nat):Int):=by rw[IntWalk.i64_in _ (by omega)];omega
 have e1:(0:Int)≤((s.size-nm.length:Nat):Int):=by omega
 have e2:((s.size-nm.length:Nat):Int)≤(s.size:Int):=by omega
 have cN:∀d os,Calls Tryz.prog 161 #[.string (bstr nm)] (grow (redrawn w1 d) os) fun e w''=>e=.returned (.bool N)∧∃p:Regrown,w''=grow (redrawn w1 p.d) p.os:=fun d os=>Calls.regrown_of ((isName_c _ _ (by rw[ZA];omega)).mono fun e w2 h=>⟨by rw[h.1,Q4,QA HN],h.2⟩)
 cases N
 ·go_wp2
  refine wp_region_quiet_below (by kernel_rfl) (by kernel_rfl) ?_
  repeat (go_big_quiet_step (first|exact cN _ _))
  refine wpQuiet_nil ?_
  intro _ hw'
  obtain⟨⟨dq,osq⟩,hw''⟩:=hw'
  subst hw''
  go_wp2
  go_ret2
  exact⟨rfl,QE hb1 (below_regrown w1 dq osq)⟩
 ·go_wp2
  refine wp_region_quiet_below (by kernel_rfl) (by kernel_rfl) ?_
  repeat (go_big_quiet_step (first|exact cN _ _))
  refine wpQuiet_nil ?_
  intro _ hw'
  obtain⟨⟨dq,osq⟩,hw''⟩:=hw'
  subst hw''
  go_wp2
  go_ret2
  refine⟨?_,QE hb1 (below_regrown w1 dq osq)⟩
  rw[←QA Hex,←tolist_data]
  rfl
def LineOut (w':World) (x:Option Strd.Line) (l:Strd.Bs) (o:Strd.Op) (p:Option Addr) (n c:Nat):Prop:=∀ln,x=some ln→ln.label=l∧ln.ins.op=o∧QS w' (.slice p n c) ln.ins.oprs
theorem LineOut.none (w':World) (l:Strd.Bs) (o:Strd.Op) (p:Option Addr) (n c:Nat):LineOut w' none l o p n c:=fun _ h=>by cases h
def linCells (l:Strd.Bs) (o:Strd.Op) (p:Option Addr) (n c:Nat):Array Value:=#[.string (bstr l),.int .i64 o.kind,.int .i64 o.base,.int .i64 o.number,.int .i64 o.first,.int .i64 o.last,.slice p n c]
theorem line_one (s:ByteArray) (a b c d e:Int) (p:Option Addr) (n m:Nat):(#[Value.string s,.int .i64 a,.int .i64 b,.int .i64 c,.int .i64 d,.int .i64 e,.slice p n m]).all (·.oneCell')=true:=by simp[Value.oneCell']
def zLine:Array Value:=#[.string ⟨#[]⟩,.int .i64 0,.int .i64 0,.int .i64 0,.int .i64 0,.int .i64 0,.slice none 0 0]
theorem readLine_c (s:ByteArray) (w:World) (hs:s.size≤2^20) (hT:Tabs w) :
  Calls Tryz.prog 96 #[.string s] w fun e w'=>∃(l:Strd.Bs) (o:Strd.Op) (p:Option Addr) (n c:Nat),e=.returned (.tuple #[.agg (linCells l o p n c),.bool (Strd.readLine s.data.toList).isSome])∧LineOut w' (Strd.readLine s.data.toList) l o p n c∧Below w.heap.size w w':=by
 have hl:s.size=s.data.toList.length:=ZY s
 obtain⟨_,hpl,hp1⟩:=split_len 59 s.data.toList
 generalize hR:Strd.readLine s.data.toList=R
 have hRe:R=match Strd.split 58 ((Strd.split 59 s.data.toList).headD []) with
  |[a]=>(Strd.instruction a).map fun i=>⟨[],i⟩
  |[a,b]=>(Strd.instruction b).bind fun i=>(Strd.labelName a).map fun l=>⟨l,i⟩
  |_=>none:=hR.symm
 clear hR
 cases hS:Strd.split 59 s.data.toList with
 |nil=>rw[hS]at hp1;simp at hp1
 |cons ct rs=>
 have hct:ct.length≤2^20:=by have:=hpl ct (by rw[hS];simp);omega
 rw[hS]at hRe
 change R=match Strd.split 58 ct with
  |[a]=>(Strd.instruction a).map fun i=>⟨[],i⟩
  |[a,b]=>(Strd.instruction b).bind fun i=>(Strd.labelName a).map fun l=>⟨l,i⟩
  |_=>none at hRe
 obtain⟨hpn,hpl2,_⟩:=split_len 58 ct
 generalize hS2:Strd.split 58 ct=parts at hRe hpl2 hpn
 have hpn2:(parts.length:Int)≤2^21:=by omega
 have HR:=QB hRe
 have HS:=QB hS
 have HS2:=QB hS2
 have HT:=QB hT
 have Hpl:=QB hpl2
 clear hRe hS hS2 hT hpl2 hpl hp1 hl hpn
 have hbw:=QF w (.cells #[.string ⟨#[]⟩,.int .i64 0,.int .i64 0,.int .i64 0,.int .i64 0,.int .i64 0,.slice none 0 0] 99)
 go_enter Tryz.func96,Tryz.ntmps96
 go_wp2_with fail
 refine(pieces_c _ 59 (by decide) _ (by omega)).mono ?_
 rintro e w1 ⟨v1,rfl,hv1,hb1⟩
 rw[QA HS]at hv1
 obtain⟨p1,cap1,rfl⟩:∃p cap,v1=.slice p (ct::rs).length cap:=by
  rcases hv1.2 with ⟨rfl,h0⟩|⟨g,cap,cur,rfl,_⟩
  ·exact⟨Option.none,0,by rw[h0]⟩
  ·exact⟨_,_,rfl⟩
 obtain⟨g1,hp1,hn1,hlt1,hc1⟩:=hv1.at 0 (by simp)
 subst hp1
 simp only[List.getElem_cons_zero]at hc1
 have hB1:=below_at hb1
 have Hx1:=QB (bbox hb1 (QH w (.cells #[.string ⟨#[]⟩,.int .i64 0,.int .i64 0,.int .i64 0,.int .i64 0,.int .i64 0,.slice none 0 0] 99)))
 clear hb1 hbw hv1 hn1
 have hlen1:((ct::rs).length:Int)=(rs.length:Int)+1:=by simp
 have hz1:(0:Int)<((ct::rs).length:Int):=by omega
 go_wp2_with fail
 refine(pieces_c _ 58 (by decide) _ (by rw[ZA];omega)).mono ?_
 rintro e w2 ⟨v2,rfl,hv2,hb2⟩
 rw[Q4,QA HS2]at hv2
 obtain⟨p2,n2,cap2,hn2,rfl⟩:∃p n cap,n=parts.length∧v2=.slice p n cap:=by
  rcases hv2.2 with ⟨rfl,h0⟩|⟨g,cap,cur,rfl,_⟩
  ·exact⟨Option.none,0,0,h0.symm,rfl⟩
  ·exact⟨_,_,_,rfl,rfl⟩
 have hB2:=QE hB1 hb2
 have Hx2:=QB (bbox hb2 (QA Hx1))
 have hlt2:=QD (QA Hx2)
 clear hb2 Hx1 hB1 hc1 hlt1 hlen1 hz1
 clear HS2 hpn2
 rcases parts with _|⟨a,_|⟨b,_|⟨c,d⟩⟩⟩
 ·have hfin:R=none:=QA HR
  clear HR
  have Hfin:=QB hfin
  clear hfin
  obtain rfl:n2=0:=hn2
  go_wp2_with (refine wpList_store_row rfl 99 (.tmp 2) (.tmp 55) rfl w.heap.size #[.string ⟨#[]⟩,.int .i64 0,.int .i64 0,.int .i64 0,.int .i64 0,.int .i64 0,.slice none 0 0] rfl rfl 99 #[.string ⟨#[]⟩,.int .i64 0,.int .i64 0,.int .i64 0,.int .i64 0,.int .i64 0,.slice none 0 0] (by exact QA Hx2) (by kernel_rfl) rfl (line_one _ _ _ _ _ _ _ _ _) ?_)
  refine bodyPost_ret (v:=.tuple #[.agg #[.string ⟨#[]⟩,.int .i64 0,.int .i64 0,.int .i64 0,.int .i64 0,.int .i64 0,.slice none 0 0],.bool false]) (by exact QP Tryz.results96 _ _ w.heap.size 99 _ _ _ rfl (by exact ZJ (QA Hx2)) Tryz.underlying99 rfl (by kernel_rfl)) rfl ?_
  refine⟨[],⟨0,0,0,0,0⟩,none,0,0,by rw[QA Hfin];rfl,by rw[QA Hfin];exact LineOut.none _ _ _ _ _ _,QT hB2 (Nat.le_refl _) _⟩
 ·have hfin:R=(Strd.instruction a).map fun i=>⟨[],i⟩:=QA HR
  have hal:a.length≤2^20:=by have:=QA Hpl a (by simp);omega
  obtain rfl:n2=1:=hn2
  obtain⟨g2,hp2,hn2,hlt2',hc2⟩:=hv2.at 0 (by simp)
  subst hp2
  simp only[List.getElem_cons_zero]at hc2
  clear HR hv2 hn2
  have Hfin:=QB hfin
  clear hfin
  go_wp2_with fail
  refine(instruction_c _ _ (by rw[ZA];omega) ((QA HT).below hB2)).mono ?_
  rintro e w3 ⟨o,p3,n3,c3,rfl,hO,hb3⟩
  rw[Q4]at hO ⊢
  have hB3:=QE hB2 hb3
  have Hx3:=QB (bbox hb3 (QA Hx2))
  have hlt3:=QD (QA Hx3)
  have HO:=QB hO
  clear Hx2 hb3 hB2 hO
  generalize hII:Strd.instruction a=II at Hfin HO ⊢
  clear hII
  go_wp2_with (refine wpList_store_row rfl 99 (.tmp 2) (.tmp 30) rfl w.heap.size #[.string ⟨#[]⟩,.int .i64 o.kind,.int .i64 o.base,.int .i64 o.number,.int .i64 o.first,.int .i64 o.last,.slice p3 n3 c3] rfl rfl 99 #[.string ⟨#[]⟩,.int .i64 0,.int .i64 0,.int .i64 0,.int .i64 0,.int .i64 0,.slice none 0 0] (by exact bbox (QF _ _) (QA Hx3)) (by kernel_rfl) rfl (line_one _ _ _ _ _ _ _ _ _) ?_)
  refine bodyPost_ret (v:=.tuple #[.agg #[.string ⟨#[]⟩,.int .i64 o.kind,.int .i64 o.base,.int .i64 o.number,.int .i64 o.first,.int .i64 o.last,.slice p3 n3 c3],.bool II.isSome]) (by exact QP Tryz.results96 _ _ w.heap.size 99 _ _ _ rfl (by exact ZJ (bbox (QF _ _) (QA Hx3))) Tryz.underlying99 rfl (by kernel_rfl)) rfl ?_
  refine⟨[],o,p3,n3,c3,by rw[QA Hfin,Option.isSome_map];rfl,?_,QT (QE hB3 (QF _ _)) (Nat.le_refl _) _⟩
  intro ln hln
  rw[QA Hfin]at hln
  cases II with
  |none=>cases hln
  |some i=>
   cases hln
   obtain⟨h1,h2⟩:=QA HO i rfl
   exact⟨rfl,h1,ZP (QO h2 (QF _ _)) (bbox (QF _ _) (QA Hx3)) (by decide)⟩
 ·have hfin:R=(Strd.instruction b).bind fun i=>(Strd.labelName a).map fun l=>⟨l,i⟩:=QA HR
  have hal:a.length≤2^20:=by have:=QA Hpl a (by simp);omega
  have hbl:b.length≤2^20:=by have:=QA Hpl b (by simp);omega
  obtain rfl:n2=2:=hn2
  obtain⟨g2,hp2,hn2,hlt2',hc2⟩:=hv2.at 0 (by simp)
  obtain⟨g2',hp2',_,_,hc2'⟩:=hv2.at 1 (by simp)
  rw[hp2]at hp2'
  subst hp2
  cases hp2'
  simp only[List.getElem_cons_zero,List.getElem_cons_succ]at hc2 hc2'
  clear HR hv2 hn2
  have Hfin:=QB hfin
  clear hfin
  go_wp2_with fail
  refine(instruction_c _ _ (by rw[ZA];omega) ((QA HT).below hB2)).mono ?_
  rintro e w3 ⟨o,p3,n3,c3,rfl,hO,hb3⟩
  rw[Q4]at hO ⊢
  have hB3:=QE hB2 hb3
  have Hx3:=QB (bbox hb3 (QA Hx2))
  have hlt3:=QD (QA Hx3)
  have hc3:w3.cell? ⟨g2,0,none⟩=some (.string (bstr a)):=by rw[(bcell hb3).1 _ _ hlt2'];exact hc2
  have hlt3':g2<w3.heap.size:=Nat.lt_of_lt_of_le hlt2' hb3.size
  have HO:=QB hO
  clear Hx2 hb3 hB2 hO hc2 hc2'
  generalize hII:Strd.instruction b=II at Hfin HO ⊢
  clear hII
  go_wp2_with fail
  refine(labelName_c _ _ (by rw[ZA];omega) ((QA HT).below (QE hB3 (QF _ _)))).mono ?_
  rintro e w5 ⟨rfl,hb5⟩
  rw[Q4]
  have Hbo:=QB (bbox hb5 (QH w3 (.cells #[.int .i64 o.kind,.int .i64 o.base,.int .i64 o.number,.int .i64 o.first,.int .i64 o.last,.slice p3 n3 c3] 97)))
  have Hx5:=QB (bbox hb5 (bbox (QF _ _) (QA Hx3)))
  have hlt5:=QD (QA Hbo)
  have hB5:Below w.heap.size w w5:=QE (QE hB3 (QF _ _)) hb5
  have b0:=QC (QA Hbo) 0
  have b1:=QC (QA Hbo) 1
  have b2:=QC (QA Hbo) 2
  have b3:=QC (QA Hbo) 3
  have b4:=QC (QA Hbo) 4
  have b5:=QC (QA Hbo) 5
  simp only[gA,gZ,gS]at b0 b1 b2 b3 b4 b5
  have HO5:Hid (InsOut w5 II o p3 n3 c3):=QB fun i hi=>⟨(QA HO i hi).1,QO (QO (QA HO i hi).2 (QF _ _)) hb5⟩
  clear hb5 HO Hx3
  generalize hLL:Strd.labelName a=LL at Hfin ⊢
  have HLL:=QB hLL
  clear hLL
  generalize htr:Strd.trim a=tr at *
  have Htr:=QB htr
  clear htr
  cases II with
  |none=>
   go_wp2_with (refine wpList_store_row rfl 99 (.tmp 2) (.tmp 50) rfl w.heap.size #[.string (bstr tr),.int .i64 o.kind,.int .i64 o.base,.int .i64 o.number,.int .i64 o.first,.int .i64 o.last,.slice p3 n3 c3] rfl rfl 99 #[.string ⟨#[]⟩,.int .i64 0,.int .i64 0,.int .i64 0,.int .i64 0,.int .i64 0,.slice none 0 0] (by exact QA Hx5) (by kernel_rfl) rfl (line_one _ _ _ _ _ _ _ _ _) ?_)
   refine bodyPost_ret (v:=.tuple #[.agg #[.string (bstr tr),.int .i64 o.kind,.int .i64 o.base,.int .i64 o.number,.int .i64 o.first,.int .i64 o.last,.slice p3 n3 c3],.bool false]) (by exact QP Tryz.results96 _ _ w.heap.size 99 _ _ _ rfl (by exact ZJ (QA Hx5)) Tryz.underlying99 rfl (by kernel_rfl)) rfl ?_
   refine⟨tr,o,p3,n3,c3,by rw[QA Hfin];rfl,by rw[QA Hfin];exact LineOut.none _ _ _ _ _ _,QT hB5 (Nat.le_refl _) _⟩
  |some i=>
   go_wp2_with (refine wpList_store_row rfl 99 (.tmp 2) (.tmp 50) rfl w.heap.size #[.string (bstr tr),.int .i64 o.kind,.int .i64 o.base,.int .i64 o.number,.int .i64 o.first,.int .i64 o.last,.slice p3 n3 c3] rfl rfl 99 #[.string ⟨#[]⟩,.int .i64 0,.int .i64 0,.int .i64 0,.int .i64 0,.int .i64 0,.slice none 0 0] (by exact QA Hx5) (by kernel_rfl) rfl (line_one _ _ _ _ _ _ _ _ _) ?_)
   refine bodyPost_ret (v:=.tuple #[.agg #[.string (bstr tr),.int .i64 o.kind,.int .i64 o.base,.int .i64 o.number,.int .i64 o.first,.int .i64 o.last,.slice p3 n3 c3],.bool LL.isSome]) (by exact QP Tryz.results96 _ _ w.heap.size 99 _ _ _ rfl (by exact ZJ (QA Hx5)) Tryz.underlying99 rfl (by kernel_rfl)) rfl ?_
   refine⟨tr,o,p3,n3,c3,by rw[QA Hfin,Option.bind_some,Option.isSome_map];rfl,?_,QT hB5 (Nat.le_refl _) _⟩
   intro ln hln
   rw[QA Hfin,Option.bind_some]at hln
   cases LL with
   |none=>cases hln
   |some l=>
    cases hln
    obtain⟨h1,h2⟩:=QA HO5 i rfl
    exact⟨by rw[←QA Htr];exact label_some _ _ (QA HLL),h1,ZP h2 (QA Hx5) (by decide)⟩
 ·have hfin:R=none:=QA HR
  obtain⟨n3,hn3,hn3'⟩:∃n3:Nat,n2=n3∧3≤n3:=⟨n2,rfl,by rw[hn2];simp⟩
  clear HR hn2
  have Hfin:=QB hfin
  clear hfin
  have hne1:((n2:Int)=1)=False:=by simp only[eq_iff_iff,iff_false];omega
  have hne2:((n2:Int)=2)=False:=by simp only[eq_iff_iff,iff_false];omega
  go_wp2_with (refine wpList_store_row rfl 99 (.tmp 2) (.tmp 55) rfl w.heap.size #[.string ⟨#[]⟩,.int .i64 0,.int .i64 0,.int .i64 0,.int .i64 0,.int .i64 0,.slice none 0 0] rfl rfl 99 #[.string ⟨#[]⟩,.int .i64 0,.int .i64 0,.int .i64 0,.int .i64 0,.int .i64 0,.slice none 0 0] (by exact QA Hx2) (by kernel_rfl) rfl (line_one _ _ _ _ _ _ _ _ _) ?_)
  refine bodyPost_ret (v:=.tuple #[.agg #[.string ⟨#[]⟩,.int .i64 0,.int .i64 0,.int .i64 0,.int .i64 0,.int .i64 0,.slice none 0 0],.bool false]) (by exact QP Tryz.results96 _ _ w.heap.size 99 _ _ _ rfl (by exact ZJ (QA Hx2)) Tryz.underlying99 rfl (by kernel_rfl)) rfl ?_
  refine⟨[],⟨0,0,0,0,0⟩,none,0,0,by rw[QA Hfin];rfl,by rw[QA Hfin];exact LineOut.none _ _ _ _ _ _,QT hB2 (Nat.le_refl _) _⟩
def okAt (k r:Int) (o:Strd.Opr):Bool:=if o.name≠[] then true else if r=0 then decide (o.num≤7) else Strd.allows k o.num
theorem nums_cons (k r:Int) (o:Strd.Opr) (rs:List Int) (os:List Strd.Opr):Strd.numbersOk k (r::rs) (o::os)=(okAt k r o&&Strd.numbersOk k rs os):=rfl
theorem nums_bad (k:Int):∀(rs:List Int) (os:List Strd.Opr) (i:Nat) (h1:i<rs.length) (h2:i<os.length),okAt k rs[i] os[i]=false→Strd.numbersOk k rs os=false
 |[],_,i,h1,_,_=>by simp at h1
 |_::_,[],i,_,h2,_=>by simp at h2
 |r::rs,o::os,0,_,_,h=>by
  rw[nums_cons]
  simp only[List.getElem_cons_zero]at h
  rw[h,Bool.false_and]
 |r::rs,o::os,i+1,h1,h2,h=>by
  rw[nums_cons,nums_bad k rs os i (by simpa using h1) (by simpa using h2) (by simpa using h),Bool.and_false]
theorem nums_all (k:Int):∀(rs:List Int) (os:List Strd.Opr),(∀i (h1:i<rs.length) (h2:i<os.length),okAt k rs[i] os[i]=true)→Strd.numbersOk k rs os=true
 |[],_,_=>rfl
 |_::_,[],_=>rfl
 |r::rs,o::os,h=>by
  rw[nums_cons,nums_all k rs os fun i h1 h2=>by
   have:=h (i+1) (by simpa using h1) (by simpa using h2)
   rwa[List.getElem_cons_succ,List.getElem_cons_succ]at this]
  have:=h 0 (by simp) (by simp)
  simp only[List.getElem_cons_zero]at this
  rw[this];rfl
theorem numbersMayBe_c (i:Strd.Ins) (v:Value) (w:World) (hO:QS w v i.oprs) (hlen:(Strd.roles i.op.kind i.oprs.length).length=i.oprs.length) (hn:i.oprs.length≤4096) (hnum:∀o∈i.oprs,-2^32≤o.num∧o.num≤2^32) :
  Calls Tryz.prog 97 #[.agg #[.int .i64 i.op.kind,.int .i64 i.op.base,.int .i64 i.op.number,.int .i64 i.op.first,.int .i64 i.op.last,v]] w fun e w'=>e=.returned (.bool (Strd.Q9 i))∧Below w.heap.size w w':=by
 obtain⟨p,cap,rfl⟩:=hO.shape
 generalize hNM:Strd.Q9 i=NM
 have hNe:NM=Strd.numbersOk i.op.kind (Strd.roles i.op.kind i.oprs.length) i.oprs:=hNM.symm
 generalize hrs:Strd.roles i.op.kind i.oprs.length=rs at hNe hlen
 generalize hnn:i.oprs.length=n at hlen hn hrs
 have HNe:=QB hNe
 have HO:=QB hO
 have Hnum:=QB hnum
 have Hlen:=QB hlen
 have Hnn:=QB hnn
 have Hrs:=QB hrs
 clear hNM hNe hO hnum hlen hnn hrs
 have hbw:=QF w (.cells #[.int .i64 i.op.kind,.int .i64 i.op.base,.int .i64 i.op.number,.int .i64 i.op.first,.int .i64 i.op.last,.slice p n cap] 97)
 go_enter Tryz.func97,Tryz.ntmps97
 go_wp2_with fail
 refine(Roles_c i.op.kind n _ (by omega)).mono ?_
 rintro e w1 ⟨v1,rfl,hR,hb1⟩
 rw[QA Hrs]at hR
 obtain⟨pr,cr,rfl⟩:=hR.shape
 have HR:=QB hR
 have Hx1:=QB (bbox hb1 (QH w (.cells #[.int .i64 i.op.kind,.int .i64 i.op.base,.int .i64 i.op.number,.int .i64 i.op.first,.int .i64 i.op.last,.slice p n cap] 97)))
 have hB1:=below_at hb1
 clear hR hb1 hbw
 have hx5:=QC (QA Hx1) 5
 have hlx:=QD (QA Hx1)
 simp only[gA,gZ,gS]at hx5
 go_wp2_with fail
 go_loopw [16] (fun c wr=>∃(j:Nat),j≤n∧c=.int .i64 j∧(∀x (h1:x<rs.length) (h2:x<i.oprs.length),x<j→okAt i.op.kind rs[x] i.oprs[x]=true)∧Below w1.heap.size w1 wr) (fun c _=>n-(intOf c).toNat)
 case atStart=>exact⟨0,by omega,rfl,fun x _ _ h=>by omega,Below.refl _ _⟩
 case round=>
  obtain⟨j,hj,rfl,hall,hbl⟩:=hrel
  have Hall:=QB hall
  clear hall
  have hblw:Below w.heap.size w wr:=QE hB1 hbl
  by_cases hlt:j<n
  ·have hlt1:j<i.oprs.length:=by rw[QA Hnn];exact hlt
   have hlt2:j<rs.length:=by rw[QA Hlen];exact hlt
   obtain⟨bo,rfl,_,hbo,hc0,hc1⟩:=((QA HO).below hblw).at j hlt1
   obtain⟨br,rfl,_,hbr,hcr⟩:=((QA HR).below hbl).at j hlt2
   have hxk:=QC (bbox hbl (QA Hx1)) 0
   have hlx2:=QD (bbox hbl (QA Hx1))
   simp only[gA,gZ,gS]at hxk
   have hnb:=QA Hnum _ (List.getElem_mem hlt1)
   have hok:okAt i.op.kind rs[j] i.oprs[j]=false→NM=false:=fun h=>by rw[QA HNe];exact nums_bad _ _ _ j hlt2 hlt1 h
   have hgo:okAt i.op.kind rs[j] i.oprs[j]=true→∀x (h1:x<rs.length) (h2:x<i.oprs.length),x<j+1→okAt i.op.kind rs[x] i.oprs[x]=true:=fun h x h1 h2 h3=>by
    by_cases e:x<j
    ·exact QA Hall x h1 h2 e
    ·obtain rfl:x=j:=by omega
     exact h
   generalize hoj:i.oprs[j]=o at *
   generalize hrj:rs[j]=r at *
   have Hok:=QB hok
   have Hgo:=QB hgo
   clear hok hgo hoj hrj Hall
   have hjn:(j:Int)<(n:Int):=by omega
   have hjr:(j:Int)<(rs.length:Int):=by omega
   by_cases hnm:o.name=[]
   ·have hbn:bstr o.name=⟨#[]⟩:=by rw[hnm]
    rw[hbn]at hc0
    by_cases hr0:r=0
    ·subst hr0
     by_cases h7:o.num≤7
     ·have hk:okAt i.op.kind 0 o=true:=by simp[okAt,hnm,h7]
      have Hk:=QB (QA Hgo hk)
      clear hk hnm
      go_wp2
      go_roundw
      case rel=>exact⟨j+1,by omega,by go_num,QA Hk,QE hbl (QF _ _)⟩
      case measure=>simp[intOf];omega
     ·have hk:okAt i.op.kind 0 o=false:=by simp[okAt,hnm,h7]
      have Hk:=QB (QA Hok hk)
      clear hk hnm
      go_wp2
      go_ret
      exact⟨by rw[QA Hk];rfl,QE hblw (QF _ _)⟩
    ·cases hA:Strd.allows i.op.kind o.num
     ·have hk:okAt i.op.kind r o=false:=by simp[okAt,hnm,hr0,hA]
      have Hk:=QB (QA Hok hk)
      clear hk hnm
      go_wp2_with (go_at_call 84;refine(Allows_c _ _ _ (by omega)).mono ?_;rintro e w2 ⟨rfl,hw2⟩;rw[hw2,hA])
      go_ret
      exact⟨by rw[QA Hk];rfl,QE hblw (QF _ _)⟩
     ·have hk:okAt i.op.kind r o=true:=by simp[okAt,hnm,hr0,hA]
      have Hk:=QB (QA Hgo hk)
      clear hk hnm
      go_wp2_with (go_at_call 84;refine(Allows_c _ _ _ (by omega)).mono ?_;rintro e w2 ⟨rfl,hw2⟩;rw[hw2,hA])
      go_roundw
      case rel=>exact⟨j+1,by omega,by go_num,QA Hk,QE hbl (QF _ _)⟩
      case measure=>simp[intOf];omega
   ·have hk:okAt i.op.kind r o=true:=by simp[okAt,hnm]
    have Hk:=QB (QA Hgo hk)
    have hne:o.name.isEmpty=false:=by simpa using hnm
    clear hk hnm
    go_wp2
    go_roundw
    case rel=>exact⟨j+1,by omega,by go_num,QA Hk,QE hbl (QF _ _)⟩
    case measure=>simp[intOf];omega
  ·obtain rfl:j=n:=by omega
   have hfin:NM=true:=by
    rw[QA HNe]
    exact nums_all _ _ _ fun x h1 h2=>QA Hall x h1 h2 (by rw[QA Hlen]at h1;exact h1)
   have Hfin:=QB hfin
   clear hfin
   go_wp2
   go_ret
   exact⟨by rw[QA Hfin];rfl,hblw⟩
end Go.Proofs.YtegiloiojloaoaaGreatDoor
namespace Go.Proofs.YtegiloiojloaoaaGreatDoor
open Go.RowKit
theorem digits_lt (b:Nat) (hb:b≤16):∀(l:Strd.Bs) (acc x p:Nat),acc<16^p→Strd.QY b acc l=some x→x<16^(p+l.length)
 |[],acc,x,p,h,e=>by simp only[Strd.QY,Option.some.injEq]at e;subst e;exact h
 |c::t,acc,x,p,h,e=>by
  simp only[Strd.QY]at e
  split at e
  ·rename_i hd
   have h1:acc*b+Strd.digitVal c<16^(p+1):=by
    rw[Nat.pow_succ]
    have h2:acc*b≤acc*16:=Nat.mul_le_mul_left _ hb
    omega
   have:=digits_lt b hb t _ x (p+1) h1 e
   rw[List.length_cons,show p+(t.length+1)=p+1+t.length by omega]
   exact this
  ·cases e
theorem number_small (s:Strd.Bs) (n:Int) (h:Strd.number s=some n):-2^32≤n∧n≤2^32:=by
 unfold Strd.number at h
 simp only at h
 generalize Strd.ZB 45 s=p at h
 generalize Strd.ZB 36 p.1=q at h
 split at h
 ·rename_i hl
  cases hd:Strd.QY (if q.2=true then 16 else 10) 0 q.1 with
  |none=>rw[hd]at h;cases h
  |some v=>
   rw[hd]at h
   have h1:=digits_lt (if q.2=true then 16 else 10) (by split <;> omega) q.1 0 v 0 (by simp) hd
   have h2:v<16^8:=Nat.lt_of_lt_of_le h1 (Nat.pow_le_pow_right (by omega) (by omega))
   have h3:=Option.some.inj h
   rw[←h3]
   cases p.2 <;> simp <;> omega
 ·cases h
theorem operand_small (r:Int) (s:Strd.Bs) (o:Strd.Opr) (h:Strd.QR r s=some o):-2^32≤o.num∧o.num≤2^32:=by
 unfold Strd.QR at h
 split at h
 ·cases h;exact⟨by simp,by simp⟩
 ·split at h
  ·cases h
  ·split at h
   ·cases h
   ·rename_i d _ _
    cases hn:Strd.number d with
    |none=>rw[hn]at h;cases h
    |some n=>rw[hn]at h;cases h;exact number_small _ _ hn
theorem ros_wf:∀(rs:List Int) (ts:List Strd.Bs) (os:List Strd.Opr),Strd.ZG rs ts=some os→os.length=ts.length∧rs.length=ts.length∧∀o∈os,-2^32≤o.num∧o.num≤2^32
 |[],[],os,h=>by cases h;exact⟨rfl,rfl,fun o ho=>by cases ho⟩
 |[],_::_,os,h=>by cases h
 |_::_,[],os,h=>by cases h
 |r::rs,t::ts,os,h=>by
  simp only[Strd.ZG]at h
  cases h1:Strd.QR r (Strd.trim t) with
  |none=>rw[h1]at h;cases h
  |some o=>
   rw[h1]at h
   simp only[Option.bind_some]at h
   cases h2:Strd.ZG rs ts with
   |none=>rw[h2]at h;cases h
   |some os'=>
    rw[h2]at h
    cases h
    obtain⟨a,b,c⟩:=ros_wf rs ts os' h2
    refine⟨by simp[a],by simp[b],?_⟩
    intro x hx
    rcases List.mem_cons.1 hx with rfl|hx
    ·exact operand_small _ _ _ h1
    ·exact c x hx
theorem roles_le (k:Int) (n:Nat):(Strd.roles k n).length≤8:=by
 unfold Strd.roles
 repeat' split
 all_goals first|(simp;done)|(rw[List.length_replicate];omega)|simp
structure WfI (i:Strd.Ins):Prop where
 len:(Strd.roles i.op.kind i.oprs.length).length=i.oprs.length
 nums:∀o∈i.oprs,-2^32≤o.num∧o.num≤2^32
theorem WfI.le {i:Strd.Ins} (h:WfI i):i.oprs.length≤8:=by rw[←h.len];exact roles_le _ _
theorem instruction_wf (s:Strd.Bs) (i:Strd.Ins) (h:Strd.instruction s=some i):WfI i:=by
 unfold Strd.instruction at h
 simp only at h
 split at h
 ·cases h;exact⟨by decide,fun o ho=>by cases ho⟩
 ·cases hf:Strd.find (Strd.ZU (Strd.trim s)).1 with
  |none=>rw[hf]at h;cases h
  |some op=>
   rw[hf]at h
   simp only[Option.bind_some]at h
   generalize (if (Strd.ZU (Strd.trim s)).2=[] then [] else Strd.split 44 (Strd.ZU (Strd.trim s)).2)=ts at h
   cases ho:Strd.operands op.kind ts with
   |none=>rw[ho]at h;cases h
   |some os=>
    rw[ho]at h
    cases h
    obtain⟨a,b,c⟩:=ros_wf _ _ _ ho
    exact⟨by simp only;rw[a];exact b,c⟩
theorem readLine_wf (s:Strd.Bs) (l:Strd.Line) (h:Strd.readLine s=some l):WfI l.ins:=by
 unfold Strd.readLine at h
 split at h
 ·rename_i a _
  cases hi:Strd.instruction a with
  |none=>rw[hi]at h;cases h
  |some i=>rw[hi]at h;cases h;exact instruction_wf _ _ hi
 ·rename_i a b _
  cases hi:Strd.instruction b with
  |none=>rw[hi]at h;cases h
  |some i=>
   rw[hi]at h
   simp only[Option.bind_some]at h
   cases hl:Strd.labelName a with
   |none=>rw[hl]at h;cases h
   |some n=>rw[hl]at h;cases h;exact instruction_wf _ _ hi
 ·cases h
theorem readLine_label (s:Strd.Bs) (l:Strd.Line) (h:Strd.readLine s=some l):l.label.length≤s.length:=by
 unfold Strd.readLine at h
 split at h
 ·rename_i a _
  cases hi:Strd.instruction a with
  |none=>rw[hi]at h;cases h
  |some i=>rw[hi]at h;cases h;simp
 ·rename_i a b hp
  cases hi:Strd.instruction b with
  |none=>rw[hi]at h;cases h
  |some i=>
   rw[hi]at h
   simp only[Option.bind_some]at h
   cases hl:Strd.labelName a with
   |none=>rw[hl]at h;cases h
   |some n=>
    rw[hl]at h;cases h
    have e:=label_some _ _ hl
    have h1:=trim_len a
    obtain⟨_,hpl,hp1⟩:=split_len 59 s
    have h2:=(split_len 58 ((Strd.split 59 s).headD [])).2.1 a (by rw[hp];simp)
    have h3:((Strd.split 59 s).headD []).length≤s.length:=by
     cases hS:Strd.split 59 s with
     |nil=>simp
     |cons c r=>exact hpl c (by rw[hS];simp)
    simp only
    rw[e]
    omega
 ·cases h
end Go.Proofs.YtegiloiojloaoaaGreatDoor
