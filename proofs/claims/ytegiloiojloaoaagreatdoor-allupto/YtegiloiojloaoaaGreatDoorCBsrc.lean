/- The shelf's contract of strings.Builder's String at this program, in plain words, as the guide's own commands print it. -/
import Derived.Test.YtegiloiojloaoaaGreatDoorCSpec
import Derived.Shelf.Strings.Builder1
import Derived.Test.YtegiloiojloaoaaGreatDoorProg
import Derived.Test.YtegiloiojloaoaaGreatDoorCMtc
set_option linter.unusedVariables false
set_option linter.unusedSimpArgs false
set_option maxHeartbeats 4000000
set_option maxRecDepth 100000
namespace Go.Proofs
open Go.RowKit Go.Shelf
def Tryz.lays169_ren : Go.Shelf.Ren := ⟨fun | 169 => 53 | n => n, fun | 70 => 118 | 9 => 9 | 0 => 0 | 72 => 120 | 37 => 88 | 127 => 168 | 3 => 3 | 5 => 5 | n => n, fun | n => n⟩
theorem Tryz.lays169 : Go.Proofs.Lays.n169 Tryz.prog Tryz.lays169_ren := {
  mixed := by kernel_rfl
  f169 := Tryz.func53.trans (congrArg some (by kernel_rfl))
  t0 := Tryz.underlying0
  a0 := Tryz.isAgg0
  z0 := Tryz.sizeOf0
  v0 := Tryz.zeroValue0
  t3 := Tryz.underlying3
  a3 := Tryz.isAgg3
  z3 := Tryz.sizeOf3
  v3 := Tryz.zeroValue3
  t9 := Tryz.underlying9
  a9 := Tryz.isAgg9
  z9 := Tryz.sizeOf9
  v9 := Tryz.zeroValue9
  t37 := Tryz.underlying88
  a37 := Tryz.isAgg88
  z37 := Tryz.sizeOf88
  v37 := Tryz.zeroValue88
  t70 := Tryz.underlying118
  a70 := Tryz.isAgg118
  z70 := Tryz.sizeOf118
  v70 := Tryz.zeroValue118
  t72 := Tryz.underlying120
  a72 := Tryz.isAgg120
  z72 := Tryz.sizeOf120
  v72 := Tryz.zeroValue120
  t127 := Tryz.underlying168
  a127 := Tryz.isAgg168
  z127 := Tryz.sizeOf168
  v127 := Tryz.zeroValue168 }
theorem Tryz.Builder_Extra_169 : Builder.Extra Tryz.prog Tryz.lays169_ren := {
  sizeBuilder := by kernel_rfl
  liesBuilder := by kernel_rfl
  t5 := Tryz.underlying5
  a5 := Tryz.isAgg5
  z5 := Tryz.sizeOf5
  v5 := Tryz.zeroValue5
  infoByte := by kernel_rfl
  cellsByte := by kernel_rfl
  sizeByte := by kernel_rfl
  neB5 := by decide }
theorem Tryz.Builder_String_any (B b : Nat) (l : List UInt8) (w : World) (h : Lib.IsBuilder 120 5 B b (Lib.byteCells l) w) (hBw : B ≤ w.heap.size) :
    Calls Tryz.prog 53 #[.pointer (some ⟨b, 0, none⟩)] w fun e w' => e = .returned (.string ⟨l.toArray⟩) ∧ Below B w w' := Any.Builder_String_any Tryz.lays169 Tryz.Builder_Extra_169 B b l w h hBw
end Go.Proofs
namespace Go.Proofs.YtegiloiojloaoaaGreatDoor
open Go.RowKit Go.Shelf Go.Sort Go.Maps
namespace Strd
theorem dis_fuel:∀(f:Nat) (a:Int) (s:Bs),s.length≤f→disFrom f a s=disFrom s.length a s
 |0,a,s,h=>by rw[show s.length=0 by omega]
 |f+1,a,s,h=>by
  unfold disFrom
  cases s with
  |nil=>rfl
  |cons c t=>
   rw[if_neg (by simp)]
   rw[show (c::t).length=t.length+1 from rfl]
   simp only
   rw[if_neg (by simp)]
   have hg:=good_first (c::t) (by simp) a
   have hs:=hg.size
   have hl:((c::t).drop (size (ZH (c::t) a) (ZH (c::t) a).op.first a).toNat).length≤t.length:=by
    rw[List.length_drop,List.length_cons];omega
   rw[List.length_cons]at h
   rw[dis_fuel f _ _ (by omega),←dis_fuel t.length _ _ hl]
def disAll (a:Int) (s:Bs):List Ins:=disFrom s.length a s
theorem dis_nil (a:Int):disAll a []=[]:=rfl
theorem dis_step (a:Int) (s:Bs) (hs:s≠[]):disAll a s=ZH s a::disAll (a+size (ZH s a) (ZH s a).op.first a) (s.drop (size (ZH s a) (ZH s a).op.first a).toNat):=by
 unfold disAll
 cases s with
 |nil=>exact(hs rfl).elim
 |cons c t=>
  have hg:=good_first (c::t) (by simp) a
  have hz:=hg.size
  rw[show (c::t).length=t.length+1 from rfl]
  rw[disFrom,if_neg (by simp)]
  congr 1
  exact dis_fuel _ _ _ (by rw[List.length_drop,List.length_cons];omega)
theorem disText_cons (i:Ins) (l:List Ins):disText (i::l)=(Q8 i++[10])++disText l:=by simp[disText]
theorem org_told (n:Int) (h:isPlace n=true):Told (QQ orgOp [n]) orgOp [n]:=by
 have hp:=place_rng h
 exact⟨rfl,List.mem_append_right _ (by simp),rfl,by simp,by
  rw[show roles orgOp.kind [n].length=[2] from rfl]
  simp only[List.zip_cons_cons,List.zip_nil_right,List.mem_cons,List.not_mem_nil,or_false]
  rintro p rfl
  exact⟨.inr ⟨.inr (.inl rfl),by simp only;omega,by simp only;omega⟩,fun _=>h⟩⟩
theorem told_kind:∀o∈toldOps,o.kind≠9∧o.kind≠10:=by decide +kernel
theorem told_four {i:Ins} {o:Op} {ns:List Int} (h:Told i o ns) (h4:o.kind=4):ns.length=2:=by
 have:=h.len
 rw[h4]at this
 rw[←this];rfl
end Strd
theorem Kept.low {base:Nat} {D:Obj→Prop} {w w':World} (h:Kept base D w w') (hb:base≤w.heap.size):Below base w w':=⟨h.os,h.tape,h.output,h.size,fun k hk=>h.block k (by omega) (.inl hk)⟩
theorem sub_from (S:Strd.Bs) (k:Nat):(bstr S).extract k S.length=bstr (S.drop k):=QZ (by
 rw[ZV,Q4,Q4,List.take_length])
theorem Src_true (org:Int) (s:Strd.Bs) (hM:Strd.mayBe org s=true) (w:World) {tu:Bool} (hT:TabsX tu w) (hP:P10 w) (h11:11≤w.heap.size) :
  Calls Tryz.prog 35 #[.agg #[.int .i64 org,.string (bstr s)]] w fun e w'=>e=.returned (.tuple #[.string (bstr (Strd.disassemble org s).1),.int .i64 (Strd.disassemble org s).2])∧Below w.heap.size w w':=by
 have hD:Strd.disassemble org s=(Strd.disText (Strd.disLines org s),0):=by unfold Strd.disassemble;rw[if_pos hM]
 rw[hD]
 have hM':=hM
 unfold Strd.mayBe at hM'
 simp only[Bool.and_eq_true,decide_eq_true_eq]at hM'
 obtain⟨⟨hpl,h400⟩,htop⟩:=hM'
 have hpr:=Strd.place_rng hpl
 have Hto:=QB (Strd.org_told org hpl)
 have hfull:Strd.disText (Strd.disLines org s)=(Strd.Q8 (Strd.QQ Strd.orgOp [org])++[10])++Strd.disText (Strd.disAll org s):=Strd.disText_cons _ _
 have horgl:=(Strd.org_read org hpl).2.2.2
 have HM:=QB (fun W=>mayBe_c org s W (by omega) (by omega))
 rw[hM]at HM
 have HW:=QB (fun W hT h=>with_c (tu:=tu) [111,114,103] _ find_org (by decide) org W hT h)
 have Hfull:=QB hfull
 generalize Strd.disText (Strd.disLines org s)=FULL at *
 have Hbx:=QB (QH w (.cells #[.int .i64 org,.string (bstr s)] 23))
 have hba:=QF w (.cells #[.int .i64 org,.string (bstr s)] 23)
 have z0:=QC (QA Hbx) 0
 have z1:=QC (QA Hbx) 1
 simp only[gA,gZ,gS]at z0 z1
 have HT:=QB hT
 have HP:=QB hP
 clear hT hP hM hD hfull
 go_enter Tryz.func35,Tryz.ntmps35
 go_wp2_with (go_at_call 48;refine(QA HM _).mono ?_;rintro e w2 ⟨rfl,hb2⟩;have y0:=QC (bbox (QE hb2 (QF w2 (.cells #[.pointer none,.slice none 0 0] 120))) (QA Hbx)) 0;simp only[gA,gZ]at y0)
 have hb3:=QF w2 (.cells #[.pointer none,.slice none 0 0] 120)
 have Hbx3:=QB (bbox (QE hb2 hb3) (QA Hbx))
 have hb03:Below w.heap.size w _:=QE hba (QE hb2 hb3)
 have HX3:Hid (TextAt w2.heap.size w2.heap.size [] (w2.alloc (.cells #[.pointer none,.slice none 0 0] 120))):=QB (Lib.fresh_isBuilder 120 5 w2)
 have HT3:=QB ((QA HT).below hb03)
 have HP3:=QB ((QA HP).below hb03 h11)
 have hl3:w2.heap.size<(w2.alloc (.cells #[.pointer none,.slice none 0 0] 120)).heap.size:=by simp
 have hwb:w.heap.size<w2.heap.size:=QD (bbox hb2 (QA Hbx))
 clear z0 z1 y0 hba
 generalize w2.alloc (.cells #[.pointer none,.slice none 0 0] 120)=w3 at *
 obtain⟨B,hB⟩:∃B,w2.heap.size=B:=⟨_,rfl⟩
 rw[hB]at HX3 hl3 hwb ⊢
 have hB11:11≤B:=by omega
 clear hb2 hb3 hB
 refine(QA HW w3 (QA HT3) (by omega)).mono ?_
 rintro e w4 ⟨pw,cw,rfl,hO4,hb4⟩
 have hs4:=hb4.size
 have HO4:=QB hO4
 clear hO4
 go_wp2_with fail
 refine(writeLine_c B B [] (Strd.QQ Strd.orgOp [org]) Strd.orgOp [org] (QA Hto) (.slice pw 1 cw) w4 ((QA HX3).below hb4) (QA HO4) (by simp) ((QA HT3).below hb4) ((QA HP3).below hb4 (by omega)) hB11 (by omega) (by omega)).mono ?_
 rintro e w5 ⟨rfl,hX5,hk5⟩
 rw[List.nil_append]at hX5
 have HX5:=QB hX5
 have hs5:=hk5.size
 have HT5:=QB (((QA HT3).below hb4).keptT hk5 hB11)
 have HP5:=QB (((QA HP3).below hb4 (by omega)).kept hk5 hB11 (by omega))
 have Hbx5:=QB (kboxB hk5 (bbox hb4 (QA Hbx3)) (by decide) (by decide))
 have hb05:Below w.heap.size w w5:=QE hb03 (QE hb4 (Below.refl _ _)) |>.trans ((hk5.low (by omega)).mono (by omega))
 clear hX5 HX3 HT3 HP3 Hbx3 hb03 hb4 hk5 HO4
 go_wp2_with fail
 go_loopw [5] (fun c wr=>∃(k:Nat) (T:Strd.Bs),k≤s.length∧c=.int .i64 k∧TextAt B B T wr∧T++Strd.disText (Strd.disAll (org+k) (s.drop k))=FULL∧T.length≤15*k+15∧Kept B BTag w5 wr) (fun c _=>s.length-(intOf c).toNat)
 case atStart=>exact⟨0,_,by omega,rfl,QA HX5,by rw[QA Hfull];simp,by rw[List.length_append,List.length_singleton];omega,Kept.refl _ _ _⟩
 case round=>
  obtain⟨k,T,hk,rfl,hXr,hTr,hTl,hkr⟩:=hrel
  have HXr:=QB hXr
  have HTr:=QB hTr
  have Hbr:=QB (kboxB hkr (QA Hbx5) (by decide) (by decide))
  have HTa:=QB ((QA HT5).keptT hkr hB11)
  have HPa:=QB ((QA HP5).kept hkr hB11 (by omega))
  have hsr:=hkr.size
  have z0:=QC (QA Hbr) 0
  have z1:=QC (QA Hbr) 1
  simp only[gA,gZ,gS]at z0 z1
  clear hXr hTr
  by_cases hlt:k<s.length
  ·have hltI:(k:Int)<(s.length:Int):=by omega
   have hw1:IntKind.i64.wrap (org+(k:Int))=org+(k:Int):=IntWalk.i64_in _ (by omega)
   have hsub:=sub_from s k
   have hne:s.drop k≠[]:=by intro h;have:=congrArg List.length h;rw[List.length_drop]at this;simp at this;omega
   have hg:=Strd.good_first (s.drop k) hne (org+k)
   have hstep:=Strd.dis_step (org+k) (s.drop k) hne
   have HFi:=QB (first_c (s.drop k) hne (org+k) (by rw[List.length_drop];omega) (by omega) wr (QA HTa) (by omega))
   generalize Strd.ZH (s.drop k) (org+k)=i at *
   obtain⟨o,ns,hto,hk11,hk0⟩:=hg.told
   have hio:i.op=o:=by rw[hto.ins];rfl
   have hol:i.oprs.length=ns.length:=by rw[hto.ins];simp[Strd.QQ]
   have hkd:=Strd.told_kind o hto.op
   have hn4:i.op.kind=4∨i.op.kind=9∨i.op.kind=10→1≤i.oprs.length:=by
    rw[hio,hol]
    rintro (h|h|h)
    ·rw[Strd.told_four hto h];omega
    ·exact(hkd.1 h).elim
    ·exact(hkd.2 h).elim
   have hn10:i.op.kind=10→Strd.isPow (Strd.num i 0)=true:=by rw[hio];exact fun h=>(hkd.2 h).elim
   have hlen8:i.oprs.length≤4096:=by have:=hto.two;omega
   have hgs:=(Strd.good_size hg).2
   have hgz:=hg.size
   have hgl:=hg.len
   rw[List.length_drop]at hgs
   obtain⟨z,hz⟩:∃z:Nat,Strd.size i i.op.first (org+k)=(z:Int):=⟨(Strd.size i i.op.first (org+k)).toNat,by omega⟩
   have Hto2:=QB hto
   have Hstep:=QB hstep
   have Hz:=QB hz
   have Hn4:=QB hn4
   have Hn10:=QB hn10
   rw[hz]at hgs hgz
   rw[Int.toNat_natCast]at hgs
   have hz1:1≤z:=by omega
   have hzk:k+z≤s.length:=by omega
   clear hg hstep hto hio hol hkd hn4 hn10 hgz hz hk11 hk0
   go_wp2_with fail
   refine(QA HFi).mono ?_
   rintro e w6 ⟨pq,nq,cq,rfl,hO6,hb6⟩
   have HO6:=QB hO6
   have hb7:=QF w6 (.cells #[.int .i64 i.op.kind,.int .i64 i.op.base,.int .i64 i.op.number,.int .i64 i.op.first,.int .i64 i.op.last,.slice pq nq cq] 97)
   have Hx7:=QB (QH w6 (.cells #[.int .i64 i.op.kind,.int .i64 i.op.base,.int .i64 i.op.number,.int .i64 i.op.first,.int .i64 i.op.last,.slice pq nq cq] 97))
   have hbr7:=QE hb6 hb7
   have hs7:=hbr7.size
   clear hO6
   go_wp2_with fail
   generalize w6.alloc (.cells #[.int .i64 i.op.kind,.int .i64 i.op.base,.int .i64 i.op.number,.int .i64 i.op.first,.int .i64 i.op.last,.slice pq nq cq] 97)=w7 at *
   refine(writeLine_c B B T i o ns (QA Hto2) (.slice pq nq cq) w7 ((QA HXr).below hbr7) ((QA HO6).below hb7) (by omega) ((QA HTa).below hbr7) ((QA HPa).below hbr7 (by omega)) hB11 (by omega) (by omega)).mono ?_
   rintro e w8 ⟨rfl,hX8,hk8⟩
   have HX8:=QB hX8
   have Hx8:=QB (kboxB hk8 (QA Hx7) (by decide) (by decide))
   have HO8:=QB (((QA HO6).below hb7).keptT hk8)
   have y0:=QC (QA Hx8) 0
   have y1:=QC (QA Hx8) 1
   have y2:=QC (QA Hx8) 2
   have y3:=QC (QA Hx8) 3
   have y4:=QC (QA Hx8) 4
   have y5:=QC (QA Hx8) 5
   simp only[gA,gZ,gS]at y0 y1 y2 y3 y4 y5
   have hk58:Kept B BTag w5 w8:=(hkr.trans (.of_below hbr7)).trans hk8
   clear hX8
   go_wp2_with fail
   refine(Size_c i (.slice pq nq cq) i.op.first (org+k) w8 (by omega) (QA HO8) hlen8 (QA Hn4) (QA Hn10)).mono ?_
   rintro e w9 ⟨rfl,hb9⟩
   rw[QA Hz]
   have hw2:IntKind.i64.wrap ((k:Int)+(z:Int))=(k:Int)+(z:Int):=IntWalk.i64_in _ (by omega)
   have HXN:=QB ((QA HX8).below hb9)
   have hkN:Kept B BTag w5 w9:=hk58.trans (.of_below hb9)
   have HTN:Hid ((T++(Strd.Q8 i++[10]))++Strd.disText (Strd.disAll (org+(k+z:Nat)) (s.drop (k+z)))=FULL):=QB (by
    rw[←QA HTr,QA Hstep,Strd.disText_cons,QA Hz,Int.toNat_natCast,List.drop_drop,List.append_assoc]
    rw[show org+(k:Int)+(z:Int)=org+((k+z:Nat):Int) by omega])
   go_wp2
   go_roundw
   case rel=>exact⟨k+z,_,hzk,by go_num,QA HXN,QA HTN,by simp only[List.length_append,List.length_singleton];omega,hkN⟩
   case measure=>simp[intOf];omega
  ·obtain rfl:k=s.length:=by omega
   have HF:Hid (T=FULL):=QB (by
    have:=QA HTr
    rw[List.drop_length]at this
    rw[←this,Strd.dis_nil]
    simp[Strd.disText])
   go_wp2_with fail
   refine(Tryz.Builder_String_any B B T wr (QA HXr) (by omega)).mono ?_
   rintro e w6 ⟨rfl,hb6⟩
   have hbF:Below w.heap.size w w6:=hb05.trans (((hkr.low (by omega)).mono (by omega)).trans (hb6.mono (by omega)))
   go_wp2
   go_ret2
   exact⟨by rw[←QA HF];rfl,hbF⟩
end Go.Proofs.YtegiloiojloaoaaGreatDoor
