/- Sources that are too long, of any length. -/
import Derived.Test.YtegiloiojloaoaaGreatDoorCSpec
import Derived.Test.YtegiloiojloaoaaGreatDoorCImg
import Derived.Test.YtegiloiojloaoaaGreatDoorCRef31
set_option linter.unusedVariables false
set_option linter.unusedSimpArgs false
set_option maxHeartbeats 4000000
set_option maxRecDepth 1000000
namespace Go.Proofs.YtegiloiojloaoaaGreatDoor
open Go.RowKit Go.Shelf Go.Sort Go.Maps
theorem Source_long (s:ByteArray) (w:World) (hlong:4000<s.size) (hm:s.size≤9223372036854775807) :
  Calls Tryz.prog 37 #[.string s] w fun e w'=>e=.returned (.tuple #[.agg #[.int .i64 0,.slice none 0 0,.map none],.int .i64 0,.int .i64 7])∧Below w.heap.size w w':=by
 go_enter Tryz.func37,Tryz.ntmps37
 have hb0:=QF w (.cells #[.int .i64 0,.slice none 0 0,.map none] 64)
 have hx0:=QH w (.cells #[.int .i64 0,.slice none 0 0,.map none] 64)
 go_upto_region 2 with fail
 generalize w.alloc (.cells #[.int .i64 0,.slice none 0 0,.map none] 64)=w0 at hx0 hb0 ⊢
 go_wp2_with (refine wpList_store_row rfl 64 (.tmp 2) (.tmp 12) rfl w.heap.size #[.int .i64 0,.slice none 0 0,.map none] rfl rfl 64 #[.int .i64 0,.slice none 0 0,.map none] (by exact hx0) (by kernel_rfl) rfl (prog_one _ _ _ _ _) ?_)
 refine bodyPost_ret (v:=.tuple #[.agg #[.int .i64 0,.slice none 0 0,.map none],.int .i64 0,.int .i64 7]) (by exact Q6 Tryz.results37 _ _ w.heap.size 64 _ _ _ rfl (by exact ZJ hx0) Tryz.underlying64 rfl (by kernel_rfl)) rfl ?_
 exact⟨rfl,QT hb0 (Nat.le_refl _) _⟩
theorem layOut_long (s:ByteArray) (w:World) (hlong:4000<s.size) (hm:s.size≤9223372036854775807) :
  Calls Tryz.prog 25 #[.string s] w fun e w'=>e=.returned (.tuple #[.agg #[.int .i64 0,.slice none 0 0,.map none,.slice none 0 0,.slice none 0 0],.int .i64 0,.int .i64 7])∧Below w.heap.size w w':=by
 have hb0:=QF w (.cells #[.int .i64 0,.slice none 0 0,.map none,.slice none 0 0,.slice none 0 0] 67)
 have Hx0:=QB (QH w (.cells #[.int .i64 0,.slice none 0 0,.map none,.slice none 0 0,.slice none 0 0] 67))
 have CS:=QB (fun V=>Source_long s V hlong hm)
 clear hlong hm
 go_enter Tryz.func25,Tryz.ntmps25
 go_upto_region 1 with fail
 generalize w.alloc (.cells #[.int .i64 0,.slice none 0 0,.map none,.slice none 0 0,.slice none 0 0] 67)=w0 at *
 go_wp2_with fail
 refine(QA CS _).mono ?_
 rintro e w1 ⟨rfl,hb1⟩
 have hb2:=QF w1 (.cells #[.int .i64 0,.slice none 0 0,.map none] 64)
 have Hx2:=QB (bbox hb2 (bbox hb1 (QA Hx0)))
 have hB2:=QE hb0 (QE hb1 hb2)
 go_upto_region 2 with fail
 generalize w1.alloc (.cells #[.int .i64 0,.slice none 0 0,.map none] 64)=w2 at *
 clear hb1 hb2
 go_wp2_with (refine wpList_store_row rfl 67 (.tmp 2) (.tmp 16) rfl w.heap.size #[.int .i64 0,.slice none 0 0,.map none,.slice none 0 0,.slice none 0 0] rfl rfl 67 #[.int .i64 0,.slice none 0 0,.map none,.slice none 0 0,.slice none 0 0] (by exact QA Hx2) (by kernel_rfl) rfl (plan_one _ _ _ _ _ _ _ _ _ _ _) ?_)
 refine bodyPost_ret (v:=.tuple #[.agg #[.int .i64 0,.slice none 0 0,.map none,.slice none 0 0,.slice none 0 0],.int .i64 0,.int .i64 7]) (by exact Q6 Tryz.results25 _ _ w.heap.size 67 _ _ _ rfl (by exact ZJ (QA Hx2)) Tryz.underlying67 rfl (by kernel_rfl)) rfl ?_
 exact⟨rfl,QT hB2 (Nat.le_refl _) _⟩
theorem Assemble_long (s:ByteArray) (w:World) (hlong:4000<s.size) (hm:s.size≤9223372036854775807) :
  Calls Tryz.prog 10 #[.string s] w fun e w'=>e=.returned (.tuple #[.agg #[.int .i64 0,.string ⟨#[]⟩],.int .i64 0,.int .i64 7])∧Below w.heap.size w w':=by
 have hb0:=QF w (.cells #[.int .i64 0,.string ⟨#[]⟩] 23)
 have Hx0:=QB (QH w (.cells #[.int .i64 0,.string ⟨#[]⟩] 23))
 have CL:=QB (fun V=>layOut_long s V hlong hm)
 clear hlong hm
 go_enter Tryz.func10,Tryz.ntmps10
 go_upto_region 1 with fail
 generalize w.alloc (.cells #[.int .i64 0,.string ⟨#[]⟩] 23)=w0 at *
 go_wp2_with fail
 refine(QA CL _).mono ?_
 rintro e w1 ⟨rfl,hb1⟩
 have hb2:=QF w1 (.cells #[.int .i64 0,.slice none 0 0,.map none,.slice none 0 0,.slice none 0 0] 67)
 have Hx2:=QB (bbox hb2 (bbox hb1 (QA Hx0)))
 have hB2:=QE hb0 (QE hb1 hb2)
 go_upto_region 2 with fail
 generalize w1.alloc (.cells #[.int .i64 0,.slice none 0 0,.map none,.slice none 0 0,.slice none 0 0] 67)=w2 at *
 clear hb1 hb2
 go_wp2_with (refine wpList_store_row rfl 23 (.tmp 2) (.tmp 16) rfl w.heap.size #[.int .i64 0,.string ⟨#[]⟩] rfl rfl 23 #[.int .i64 0,.string ⟨#[]⟩] (by exact QA Hx2) (by kernel_rfl) rfl (img_one _ _) ?_)
 refine bodyPost_ret (v:=.tuple #[.agg #[.int .i64 0,.string ⟨#[]⟩],.int .i64 0,.int .i64 7]) (by exact Q6 Tryz.results10 _ _ w.heap.size 23 _ _ _ rfl (by exact ZJ (QA Hx2)) Tryz.underlying23 rfl (by kernel_rfl)) rfl ?_
 exact⟨rfl,QT hB2 (Nat.le_refl _) _⟩
theorem asm_long (s:Strd.Bs) (h:4000<s.length):Strd.assemble s=((0,[]),0,7):=by
 have hr:Strd.QM s=(⟨0,[],false⟩,0,7):=by unfold Strd.QM;rw[if_pos (by omega)]
 unfold Strd.assemble
 rw[hr];rfl
theorem Assemble_any (s:Strd.Bs) (w:World) (hm:s.length≤9223372036854775807) (h11:11≤w.heap.size) (hT:Tabs w) :
  Calls Tryz.prog 10 #[.string (bstr s)] w fun e w'=>e=.returned (.tuple #[.agg #[.int .i64 (Strd.assemble s).1.1,.string (bstr (Strd.assemble s).1.2)],.int .i64 (Strd.assemble s).2.1,.int .i64 (Strd.assemble s).2.2])∧Below w.heap.size w w':=by
 have hz:(bstr s).size=s.length:=by rw[ZY,Q4]
 by_cases hl:4000<s.length
 ·refine(Assemble_long (bstr s) w (by omega) (by omega)).mono ?_
  rintro e w' ⟨rfl,hb⟩
  rw[asm_long s hl]
  exact⟨rfl,hb⟩
 ·have:=Assemble_c (bstr s) w (by omega) h11 hT
  rw[Q4]at this
  exact this
theorem Asm_ref (s:Strd.Bs) (w:World) (hsl:s.length≤9223372036854775807):Calls Tryz.prog 27 #[.string (bstr s)] w fun e w'=>e=.returned (.tuple #[.agg #[.int .i64 (Strd.assemble s).1.1,.string (bstr (Strd.assemble s).1.2)],.int .i64 (Strd.assemble s).2.1,.int .i64 (Strd.assemble s).2.2])∧Below w.heap.size w w':=by
 have hb0:=QF w (.cells #[.int .i64 0,.string ⟨#[]⟩] 23)
 have Hx0:=QB (QH w (.cells #[.int .i64 0,.string ⟨#[]⟩] 23))
 have CM:=QB (fun V=>Made_ref s V hsl)
 have Hasm:=QB (fun r L n hr hR=>Rf.asm_ref s r L n hr hR)
 generalize hAe:Strd.assemble s=A
 have HAe:=QB hAe
 clear hAe
 go_enter Tryz.func27,Tryz.ntmps27
 go_upto_region 1 with fail
 generalize w.alloc (.cells #[.int .i64 0,.string ⟨#[]⟩] 23)=w0 at *
 go_wp2_with fail
 refine(QA CM _).mono ?_
 intro e w1 hQ
 rcases hQ with ⟨n,er,hne,hA,rfl,hb1⟩|⟨g,k,r,L,qs,en,pl,cl,pf,cf,pa,ca,pb,cb,rfl,hX,hR,hLn,hor,hbn,hmn,hon,hen,hP,hb1⟩
 ·have HA:Hid (A=((0,[]),n,er)):=QB (by rw[←QA HAe];exact hA)
  have Hx1:=QB (bbox hb1 (QA Hx0))
  have hB1:=QE hb0 hb1
  clear hA CM Hasm
  go_wp2_with (refine wpList_store_row rfl 23 (.tmp 2) (.tmp 17) rfl w.heap.size #[.int .i64 0,.string ⟨#[]⟩] rfl rfl 23 #[.int .i64 0,.string ⟨#[]⟩] (by exact QA Hx1) (by kernel_rfl) rfl (img_one _ _) ?_)
  refine bodyPost_ret (v:=.tuple #[.agg #[.int .i64 0,.string ⟨#[]⟩],.int .i64 (n:Int),.int .i64 er]) (by exact Q6 Tryz.results27 _ _ w.heap.size 23 _ _ _ rfl (by exact ZJ (QA Hx1)) Tryz.underlying23 rfl (by kernel_rfl)) rfl ?_
  exact⟨by rw[QA HA],QT hB1 (Nat.le_refl _) _⟩
 ·have hok:=hR.ok
  obtain⟨hfl,hfin⟩:=Rf.lay_in r.org L hok
  have hfo:∀k,k<L.length→Rf.FormOk (L.getD k Rf.dl) ((Strd.QJ r.org (L.map Rf.strd)).getD k 0):=fun k hk=>(hfin k hk).ok (by
   have hg:L.getD k Rf.dl=L[k]:=by rw[gD,gE hk];rfl
   rw[hg];exact(hok _ (List.getElem_mem hk)).wf)
  have hsl2:(Rf.stL r.org L).length=L.length+1:=by unfold Rf.stL;rw[Strd.st_len _ _ _ (by simpa using hfl)];simp
  have hll:=Rf.labsTo_len L (Rf.stL r.org L) L.length
  have hlr:=Rf.labs_rng r.org L _ hfl hok hor hLn
  have CP:=QB (place_ref w0.heap.size g r.org en L qs _ _ _ pl cl pf cf pa ca pb cb w1 hP hb1.size hok hfl hfo (by rw[List.length_take];omega) (by omega) hLn (fun l hl t ht=>Rf.toN_rng _ hlr t) (fun k hk=>by have:=Rf.st_rng r.org L _ hfl hok hor.1 k hk;omega) (fun k hk=>Rf.bytes_step _ r.org L _ hfl hok hfo k hk) (fun k hk=>by have:=Rf.img_len (Rf.labsTo L (Rf.stL r.org L) L.length) r.org L _ hfl hok hfo k hk;omega))
  have hA:=QA Hasm r L k hX hR
  rw[hbn,if_neg (by decide),if_neg hmn,hon,if_neg (by decide),if_neg hen]at hA
  have HA:Hid (A=((r.org,Rf.imgTo (Rf.labsTo L (Rf.stL r.org L) L.length) L (Strd.QJ r.org (L.map Rf.strd)) (Rf.stL r.org L) L.length),0,0)):=QB (by rw[←QA HAe];exact hA)
  have hst:Strd.starts r.org (L.map Rf.strd) (Strd.QJ r.org (L.map Rf.strd))=Rf.stL r.org L:=rfl
  rw[hst]at CP
  generalize Rf.imgTo (Rf.labsTo L (Rf.stL r.org L) L.length) L (Strd.QJ r.org (L.map Rf.strd)) (Rf.stL r.org L) L.length=IM at *
  have Hx1:=QB (bbox hb1 (QA Hx0))
  have hB1:=QE hb0 hb1
  have hs1:=hb1.size
  clear hA hP hR hok hfin hfo hlr Hasm CM hfl hsl2 hX hst hbn hmn hon hen hll
  go_wp2_with fail
  refine(QA CP).mono ?_
  rintro e w2 ⟨rfl,⟨pb',cb',hP2⟩,hK2⟩
  have g0:=QC hP2.box 0
  simp only[gA,gZ,gS]at g0
  have hgl:=QD hP2.box
  have hw0:w.heap.size<w0.heap.size:=QD (QA Hx0)
  have Hx2:Hid (w2.heap[w.heap.size]? = some (.cells #[.int .i64 0,.string ⟨#[]⟩] 23 (0,0))):=QB (by
   rw[hK2.block _ (by omega) (.inl hw0)]
   exact QA Hx1)
  have hB2:Below w.heap.size w w2:=hB1.trans ((hK2.below hs1).mono hb0.size)
  clear hP2 hK2 CP
  go_wp2_with (refine wpList_store_row rfl 23 (.tmp 2) (.tmp 27) rfl w.heap.size #[.int .i64 r.org,.string (bstr IM)] rfl rfl 23 #[.int .i64 0,.string ⟨#[]⟩] (by exact QA Hx2) (by kernel_rfl) rfl (img_one _ _) ?_)
  refine bodyPost_ret (v:=.tuple #[.agg #[.int .i64 r.org,.string (bstr IM)],.int .i64 0,.int .i64 0]) (by exact Q6 Tryz.results27 _ _ w.heap.size 23 _ _ _ rfl (by exact ZJ (QA Hx2)) Tryz.underlying23 rfl (by kernel_rfl)) rfl ?_
  exact⟨by rw[QA HA];rfl,QT hB2 (Nat.le_refl _) _⟩
theorem num_l (n:Int) (w:World):Calls Tryz.prog 28 #[.int .i64 n] w fun e w'=>e=.returned (.int .i64 n)∧w'=w:=by
 go_enter Tryz.func28,Tryz.ntmps28
 go_wp2
 go_ret
 exact⟨rfl,rfl⟩
theorem assembled_c (s:Strd.Bs) (w:World) (hsl:s.length≤9223372036854775807) (h11:11≤w.heap.size) (hT:Tabs w):Calls Tryz.prog 11 #[.string (bstr s)] w fun e w'=>e=.returned (.bool true)∧Below w.heap.size w w':=by
 have CA:=QB (Assemble_any s w hsl h11 hT)
 have CR:=QB (fun V=>Asm_ref s V hsl)
 generalize Strd.assemble s=A at *
 obtain⟨⟨ao,ab⟩,al,ae⟩:=A
 simp only at CA CR
 have CN:=QB (fun V=>num_l ae V)
 go_enter Tryz.func11,Tryz.ntmps11
 go_upto_region 2 with (go_at_call 10;refine(QA CA).mono ?_;rintro e w1 ⟨rfl,hb1⟩;have hba:=QF w1 (.cells #[.int .i64 ao,.string (bstr ab)] 23);have hx1:=QH w1 (.cells #[.int .i64 ao,.string (bstr ab)] 23))
 have hB1:=QE hb1 hba
 generalize w1.alloc (.cells #[.int .i64 ao,.string (bstr ab)] 23)=W1 at *
 generalize w1.heap.size=g1 at *
 clear hb1 hba
 go_upto_region 3 with (go_at_call 27;refine(QA CR _).mono ?_;rintro e w2 ⟨rfl,hb2⟩;have hba2:=QF w2 (.cells #[.int .i64 ao,.string (bstr ab)] 23);have hx2:=QH w2 (.cells #[.int .i64 ao,.string (bstr ab)] 23))
 have hB2:=QE hB1 (QE hb2 hba2)
 have hx1b:=bbox hba2 (bbox hb2 hx1)
 generalize w2.alloc (.cells #[.int .i64 ao,.string (bstr ab)] 23)=W2 at *
 generalize w2.heap.size=g2 at *
 clear hb2 hba2
 have x0:=QC hx1b 0
 have x1:=QC hx1b 1
 have y0:=QC hx2 0
 have y1:=QC hx2 1
 simp only[gA,gZ,gS]at x0 x1 y0 y1
 have hl1:=QD hx1b
 have hl2:=QD hx2
 clear hx1 hx1b hx2
 go_wp2_with (go_at_call 28;refine(QA CN _).mono ?_;rintro e w5 ⟨rfl,hw5⟩;have hw5':=hw5.symm;subst hw5')
 go_ret
 exact⟨rfl,hB2⟩
theorem Assembles_c (s:Strd.Bs) (w:World) (hsl:s.length≤9223372036854775807) (h11:11≤w.heap.size) (hT:Tabs w):Calls Tryz.prog 3 #[.string (bstr s)] w fun e w'=>e=.returned (.bool true)∧Below w.heap.size w w':=by
 have hA:Strd.assemble [98,114,97,32,97,10,97,58]=((0,[96,0,0,2]),0,0):=by decide +kernel
 have CA:=Assemble_any [98,114,97,32,97,10,97,58] w (by decide) h11 hT
 rw[hA]at CA
 have HCA:=QB CA
 have CS:=QB (fun V h1 h2=>assembled_c s V hsl h1 h2)
 have HT:=QB hT
 clear hT CA hA
 go_enter Tryz.func3,Tryz.ntmps3
 go_upto_region 2 with (go_at_call 10;refine(QA HCA).mono ?_;rintro e w1 ⟨rfl,hb1⟩;have hba:=QF w1 (.cells #[.int .i64 0,.string (bstr [96,0,0,2])] 23);have hx1:=QH w1 (.cells #[.int .i64 0,.string (bstr [96,0,0,2])] 23))
 have hB1:=QE hb1 hba
 have HT1:=QB ((QA HT).below hB1)
 generalize w1.alloc (.cells #[.int .i64 0,.string (bstr [96,0,0,2])] 23)=W1 at *
 generalize w1.heap.size=g1 at *
 have x1:=QC hx1 1
 simp only[gA,gZ,gS]at x1
 have hl1:=QD hx1
 have h12:11≤W1.heap.size:=Nat.le_trans h11 hB1.size
 clear hx1 hb1 hba
 go_wp2_with (go_at_call 11;refine(QA CS _ h12 (QA HT1)).mono ?_;rintro e w5 ⟨rfl,hb5⟩)
 go_ret
 exact⟨rfl,QE hB1 hb5⟩
end Go.Proofs.YtegiloiojloaoaaGreatDoor
