/- The reference's bytes: lines of words, registers, values. -/
import Derived.Test.YtegiloiojloaoaaGreatDoorCSpec
import Derived.Test.YtegiloiojloaoaaGreatDoorCRef15
import Derived.Lib.QuietBelow
import Derived.BigQuiet
set_option linter.unusedVariables false
set_option linter.unusedSimpArgs false
set_option maxHeartbeats 8000000
set_option maxRecDepth 1000000
namespace Go.Proofs.YtegiloiojloaoaaGreatDoor
open Go.RowKit Go.Shelf Go.Sort Go.Maps
theorem bytes_nop (base g i:Nat) (org en a:Int) (L:List Rf.Line) (qs:List (Rf.Line×Sl)) (Fs As:List Int) (labs:List (Strd.Bs×Int)) (w:World) (hP:Rf.PrgAt base w g org en L qs Fs As labs) (hi:i<L.length) (hok:Rf.LineOk L[i]) (hLn:L.length≤2^30) (F:Int) (hw:L[i].word=[110,111,112]) :
  Calls Tryz.prog 79 #[.pointer (some ⟨g,0,none⟩),.int .i64 (i:Int),.int .i64 a] w fun e w'=>e=.returned (.string (bstr (Rf.bytes labs L[i] F a)))∧Below w.heap.size w w':=by
 obtain⟨⟨pl,cl,pf,cf,pa,ca,pb,cb,hbx,hLs,hFs,hAs,hLb⟩,hgb⟩:=hP
 obtain⟨bl,q,rfl,_,hbl,y0,y1,y2,y3,y4,hT⟩:=hLs.at i hi
 have c1:=QC hbx 1
 have c2:=QC hbx 2
 have c5:=QC hbx 5
 simp only[gA,gZ,gS]at c1 c2 c5
 have hgl:=QD hbx
 have hiI:(i:Int)<(L.length:Int):=by omega
 obtain⟨pq,nq,cq⟩:=q
 obtain⟨hnq,hST⟩:=hT
 simp only at y4 hnq hST
 have hwf:=hok.wf
 generalize L[i]=l at *
 subst hnq
 have hlw:=hwf.lens.2.1
 have hba:Below w.heap.size w (w.alloc (.cells #[.int .i64 l.no,.string (bstr l.label),.string (bstr l.word),.int .i64 l.form,.slice pq l.texts.length cq] 144)):=QF _ _
 have Hbx:=QB (QH w (.cells #[.int .i64 l.no,.string (bstr l.label),.string (bstr l.word),.int .i64 l.form,.slice pq l.texts.length cq] 144))
 have HST:=QB (ZR.below hST hba)
 have HPB:=QB (bbox hba hbx)
 have HLB:=QB (hLb.below hba)
 have x2:=QC (QA Hbx) 2
 have x4:=QC (QA Hbx) 4
 simp only[gA,gZ,gS]at x2 x4
 have hxl:=QD (QA Hbx)
 have CT:=QB (fun V=>two_r l.word V)
 have CJ:=QB (fun V=>isJump_ref l.word V (by omega))
 have hX:Rf.bytes labs l F a=Strd.QI 0x4e71:=by unfold Rf.bytes;rw[hw];rfl
 have CW:=QB (fun V=>word_r 0x4e71 V)
 have Htw:Rf.two l.word=0:=by rw[hw];rfl
 rw[hw]at *
 have HX:=QB hX
 generalize Rf.bytes labs l F a=X at *
 clear hX hwf hLs hFs hAs hLb hbx hST hok
 go_enter Tryz.func79,Tryz.ntmps79
 go_upto_region 2 with fail
 clear y0 y1 y2 y3 y4
 generalize w.alloc (.cells #[.int .i64 l.no,.string (bstr l.label),.string (bstr l.word),.int .i64 l.form,.slice pq l.texts.length cq] 144)=W at *
 go_wp2_with (first
  |(go_at_call 113;refine(QA CT _).mono ?_;rintro e w1 ⟨rfl,hw1⟩;have hw1':=hw1.symm;subst hw1')
  |(go_at_call 75;refine(QA CJ _).mono ?_;rintro e wj ⟨rfl,hbj⟩;have hBj:=QE hba hbj;have z2:=QC (bbox hbj (QA Hbx)) 2;have z4:=QC (bbox hbj (QA Hbx)) 4;simp only[gA,gZ,gS]at z2 z4;have hzl:=QD (bbox hbj (QA Hbx));have HSj:=QB ((QA HST).below hbj))
  |(go_at_call 116;refine(QA CW _).mono ?_;rintro e w2 ⟨rfl,hb2⟩))
 go_ret
 exact⟨by rw[QA HX];rfl,QE hBj hb2⟩
theorem bytes_rts (base g i:Nat) (org en a:Int) (L:List Rf.Line) (qs:List (Rf.Line×Sl)) (Fs As:List Int) (labs:List (Strd.Bs×Int)) (w:World) (hP:Rf.PrgAt base w g org en L qs Fs As labs) (hi:i<L.length) (hok:Rf.LineOk L[i]) (hLn:L.length≤2^30) (F:Int) (hw:L[i].word=[114,116,115]) :
  Calls Tryz.prog 79 #[.pointer (some ⟨g,0,none⟩),.int .i64 (i:Int),.int .i64 a] w fun e w'=>e=.returned (.string (bstr (Rf.bytes labs L[i] F a)))∧Below w.heap.size w w':=by
 obtain⟨⟨pl,cl,pf,cf,pa,ca,pb,cb,hbx,hLs,hFs,hAs,hLb⟩,hgb⟩:=hP
 obtain⟨bl,q,rfl,_,hbl,y0,y1,y2,y3,y4,hT⟩:=hLs.at i hi
 have c1:=QC hbx 1
 have c2:=QC hbx 2
 have c5:=QC hbx 5
 simp only[gA,gZ,gS]at c1 c2 c5
 have hgl:=QD hbx
 have hiI:(i:Int)<(L.length:Int):=by omega
 obtain⟨pq,nq,cq⟩:=q
 obtain⟨hnq,hST⟩:=hT
 simp only at y4 hnq hST
 have hwf:=hok.wf
 generalize L[i]=l at *
 subst hnq
 have hlw:=hwf.lens.2.1
 have hba:Below w.heap.size w (w.alloc (.cells #[.int .i64 l.no,.string (bstr l.label),.string (bstr l.word),.int .i64 l.form,.slice pq l.texts.length cq] 144)):=QF _ _
 have Hbx:=QB (QH w (.cells #[.int .i64 l.no,.string (bstr l.label),.string (bstr l.word),.int .i64 l.form,.slice pq l.texts.length cq] 144))
 have HST:=QB (ZR.below hST hba)
 have HPB:=QB (bbox hba hbx)
 have HLB:=QB (hLb.below hba)
 have x2:=QC (QA Hbx) 2
 have x4:=QC (QA Hbx) 4
 simp only[gA,gZ,gS]at x2 x4
 have hxl:=QD (QA Hbx)
 have CT:=QB (fun V=>two_r l.word V)
 have CJ:=QB (fun V=>isJump_ref l.word V (by omega))
 have hX:Rf.bytes labs l F a=Strd.QI 0x4e75:=by unfold Rf.bytes;rw[hw];rfl
 have CW:=QB (fun V=>word_r 0x4e75 V)
 have Htw:Rf.two l.word=0:=by rw[hw];rfl
 rw[hw]at *
 have HX:=QB hX
 generalize Rf.bytes labs l F a=X at *
 clear hX hwf hLs hFs hAs hLb hbx hST hok
 go_enter Tryz.func79,Tryz.ntmps79
 go_upto_region 2 with fail
 clear y0 y1 y2 y3 y4
 generalize w.alloc (.cells #[.int .i64 l.no,.string (bstr l.label),.string (bstr l.word),.int .i64 l.form,.slice pq l.texts.length cq] 144)=W at *
 go_wp2_with (first
  |(go_at_call 113;refine(QA CT _).mono ?_;rintro e w1 ⟨rfl,hw1⟩;have hw1':=hw1.symm;subst hw1')
  |(go_at_call 75;refine(QA CJ _).mono ?_;rintro e wj ⟨rfl,hbj⟩;have hBj:=QE hba hbj;have z2:=QC (bbox hbj (QA Hbx)) 2;have z4:=QC (bbox hbj (QA Hbx)) 4;simp only[gA,gZ,gS]at z2 z4;have hzl:=QD (bbox hbj (QA Hbx));have HSj:=QB ((QA HST).below hbj))
  |(go_at_call 116;refine(QA CW _).mono ?_;rintro e w2 ⟨rfl,hb2⟩))
 go_ret
 exact⟨by rw[QA HX];rfl,QE hBj hb2⟩
theorem bytes_empty (base g i:Nat) (org en a:Int) (L:List Rf.Line) (qs:List (Rf.Line×Sl)) (Fs As:List Int) (labs:List (Strd.Bs×Int)) (w:World) (hP:Rf.PrgAt base w g org en L qs Fs As labs) (hi:i<L.length) (hok:Rf.LineOk L[i]) (hLn:L.length≤2^30) (F:Int) (hw:L[i].word=[]) :
  Calls Tryz.prog 79 #[.pointer (some ⟨g,0,none⟩),.int .i64 (i:Int),.int .i64 a] w fun e w'=>e=.returned (.string (bstr (Rf.bytes labs L[i] F a)))∧Below w.heap.size w w':=by
 obtain⟨⟨pl,cl,pf,cf,pa,ca,pb,cb,hbx,hLs,hFs,hAs,hLb⟩,hgb⟩:=hP
 obtain⟨bl,q,rfl,_,hbl,y0,y1,y2,y3,y4,hT⟩:=hLs.at i hi
 have c1:=QC hbx 1
 have c2:=QC hbx 2
 have c5:=QC hbx 5
 simp only[gA,gZ,gS]at c1 c2 c5
 have hgl:=QD hbx
 have hiI:(i:Int)<(L.length:Int):=by omega
 obtain⟨pq,nq,cq⟩:=q
 obtain⟨hnq,hST⟩:=hT
 simp only at y4 hnq hST
 have hwf:=hok.wf
 generalize L[i]=l at *
 subst hnq
 have hlw:=hwf.lens.2.1
 have hba:Below w.heap.size w (w.alloc (.cells #[.int .i64 l.no,.string (bstr l.label),.string (bstr l.word),.int .i64 l.form,.slice pq l.texts.length cq] 144)):=QF _ _
 have Hbx:=QB (QH w (.cells #[.int .i64 l.no,.string (bstr l.label),.string (bstr l.word),.int .i64 l.form,.slice pq l.texts.length cq] 144))
 have HST:=QB (ZR.below hST hba)
 have HPB:=QB (bbox hba hbx)
 have HLB:=QB (hLb.below hba)
 have x2:=QC (QA Hbx) 2
 have x4:=QC (QA Hbx) 4
 simp only[gA,gZ,gS]at x2 x4
 have hxl:=QD (QA Hbx)
 have CT:=QB (fun V=>two_r l.word V)
 have CJ:=QB (fun V=>isJump_ref l.word V (by omega))
 have hX:Rf.bytes labs l F a=[]:=by unfold Rf.bytes;rw[hw];rfl
 have Htw:Rf.two l.word=0:=by rw[hw];rfl
 have Hij:Rf.QN l.word=false:=by rw[hw];decide +kernel
 rw[Hij]at CJ
 rw[Htw]at CT
 rw[hw]at *
 have HX:=QB hX
 generalize Rf.bytes labs l F a=X at *
 clear hX hwf hLs hFs hAs hLb hbx hST hok
 go_enter Tryz.func79,Tryz.ntmps79
 go_upto_region 2 with fail
 clear y0 y1 y2 y3 y4
 generalize w.alloc (.cells #[.int .i64 l.no,.string (bstr l.label),.string (bstr l.word),.int .i64 l.form,.slice pq l.texts.length cq] 144)=W at *
 go_wp2_with (first
  |(go_at_call 113;refine(QA CT _).mono ?_;rintro e w1 ⟨rfl,hw1⟩;have hw1':=hw1.symm;subst hw1')
  |(go_at_call 75;refine(QA CJ _).mono ?_;rintro e wj ⟨rfl,hbj⟩;have hBj:=QE hba hbj;have z2:=QC (bbox hbj (QA Hbx)) 2;have z4:=QC (bbox hbj (QA Hbx)) 4;simp only[gA,gZ,gS]at z2 z4;have hzl:=QD (bbox hbj (QA Hbx));have HSj:=QB ((QA HST).below hbj)))
 go_ret
 exact⟨by rw[QA HX];rfl,hBj⟩
theorem bytes_org (base g i:Nat) (org en a:Int) (L:List Rf.Line) (qs:List (Rf.Line×Sl)) (Fs As:List Int) (labs:List (Strd.Bs×Int)) (w:World) (hP:Rf.PrgAt base w g org en L qs Fs As labs) (hi:i<L.length) (hok:Rf.LineOk L[i]) (hLn:L.length≤2^30) (F:Int) (hw:L[i].word=[111,114,103]) :
  Calls Tryz.prog 79 #[.pointer (some ⟨g,0,none⟩),.int .i64 (i:Int),.int .i64 a] w fun e w'=>e=.returned (.string (bstr (Rf.bytes labs L[i] F a)))∧Below w.heap.size w w':=by
 obtain⟨⟨pl,cl,pf,cf,pa,ca,pb,cb,hbx,hLs,hFs,hAs,hLb⟩,hgb⟩:=hP
 obtain⟨bl,q,rfl,_,hbl,y0,y1,y2,y3,y4,hT⟩:=hLs.at i hi
 have c1:=QC hbx 1
 have c2:=QC hbx 2
 have c5:=QC hbx 5
 simp only[gA,gZ,gS]at c1 c2 c5
 have hgl:=QD hbx
 have hiI:(i:Int)<(L.length:Int):=by omega
 obtain⟨pq,nq,cq⟩:=q
 obtain⟨hnq,hST⟩:=hT
 simp only at y4 hnq hST
 have hwf:=hok.wf
 generalize L[i]=l at *
 subst hnq
 have hlw:=hwf.lens.2.1
 have hba:Below w.heap.size w (w.alloc (.cells #[.int .i64 l.no,.string (bstr l.label),.string (bstr l.word),.int .i64 l.form,.slice pq l.texts.length cq] 144)):=QF _ _
 have Hbx:=QB (QH w (.cells #[.int .i64 l.no,.string (bstr l.label),.string (bstr l.word),.int .i64 l.form,.slice pq l.texts.length cq] 144))
 have HST:=QB (ZR.below hST hba)
 have HPB:=QB (bbox hba hbx)
 have HLB:=QB (hLb.below hba)
 have x2:=QC (QA Hbx) 2
 have x4:=QC (QA Hbx) 4
 simp only[gA,gZ,gS]at x2 x4
 have hxl:=QD (QA Hbx)
 have CT:=QB (fun V=>two_r l.word V)
 have CJ:=QB (fun V=>isJump_ref l.word V (by omega))
 have hX:Rf.bytes labs l F a=[]:=by unfold Rf.bytes;rw[hw];rfl
 have Htw:Rf.two l.word=0:=by rw[hw];rfl
 have Hij:Rf.QN l.word=false:=by rw[hw];decide +kernel
 rw[Hij]at CJ
 rw[Htw]at CT
 rw[hw]at *
 have HX:=QB hX
 generalize Rf.bytes labs l F a=X at *
 clear hX hwf hLs hFs hAs hLb hbx hST hok
 go_enter Tryz.func79,Tryz.ntmps79
 go_upto_region 2 with fail
 clear y0 y1 y2 y3 y4
 generalize w.alloc (.cells #[.int .i64 l.no,.string (bstr l.label),.string (bstr l.word),.int .i64 l.form,.slice pq l.texts.length cq] 144)=W at *
 go_wp2_with (first
  |(go_at_call 113;refine(QA CT _).mono ?_;rintro e w1 ⟨rfl,hw1⟩;have hw1':=hw1.symm;subst hw1')
  |(go_at_call 75;refine(QA CJ _).mono ?_;rintro e wj ⟨rfl,hbj⟩;have hBj:=QE hba hbj;have z2:=QC (bbox hbj (QA Hbx)) 2;have z4:=QC (bbox hbj (QA Hbx)) 4;simp only[gA,gZ,gS]at z2 z4;have hzl:=QD (bbox hbj (QA Hbx));have HSj:=QB ((QA HST).below hbj)))
 go_ret
 exact⟨by rw[QA HX];rfl,hBj⟩
theorem bytes_two (base g i:Nat) (org en a:Int) (L:List Rf.Line) (qs:List (Rf.Line×Sl)) (Fs As:List Int) (labs:List (Strd.Bs×Int)) (w:World) (hP:Rf.PrgAt base w g org en L qs Fs As labs) (hi:i<L.length) (hok:Rf.LineOk L[i]) (hLn:L.length≤2^30) (F:Int) (p0 p1:Strd.Bs) (m n:Int) (ht:L[i].texts=[p0,p1]) (hm:Rf.register p0=some m) (hn:Rf.register p1=some n) (hw:0<Rf.two L[i].word) :
  Calls Tryz.prog 79 #[.pointer (some ⟨g,0,none⟩),.int .i64 (i:Int),.int .i64 a] w fun e w'=>e=.returned (.string (bstr (Rf.bytes labs L[i] F a)))∧Below w.heap.size w w':=by
 obtain⟨⟨pl,cl,pf,cf,pa,ca,pb,cb,hbx,hLs,hFs,hAs,hLb⟩,hgb⟩:=hP
 obtain⟨bl,q,rfl,_,hbl,y0,y1,y2,y3,y4,hT⟩:=hLs.at i hi
 have c1:=QC hbx 1
 have c2:=QC hbx 2
 have c5:=QC hbx 5
 simp only[gA,gZ,gS]at c1 c2 c5
 have hgl:=QD hbx
 have hiI:(i:Int)<(L.length:Int):=by omega
 obtain⟨pq,nq,cq⟩:=q
 obtain⟨hnq,hST⟩:=hT
 simp only at y4 hnq hST
 have hwf:=hok.wf
 generalize L[i]=l at *
 subst hnq
 have hlw:=hwf.lens.2.1
 have hba:Below w.heap.size w (w.alloc (.cells #[.int .i64 l.no,.string (bstr l.label),.string (bstr l.word),.int .i64 l.form,.slice pq l.texts.length cq] 144)):=QF _ _
 have Hbx:=QB (QH w (.cells #[.int .i64 l.no,.string (bstr l.label),.string (bstr l.word),.int .i64 l.form,.slice pq l.texts.length cq] 144))
 have HST:=QB (ZR.below hST hba)
 have HPB:=QB (bbox hba hbx)
 have HLB:=QB (hLb.below hba)
 have x2:=QC (QA Hbx) 2
 have x4:=QC (QA Hbx) 4
 simp only[gA,gZ,gS]at x2 x4
 have hxl:=QD (QA Hbx)
 have CT:=QB (fun V=>two_r l.word V)
 have CJ:=QB (fun V=>isJump_ref l.word V (by omega))
 have hn2:l.texts.length=2:=by rw[ht];rfl
 obtain⟨bt,rfl,_,hbt,t0⟩:=(QA HST).at 0 (by omega)
 obtain⟨bt',e',_,_,t1⟩:=(QA HST).at 1 (by omega)
 cases e'
 have e0:l.texts[0]'(by omega)=p0:=by simp[ht]
 have e1:l.texts[1]'(by omega)=p1:=by simp[ht]
 rw[e0]at t0
 rw[e1]at t1
 have hl0:(0:Int)<(l.texts.length:Int):=by omega
 have hl1:(1:Int)<(l.texts.length:Int):=by omega
 have hp0:p0.length≤2^20:=hwf.lens.2.2 p0 (by rw[ht];simp)
 have hp1:p1.length≤2^20:=hwf.lens.2.2 p1 (by rw[ht];simp)
 have ta0:Rf.ZI l 0=p0:=by unfold Rf.ZI;rw[ht];rfl
 have ta1:Rf.ZI l 1=p1:=by unfold Rf.ZI;rw[ht];rfl
 have CR0:=QB (fun V=>register_ref p0 V (by omega))
 have CR1:=QB (fun V=>register_ref p1 V (by omega))
 rw[hm]at CR0
 rw[hn]at CR1
 have hrm:=Rf.reg_rng hm
 have hrn:=Rf.reg_rng hn
 have htw:0<Rf.two l.word∧Rf.two l.word≤65535:=⟨hw,by rcases (Rf.two_of l.word).2 hw with e|e|e|e <;> rw[e] <;> decide⟩
 have hne:l.word≠[110,111,112]∧l.word≠[114,116,115]:=⟨fun e=>by rw[e]at hw;exact absurd hw (by decide),fun e=>by rw[e]at hw;exact absurd hw (by decide)⟩
 have b1:(l.word==[110,111,112])=false:=by rw[list_beq];simp[hne.1]
 have b2:(l.word==[114,116,115])=false:=by rw[list_beq];simp[hne.2]
 have hX:Rf.bytes labs l F a=Strd.QI (Rf.two l.word+512*n+m):=by
  unfold Rf.bytes
  rw[if_neg hne.1,if_neg hne.2,if_pos hw,ta0,ta1,hm,hn];rfl
 clear hne e0 e1 ta0 ta1 hm hn hn2 ht hw
 generalize Rf.two l.word=tw at *
 have CW:=QB (fun V=>word_r (tw+512*n+m) V)
 have q1:IntKind.i64.wrap (512*n)=512*n:=IntWalk.i64_in _ (by omega)
 have q2:IntKind.i64.wrap (tw+512*n)=tw+512*n:=IntWalk.i64_in _ (by omega)
 have q3:IntKind.i64.wrap (tw+512*n+m)=tw+512*n+m:=IntWalk.i64_in _ (by omega)
 have q4:0<tw:=htw.1
 have HX:=QB hX
 generalize Rf.bytes labs l F a=X at *
 clear hX hwf hLs hFs hAs hLb hbx hST hok
 go_enter Tryz.func79,Tryz.ntmps79
 go_upto_region 2 with fail
 clear y0 y1 y2 y3 y4
 generalize w.alloc (.cells #[.int .i64 l.no,.string (bstr l.label),.string (bstr l.word),.int .i64 l.form,.slice (some ⟨bt,0,none⟩) l.texts.length cq] 144)=W at *
 go_upto_region 10 with (first
  |(go_at_call 113;refine(QA CT _).mono ?_;rintro e w1 ⟨rfl,hw1⟩;have hw1':=hw1.symm;subst hw1')
  |(go_at_call 75;refine(QA CJ _).mono ?_;rintro e wj ⟨rfl,hbj⟩;have hBj:=QE hba hbj;have z2:=QC (bbox hbj (QA Hbx)) 2;have z4:=QC (bbox hbj (QA Hbx)) 4;simp only[gA,gZ,gS]at z2 z4;have hzl:=QD (bbox hbj (QA Hbx));have HSj:=QB ((QA HST).below hbj);have t0j:=(hbj.cell (p:=⟨bt,0,none⟩) hbt).trans t0;have t1j:=(hbj.cell (p:=⟨bt,1,none⟩) hbt).trans t1;have hbtj:=Nat.lt_of_lt_of_le hbt hbj.size)
  |(go_at_call 112;refine(QA CR0 _).mono ?_;rintro e w3 ⟨rfl,hw3⟩;have hw3':=hw3.symm;subst hw3'))
 go_wp2_with (first
  |(go_at_call 112;refine(QA CR1 _).mono ?_;rintro e w3 ⟨rfl,hw3⟩;have hw3':=hw3.symm;subst hw3')
  |(go_at_call 116;refine(QA CW _).mono ?_;rintro e w2 ⟨rfl,hb2⟩))
 go_ret
 exact⟨by rw[QA HX];rfl,QE hBj hb2⟩
theorem bytes_quick (base g i:Nat) (org en a:Int) (L:List Rf.Line) (qs:List (Rf.Line×Sl)) (Fs As:List Int) (labs:List (Strd.Bs×Int)) (w:World) (hP:Rf.PrgAt base w g org en L qs Fs As labs) (hi:i<L.length) (hok:Rf.LineOk L[i]) (hLn:L.length≤2^30) (F:Int) (p0 p1:Strd.Bs) (m n:Int) (ht:L[i].texts=[p0,p1]) (hm:Rf.value p0=some m) (hn:Rf.register p1=some n) (hw:L[i].word=[109,111,118,101,113]) :
  Calls Tryz.prog 79 #[.pointer (some ⟨g,0,none⟩),.int .i64 (i:Int),.int .i64 a] w fun e w'=>e=.returned (.string (bstr (Rf.bytes labs L[i] F a)))∧Below w.heap.size w w':=by
 obtain⟨⟨pl,cl,pf,cf,pa,ca,pb,cb,hbx,hLs,hFs,hAs,hLb⟩,hgb⟩:=hP
 obtain⟨bl,q,rfl,_,hbl,y0,y1,y2,y3,y4,hT⟩:=hLs.at i hi
 have c1:=QC hbx 1
 have c2:=QC hbx 2
 have c5:=QC hbx 5
 simp only[gA,gZ,gS]at c1 c2 c5
 have hgl:=QD hbx
 have hiI:(i:Int)<(L.length:Int):=by omega
 obtain⟨pq,nq,cq⟩:=q
 obtain⟨hnq,hST⟩:=hT
 simp only at y4 hnq hST
 have hwf:=hok.wf
 generalize L[i]=l at *
 subst hnq
 have hlw:=hwf.lens.2.1
 have hba:Below w.heap.size w (w.alloc (.cells #[.int .i64 l.no,.string (bstr l.label),.string (bstr l.word),.int .i64 l.form,.slice pq l.texts.length cq] 144)):=QF _ _
 have Hbx:=QB (QH w (.cells #[.int .i64 l.no,.string (bstr l.label),.string (bstr l.word),.int .i64 l.form,.slice pq l.texts.length cq] 144))
 have HST:=QB (ZR.below hST hba)
 have HPB:=QB (bbox hba hbx)
 have HLB:=QB (hLb.below hba)
 have x2:=QC (QA Hbx) 2
 have x4:=QC (QA Hbx) 4
 simp only[gA,gZ,gS]at x2 x4
 have hxl:=QD (QA Hbx)
 have CT:=QB (fun V=>two_r l.word V)
 have CJ:=QB (fun V=>isJump_ref l.word V (by omega))
 have hn2:l.texts.length=2:=by rw[ht];rfl
 obtain⟨bt,rfl,_,hbt,t0⟩:=(QA HST).at 0 (by omega)
 obtain⟨bt',e',_,_,t1⟩:=(QA HST).at 1 (by omega)
 cases e'
 have e0:l.texts[0]'(by omega)=p0:=by simp[ht]
 have e1:l.texts[1]'(by omega)=p1:=by simp[ht]
 rw[e0]at t0
 rw[e1]at t1
 have hl0:(0:Int)<(l.texts.length:Int):=by omega
 have hl1:(1:Int)<(l.texts.length:Int):=by omega
 have hp0:p0.length≤2^20:=hwf.lens.2.2 p0 (by rw[ht];simp)
 have hp1:p1.length≤2^20:=hwf.lens.2.2 p1 (by rw[ht];simp)
 have ta0:Rf.ZI l 0=p0:=by unfold Rf.ZI;rw[ht];rfl
 have ta1:Rf.ZI l 1=p1:=by unfold Rf.ZI;rw[ht];rfl
 have CR0:=QB (fun V=>value_ref p0 V (by omega))
 have CR1:=QB (fun V=>register_ref p1 V (by omega))
 rw[hm]at CR0
 rw[hn]at CR1
 have hrn:=Rf.reg_rng hn
 have Htw:Rf.two l.word=0:=by rw[hw];rfl
 rw[Htw]at CT
 have hX:Rf.bytes labs l F a=[Strd.byteB (0x70+2*n),Strd.byteB m]:=by
  unfold Rf.bytes
  rw[ta0,ta1,hm,hn,hw];rfl
 rw[hw]at *
 clear e0 e1 ta0 ta1 hm hn hn2 ht hw
 have q1:IntKind.i64.wrap (2*n)=2*n:=IntWalk.i64_in _ (by omega)
 have q2:IntKind.i64.wrap (112+2*n)=112+2*n:=IntWalk.i64_in _ (by omega)
 have q3:(112+2*n) % 256=112+2*n:=by omega
 have HCV:=QB (fun V=>Rf.conv88 (Rf.two_fresh V (112+2*n) m))
 rw[q3]at HCV
 have HX:=QB hX
 generalize Rf.bytes labs l F a=X at *
 clear hX hwf hLs hFs hAs hLb hbx hST hok
 go_enter Tryz.func79,Tryz.ntmps79
 go_upto_region 2 with fail
 clear y0 y1 y2 y3 y4
 generalize w.alloc (.cells #[.int .i64 l.no,.string (bstr l.label),.string (bstr l.word),.int .i64 l.form,.slice (some ⟨bt,0,none⟩) l.texts.length cq] 144)=W at *
 go_wp2_with (first
  |(go_at_call 113;refine(QA CT _).mono ?_;rintro e w1 ⟨rfl,hw1⟩;have hw1':=hw1.symm;subst hw1')
  |(go_at_call 75;refine(QA CJ _).mono ?_;rintro e wj ⟨rfl,hbj⟩;have hBj:=QE hba hbj;have z2:=QC (bbox hbj (QA Hbx)) 2;have z4:=QC (bbox hbj (QA Hbx)) 4;simp only[gA,gZ,gS]at z2 z4;have hzl:=QD (bbox hbj (QA Hbx));have HSj:=QB ((QA HST).below hbj);have t0j:=(hbj.cell (p:=⟨bt,0,none⟩) hbt).trans t0;have t1j:=(hbj.cell (p:=⟨bt,1,none⟩) hbt).trans t1;have hbtj:=Nat.lt_of_lt_of_le hbt hbj.size;have hcv:=QA HCV wj;have hbz:=QF wj (.cells #[.int .u8 (112+2*n),.int .u8 (m % 256)] 5))
  |(go_at_call 114;refine(QA CR0 _).mono ?_;rintro e w3 ⟨rfl,hw3⟩;have hw3':=hw3.symm;subst hw3')
  |(go_at_call 112;refine(QA CR1 _).mono ?_;rintro e w3 ⟨rfl,hw3⟩;have hw3':=hw3.symm;subst hw3'))
 go_ret
 exact⟨by rw[QA HX];rfl,QE hBj hbz⟩
theorem bytes_addi_short (base g i:Nat) (org en a:Int) (L:List Rf.Line) (qs:List (Rf.Line×Sl)) (Fs As:List Int) (labs:List (Strd.Bs×Int)) (w:World) (hP:Rf.PrgAt base w g org en L qs Fs As labs) (hi:i<L.length) (hok:Rf.LineOk L[i]) (hLn:L.length≤2^30) (F:Int) (p0 p1:Strd.Bs) (m n:Int) (ht:L[i].texts=[p0,p1]) (hm:Rf.value p0=some m) (hn:Rf.register p1=some n) (hw:L[i].word=[97,100,100,105]) (hc:1≤m∧m≤8) :
  Calls Tryz.prog 79 #[.pointer (some ⟨g,0,none⟩),.int .i64 (i:Int),.int .i64 a] w fun e w'=>e=.returned (.string (bstr (Rf.bytes labs L[i] F a)))∧Below w.heap.size w w':=by
 obtain⟨⟨pl,cl,pf,cf,pa,ca,pb,cb,hbx,hLs,hFs,hAs,hLb⟩,hgb⟩:=hP
 obtain⟨bl,q,rfl,_,hbl,y0,y1,y2,y3,y4,hT⟩:=hLs.at i hi
 have c1:=QC hbx 1
 have c2:=QC hbx 2
 have c5:=QC hbx 5
 simp only[gA,gZ,gS]at c1 c2 c5
 have hgl:=QD hbx
 have hiI:(i:Int)<(L.length:Int):=by omega
 obtain⟨pq,nq,cq⟩:=q
 obtain⟨hnq,hST⟩:=hT
 simp only at y4 hnq hST
 have hwf:=hok.wf
 generalize L[i]=l at *
 subst hnq
 have hlw:=hwf.lens.2.1
 have hba:Below w.heap.size w (w.alloc (.cells #[.int .i64 l.no,.string (bstr l.label),.string (bstr l.word),.int .i64 l.form,.slice pq l.texts.length cq] 144)):=QF _ _
 have Hbx:=QB (QH w (.cells #[.int .i64 l.no,.string (bstr l.label),.string (bstr l.word),.int .i64 l.form,.slice pq l.texts.length cq] 144))
 have HST:=QB (ZR.below hST hba)
 have HPB:=QB (bbox hba hbx)
 have HLB:=QB (hLb.below hba)
 have x2:=QC (QA Hbx) 2
 have x4:=QC (QA Hbx) 4
 simp only[gA,gZ,gS]at x2 x4
 have hxl:=QD (QA Hbx)
 have CT:=QB (fun V=>two_r l.word V)
 have CJ:=QB (fun V=>isJump_ref l.word V (by omega))
 have hn2:l.texts.length=2:=by rw[ht];rfl
 obtain⟨bt,rfl,_,hbt,t0⟩:=(QA HST).at 0 (by omega)
 obtain⟨bt',e',_,_,t1⟩:=(QA HST).at 1 (by omega)
 cases e'
 have e0:l.texts[0]'(by omega)=p0:=by simp[ht]
 have e1:l.texts[1]'(by omega)=p1:=by simp[ht]
 rw[e0]at t0
 rw[e1]at t1
 have hl0:(0:Int)<(l.texts.length:Int):=by omega
 have hl1:(1:Int)<(l.texts.length:Int):=by omega
 have hp0:p0.length≤2^20:=hwf.lens.2.2 p0 (by rw[ht];simp)
 have hp1:p1.length≤2^20:=hwf.lens.2.2 p1 (by rw[ht];simp)
 have ta0:Rf.ZI l 0=p0:=by unfold Rf.ZI;rw[ht];rfl
 have ta1:Rf.ZI l 1=p1:=by unfold Rf.ZI;rw[ht];rfl
 have CR0:=QB (fun V=>value_ref p0 V (by omega))
 have CR1:=QB (fun V=>register_ref p1 V (by omega))
 rw[hm]at CR0
 rw[hn]at CR1
 have hrn:=Rf.reg_rng hn
 have Htw:Rf.two l.word=0:=by rw[hw];rfl
 rw[Htw]at CT
 have hX:Rf.bytes labs l F a=Rf.addiB m n:=by
  unfold Rf.bytes
  rw[ta0,ta1,hm,hn,hw];rfl
 unfold Rf.addiB at hX
 rw[hw]at *
 clear e0 e1 ta0 ta1 hm hn hn2 ht hw
 rw[if_pos hc]at hX
 obtain⟨hc1,hc8⟩:=hc
 have hr8:0≤m % 8∧m % 8≤7:=by omega
 have htm:m.tmod 8=m % 8:=Int.tmod_eq_emod_of_nonneg (by omega)
 have CW:=QB (fun V=>word_r (20544+512*(m % 8)+n) V)
 have q1:IntKind.i64.wrap (512*(m % 8))=512*(m % 8):=IntWalk.i64_in _ (by omega)
 have q2:IntKind.i64.wrap (20544+512*(m % 8))=20544+512*(m % 8):=IntWalk.i64_in _ (by omega)
 have q3:IntKind.i64.wrap (20544+512*(m % 8)+n)=20544+512*(m % 8)+n:=IntWalk.i64_in _ (by omega)
 have HX:=QB hX
 generalize Rf.bytes labs l F a=X at *
 clear hX hwf hLs hFs hAs hLb hbx hST hok
 go_enter Tryz.func79,Tryz.ntmps79
 go_upto_region 2 with fail
 clear y0 y1 y2 y3 y4
 generalize w.alloc (.cells #[.int .i64 l.no,.string (bstr l.label),.string (bstr l.word),.int .i64 l.form,.slice (some ⟨bt,0,none⟩) l.texts.length cq] 144)=W at *
 go_wp2_with (first
  |(go_at_call 113;refine(QA CT _).mono ?_;rintro e w1 ⟨rfl,hw1⟩;have hw1':=hw1.symm;subst hw1')
  |(go_at_call 75;refine(QA CJ _).mono ?_;rintro e wj ⟨rfl,hbj⟩;have hBj:=QE hba hbj;have z2:=QC (bbox hbj (QA Hbx)) 2;have z4:=QC (bbox hbj (QA Hbx)) 4;simp only[gA,gZ,gS]at z2 z4;have hzl:=QD (bbox hbj (QA Hbx));have HSj:=QB ((QA HST).below hbj);have t0j:=(hbj.cell (p:=⟨bt,0,none⟩) hbt).trans t0;have t1j:=(hbj.cell (p:=⟨bt,1,none⟩) hbt).trans t1;have hbtj:=Nat.lt_of_lt_of_le hbt hbj.size)
  |(go_at_call 114;refine(QA CR0 _).mono ?_;rintro e w3 ⟨rfl,hw3⟩;have hw3':=hw3.symm;subst hw3')
  |(go_at_call 112;refine(QA CR1 _).mono ?_;rintro e w3 ⟨rfl,hw3⟩;have hw3':=hw3.symm;subst hw3')
  |(go_at_call 116;refine(QA CW _).mono ?_;rintro e w2 ⟨rfl,hb2⟩))
 go_ret
 exact⟨by rw[QA HX];rfl,QE hBj hb2⟩
theorem bytes_addi_plain (base g i:Nat) (org en a:Int) (L:List Rf.Line) (qs:List (Rf.Line×Sl)) (Fs As:List Int) (labs:List (Strd.Bs×Int)) (w:World) (hP:Rf.PrgAt base w g org en L qs Fs As labs) (hi:i<L.length) (hok:Rf.LineOk L[i]) (hLn:L.length≤2^30) (F:Int) (p0 p1:Strd.Bs) (m n:Int) (ht:L[i].texts=[p0,p1]) (hm:Rf.value p0=some m) (hn:Rf.register p1=some n) (hw:L[i].word=[97,100,100,105]) (hc:¬(1≤m∧m≤8)) :
  Calls Tryz.prog 79 #[.pointer (some ⟨g,0,none⟩),.int .i64 (i:Int),.int .i64 a] w fun e w'=>e=.returned (.string (bstr (Rf.bytes labs L[i] F a)))∧Below w.heap.size w w':=by
 obtain⟨⟨pl,cl,pf,cf,pa,ca,pb,cb,hbx,hLs,hFs,hAs,hLb⟩,hgb⟩:=hP
 obtain⟨bl,q,rfl,_,hbl,y0,y1,y2,y3,y4,hT⟩:=hLs.at i hi
 have c1:=QC hbx 1
 have c2:=QC hbx 2
 have c5:=QC hbx 5
 simp only[gA,gZ,gS]at c1 c2 c5
 have hgl:=QD hbx
 have hiI:(i:Int)<(L.length:Int):=by omega
 obtain⟨pq,nq,cq⟩:=q
 obtain⟨hnq,hST⟩:=hT
 simp only at y4 hnq hST
 have hwf:=hok.wf
 generalize L[i]=l at *
 subst hnq
 have hlw:=hwf.lens.2.1
 have hba:Below w.heap.size w (w.alloc (.cells #[.int .i64 l.no,.string (bstr l.label),.string (bstr l.word),.int .i64 l.form,.slice pq l.texts.length cq] 144)):=QF _ _
 have Hbx:=QB (QH w (.cells #[.int .i64 l.no,.string (bstr l.label),.string (bstr l.word),.int .i64 l.form,.slice pq l.texts.length cq] 144))
 have HST:=QB (ZR.below hST hba)
 have HPB:=QB (bbox hba hbx)
 have HLB:=QB (hLb.below hba)
 have x2:=QC (QA Hbx) 2
 have x4:=QC (QA Hbx) 4
 simp only[gA,gZ,gS]at x2 x4
 have hxl:=QD (QA Hbx)
 have CT:=QB (fun V=>two_r l.word V)
 have CJ:=QB (fun V=>isJump_ref l.word V (by omega))
 have hn2:l.texts.length=2:=by rw[ht];rfl
 obtain⟨bt,rfl,_,hbt,t0⟩:=(QA HST).at 0 (by omega)
 obtain⟨bt',e',_,_,t1⟩:=(QA HST).at 1 (by omega)
 cases e'
 have e0:l.texts[0]'(by omega)=p0:=by simp[ht]
 have e1:l.texts[1]'(by omega)=p1:=by simp[ht]
 rw[e0]at t0
 rw[e1]at t1
 have hl0:(0:Int)<(l.texts.length:Int):=by omega
 have hl1:(1:Int)<(l.texts.length:Int):=by omega
 have hp0:p0.length≤2^20:=hwf.lens.2.2 p0 (by rw[ht];simp)
 have hp1:p1.length≤2^20:=hwf.lens.2.2 p1 (by rw[ht];simp)
 have ta0:Rf.ZI l 0=p0:=by unfold Rf.ZI;rw[ht];rfl
 have ta1:Rf.ZI l 1=p1:=by unfold Rf.ZI;rw[ht];rfl
 have CR0:=QB (fun V=>value_ref p0 V (by omega))
 have CR1:=QB (fun V=>register_ref p1 V (by omega))
 rw[hm]at CR0
 rw[hn]at CR1
 have hrn:=Rf.reg_rng hn
 have Htw:Rf.two l.word=0:=by rw[hw];rfl
 rw[Htw]at CT
 have hX:Rf.bytes labs l F a=Rf.addiB m n:=by
  unfold Rf.bytes
  rw[ta0,ta1,hm,hn,hw];rfl
 unfold Rf.addiB at hX
 rw[hw]at *
 clear e0 e1 ta0 ta1 hm hn hn2 ht hw
 rw[if_neg hc]at hX
 have CW:=QB (fun V=>word_r (1600+n) V)
 have CW2:=QB (fun V=>word_r m V)
 have q1:IntKind.i64.wrap (1600+n)=1600+n:=IntWalk.i64_in _ (by omega)
 have l1:(Strd.QI (1600+n)).length=2:=rfl
 have l2:(Strd.QI m).length=2:=rfl
 have hX':Rf.bytes labs l F a=Strd.QI (1600+n)++Strd.QI m:=hX
 clear hX
 have hX:=hX'
 clear hX'
 generalize Strd.QI (1600+n)=AA at *
 generalize Strd.QI m=BB at *
 have s1:¬9223372036854775807<List.length AA+List.length BB:=by omega
 have HX:=QB hX
 generalize Rf.bytes labs l F a=X at *
 clear hX hwf hLs hFs hAs hLb hbx hST hok
 go_enter Tryz.func79,Tryz.ntmps79
 go_upto_region 2 with fail
 clear y0 y1 y2 y3 y4
 generalize w.alloc (.cells #[.int .i64 l.no,.string (bstr l.label),.string (bstr l.word),.int .i64 l.form,.slice (some ⟨bt,0,none⟩) l.texts.length cq] 144)=W at *
 by_cases hc1:1≤m
 ·have hc8:¬m≤8:=fun h=>hc ⟨hc1,h⟩
  go_upto_region 21 with (first
   |(go_at_call 113;refine(QA CT _).mono ?_;rintro e w1 ⟨rfl,hw1⟩;have hw1':=hw1.symm;subst hw1')
   |(go_at_call 75;refine(QA CJ _).mono ?_;rintro e wj ⟨rfl,hbj⟩;have hBj:=QE hba hbj;have z2:=QC (bbox hbj (QA Hbx)) 2;have z4:=QC (bbox hbj (QA Hbx)) 4;simp only[gA,gZ,gS]at z2 z4;have hzl:=QD (bbox hbj (QA Hbx));have HSj:=QB ((QA HST).below hbj);have t0j:=(hbj.cell (p:=⟨bt,0,none⟩) hbt).trans t0;have t1j:=(hbj.cell (p:=⟨bt,1,none⟩) hbt).trans t1;have hbtj:=Nat.lt_of_lt_of_le hbt hbj.size)
   |(go_at_call 114;refine(QA CR0 _).mono ?_;rintro e w3 ⟨rfl,hw3⟩;have hw3':=hw3.symm;subst hw3')
   |(go_at_call 112;refine(QA CR1 _).mono ?_;rintro e w3 ⟨rfl,hw3⟩;have hw3':=hw3.symm;subst hw3'))
  go_wp2_with fail
  refine(QA CW _).mono ?_
  rintro e w2 ⟨rfl,hb2⟩
  go_wp2_with fail
  refine(QA CW2 _).mono ?_
  rintro e w4 ⟨rfl,hb4⟩
  go_wp2
  go_ret
  exact⟨by rw[QA HX];exact congrArg (fun b=>Ending.returned (Value.string b)) (QZ (by simp)),QE hBj (QE hb2 hb4)⟩
 ·
  go_upto_region 21 with (first
   |(go_at_call 113;refine(QA CT _).mono ?_;rintro e w1 ⟨rfl,hw1⟩;have hw1':=hw1.symm;subst hw1')
   |(go_at_call 75;refine(QA CJ _).mono ?_;rintro e wj ⟨rfl,hbj⟩;have hBj:=QE hba hbj;have z2:=QC (bbox hbj (QA Hbx)) 2;have z4:=QC (bbox hbj (QA Hbx)) 4;simp only[gA,gZ,gS]at z2 z4;have hzl:=QD (bbox hbj (QA Hbx));have HSj:=QB ((QA HST).below hbj);have t0j:=(hbj.cell (p:=⟨bt,0,none⟩) hbt).trans t0;have t1j:=(hbj.cell (p:=⟨bt,1,none⟩) hbt).trans t1;have hbtj:=Nat.lt_of_lt_of_le hbt hbj.size)
   |(go_at_call 114;refine(QA CR0 _).mono ?_;rintro e w3 ⟨rfl,hw3⟩;have hw3':=hw3.symm;subst hw3')
   |(go_at_call 112;refine(QA CR1 _).mono ?_;rintro e w3 ⟨rfl,hw3⟩;have hw3':=hw3.symm;subst hw3'))
  go_wp2_with fail
  refine(QA CW _).mono ?_
  rintro e w2 ⟨rfl,hb2⟩
  go_wp2_with fail
  refine(QA CW2 _).mono ?_
  rintro e w4 ⟨rfl,hb4⟩
  go_wp2
  go_ret
  exact⟨by rw[QA HX];exact congrArg (fun b=>Ending.returned (Value.string b)) (QZ (by simp)),QE hBj (QE hb2 hb4)⟩
namespace Rf
theorem make_zeros (n:Nat) (h:n≤2^30) (W:World):(Instr.makeSlice 88 (.int .i64 (n:Int)) (.int .i64 (n:Int))).run Tryz.prog W=.ok (.slice (some ⟨W.heap.size,0,none⟩) n n) (W.alloc (.cells (madeCells #[.int .u8 0] n) 5)):=by
 obtain⟨i,hi,hz0,hz1,hz2⟩:=info_parts Tryz.info5
 have h:=run_make (P:=Tryz.prog) W 88 5 i (.int .u8 0) Tryz.underlying88 hi hz0 .i64 .i64 (n:Int) (n:Int) (by omega) (by omega) (by rw[hz2];omega) (by omega)
 rw[hz1,Nat.mul_one]at h
 exact h
theorem made_zero (n:Nat):(madeCells #[.int .u8 0] n).toList=(List.replicate n (0:UInt8)).map encB:=by
 rw[List.map_replicate]
 induction n with
 |zero=>simp[madeCells]
 |succ n ih=>
  simp only[madeCells,Array.toList_map,Array.toList_range]at ih ⊢
  rw[List.range_succ,List.map_append,ih,List.replicate_succ']
  congr 1
  simp[encB,Nat.mod_one]
theorem zeros_at (n:Nat) (h:n≤2^30) (W:World):Q1 0 (W.alloc (.cells (madeCells #[.int .u8 0] n) 5)) (.slice (some ⟨W.heap.size,0,none⟩) n n) (List.replicate n 0):=by
 refine⟨by simp,.inr ⟨W.heap.size,n,_,by rw[List.length_replicate],Nat.zero_le _,QH W _,by rw[List.length_replicate];exact Nat.le_refl _,by unfold maxLen;omega,by rw[size_madeCells,Nat.mul_one],?_⟩⟩
 rw[made_zero,List.length_replicate,Nat.mul_one,List.take_of_length_le (by simp)]
end Rf
theorem bytes_ds (base g i:Nat) (org en a:Int) (L:List Rf.Line) (qs:List (Rf.Line×Sl)) (Fs As:List Int) (labs:List (Strd.Bs×Int)) (w:World) (hP:Rf.PrgAt base w g org en L qs Fs As labs) (hi:i<L.length) (hok:Rf.LineOk L[i]) (hLn:L.length≤2^30) (F:Int) (p0:Strd.Bs) (m:Int) (ht:L[i].texts=[p0]) (hm:Strd.number p0=some m) (hw:L[i].word=[100,115]) :
  Calls Tryz.prog 79 #[.pointer (some ⟨g,0,none⟩),.int .i64 (i:Int),.int .i64 a] w fun e w'=>e=.returned (.string (bstr (Rf.bytes labs L[i] F a)))∧Below w.heap.size w w':=by
 obtain⟨⟨pl,cl,pf,cf,pa,ca,pb,cb,hbx,hLs,hFs,hAs,hLb⟩,hgb⟩:=hP
 obtain⟨bl,q,rfl,_,hbl,y0,y1,y2,y3,y4,hT⟩:=hLs.at i hi
 have c1:=QC hbx 1
 have c2:=QC hbx 2
 have c5:=QC hbx 5
 simp only[gA,gZ,gS]at c1 c2 c5
 have hgl:=QD hbx
 have hiI:(i:Int)<(L.length:Int):=by omega
 obtain⟨pq,nq,cq⟩:=q
 obtain⟨hnq,hST⟩:=hT
 simp only at y4 hnq hST
 have hwf:=hok.wf
 generalize L[i]=l at *
 subst hnq
 have hlw:=hwf.lens.2.1
 have hba:Below w.heap.size w (w.alloc (.cells #[.int .i64 l.no,.string (bstr l.label),.string (bstr l.word),.int .i64 l.form,.slice pq l.texts.length cq] 144)):=QF _ _
 have Hbx:=QB (QH w (.cells #[.int .i64 l.no,.string (bstr l.label),.string (bstr l.word),.int .i64 l.form,.slice pq l.texts.length cq] 144))
 have HST:=QB (ZR.below hST hba)
 have HPB:=QB (bbox hba hbx)
 have HLB:=QB (hLb.below hba)
 have x2:=QC (QA Hbx) 2
 have x4:=QC (QA Hbx) 4
 simp only[gA,gZ,gS]at x2 x4
 have hxl:=QD (QA Hbx)
 have CT:=QB (fun V=>two_r l.word V)
 have CJ:=QB (fun V=>isJump_ref l.word V (by omega))
 have hn1:l.texts.length=1:=by rw[ht];rfl
 obtain⟨bt,rfl,_,hbt,t0⟩:=(QA HST).at 0 (by omega)
 have e0:l.texts[0]'(by omega)=p0:=by simp[ht]
 rw[e0]at t0
 have hl0:(0:Int)<(l.texts.length:Int):=by omega
 have hp0:p0.length≤2^20:=hwf.lens.2.2 p0 (by rw[ht];simp)
 have ta0:Rf.ZI l 0=p0:=by unfold Rf.ZI;rw[ht];rfl
 have CN:=QB (fun V=>number_ref p0 V (by omega))
 rw[hm]at CN
 have hnn:=hok.nums
 have hrng:0≤m∧m≤1024:=by
  unfold Rf.numbers at hnn
  rw[ht,hw]at hnn
  simp only[Bool.and_eq_true]at hnn
  have h2:Rf.lastNum [100,115] p0=true:=hnn.2
  unfold Rf.lastNum at h2
  rw[if_neg (by decide),if_neg (by decide),if_pos rfl,hm]at h2
  unfold Strd.within at h2
  simpa using h2
 obtain⟨k,rfl⟩:∃k:Nat,m=(k:Int):=⟨m.toNat,by omega⟩
 have Htw:Rf.two l.word=0:=by rw[hw];rfl
 have Hij:Rf.QN l.word=false:=by rw[hw];decide +kernel
 rw[Hij]at CJ
 rw[Htw]at CT
 have hX:Rf.bytes labs l F a=List.replicate k 0:=by
  unfold Rf.bytes
  rw[ta0,hm,hw];rfl
 rw[hw]at *
 have HMK:=QB (fun V=>Rf.make_zeros k (by omega) V)
 have HCV:=QB (fun V=>Rf.conv88 (Rf.zeros_at k (by omega) V))
 clear e0 ta0 hm hn1 ht hw hnn
 have HX:=QB hX
 generalize Rf.bytes labs l F a=X at *
 clear hX hwf hLs hFs hAs hLb hbx hST hok
 go_enter Tryz.func79,Tryz.ntmps79
 go_upto_region 2 with fail
 clear y0 y1 y2 y3 y4
 generalize w.alloc (.cells #[.int .i64 l.no,.string (bstr l.label),.string (bstr l.word),.int .i64 l.form,.slice (some ⟨bt,0,none⟩) l.texts.length cq] 144)=W at *
 go_wp2_with (first
  |(go_at_call 113;refine(QA CT _).mono ?_;rintro e w1 ⟨rfl,hw1⟩;have hw1':=hw1.symm;subst hw1')
  |(go_at_call 75;refine(QA CJ _).mono ?_;rintro e wj ⟨rfl,hbj⟩;have hBj:=QE hba hbj;have z2:=QC (bbox hbj (QA Hbx)) 2;have z4:=QC (bbox hbj (QA Hbx)) 4;simp only[gA,gZ,gS]at z2 z4;have hzl:=QD (bbox hbj (QA Hbx));have t0j:=(hbj.cell (p:=⟨bt,0,none⟩) hbt).trans t0;have hbtj:=Nat.lt_of_lt_of_le hbt hbj.size;have hmk:=QA HMK wj;have hcv:=QA HCV wj;have hbz:=QF wj (.cells (madeCells #[.int .u8 0] k) 5))
  |(go_at_call 74;refine(QA CN _).mono ?_;rintro e w3 ⟨rfl,hw3⟩;have hw3':=hw3.symm;subst hw3'))
 go_ret
 exact⟨by rw[QA HX];rfl,QE hBj hbz⟩
namespace Rf
theorem align_facts (m a:Int) (hm:Strd.isPow m=true):0<m∧m≤256∧0≤(-a) % m∧(-a) % m<m∧(a+(-a) % m) % m=0∧∀k,0≤k→k<(-a) % m→(a+k) % m≠0:=by
 unfold Strd.isPow at hm
 simp only[Bool.or_eq_true,beq_iff_eq]at hm
 rcases hm with ((((((h|h)|h)|h)|h)|h)|h)|h <;> subst h <;> refine⟨by omega,by omega,by omega,by omega,by omega,fun k h1 h2=>by omega⟩
end Rf
theorem bytes_align (base g i:Nat) (org en a:Int) (L:List Rf.Line) (qs:List (Rf.Line×Sl)) (Fs As:List Int) (labs:List (Strd.Bs×Int)) (w:World) (hP:Rf.PrgAt base w g org en L qs Fs As labs) (hi:i<L.length) (hok:Rf.LineOk L[i]) (hLn:L.length≤2^30) (F:Int) (ha:0≤a∧a≤2^40) (p0:Strd.Bs) (m:Int) (ht:L[i].texts=[p0]) (hm:Strd.number p0=some m) (hw:L[i].word=[97,108,105,103,110]) :
  Calls Tryz.prog 79 #[.pointer (some ⟨g,0,none⟩),.int .i64 (i:Int),.int .i64 a] w fun e w'=>e=.returned (.string (bstr (Rf.bytes labs L[i] F a)))∧Below w.heap.size w w':=by
 obtain⟨⟨pl,cl,pf,cf,pa,ca,pb,cb,hbx,hLs,hFs,hAs,hLb⟩,hgb⟩:=hP
 obtain⟨bl,q,rfl,_,hbl,y0,y1,y2,y3,y4,hT⟩:=hLs.at i hi
 have c1:=QC hbx 1
 have c2:=QC hbx 2
 have c5:=QC hbx 5
 simp only[gA,gZ,gS]at c1 c2 c5
 have hgl:=QD hbx
 have hiI:(i:Int)<(L.length:Int):=by omega
 obtain⟨pq,nq,cq⟩:=q
 obtain⟨hnq,hST⟩:=hT
 simp only at y4 hnq hST
 have hwf:=hok.wf
 generalize L[i]=l at *
 subst hnq
 have hlw:=hwf.lens.2.1
 have hba:Below w.heap.size w (w.alloc (.cells #[.int .i64 l.no,.string (bstr l.label),.string (bstr l.word),.int .i64 l.form,.slice pq l.texts.length cq] 144)):=QF _ _
 have Hbx:=QB (QH w (.cells #[.int .i64 l.no,.string (bstr l.label),.string (bstr l.word),.int .i64 l.form,.slice pq l.texts.length cq] 144))
 have HST:=QB (ZR.below hST hba)
 have HPB:=QB (bbox hba hbx)
 have HLB:=QB (hLb.below hba)
 have x2:=QC (QA Hbx) 2
 have x4:=QC (QA Hbx) 4
 simp only[gA,gZ,gS]at x2 x4
 have hxl:=QD (QA Hbx)
 have CT:=QB (fun V=>two_r l.word V)
 have CJ:=QB (fun V=>isJump_ref l.word V (by omega))
 have hn1:l.texts.length=1:=by rw[ht];rfl
 obtain⟨bt,rfl,_,hbt,t0⟩:=(QA HST).at 0 (by omega)
 have e0:l.texts[0]'(by omega)=p0:=by simp[ht]
 rw[e0]at t0
 have hl0:(0:Int)<(l.texts.length:Int):=by omega
 have hp0:p0.length≤2^20:=hwf.lens.2.2 p0 (by rw[ht];simp)
 have ta0:Rf.ZI l 0=p0:=by unfold Rf.ZI;rw[ht];rfl
 have CN:=QB (fun V=>number_ref p0 V (by omega))
 rw[hm]at CN
 have hnn:=hok.nums
 have hpw:Strd.isPow m=true:=by
  unfold Rf.numbers at hnn
  rw[ht,hw]at hnn
  simp only[Bool.and_eq_true]at hnn
  have h2:Rf.lastNum [97,108,105,103,110] p0=true:=hnn.2
  unfold Rf.lastNum at h2
  rw[if_neg (by decide),if_neg (by decide),if_neg (by decide),if_pos rfl,hm]at h2
  exact h2
 obtain⟨hm0,hm256,hK0,hKm,hKz,hKn⟩:=Rf.align_facts m a hpw
 obtain⟨K,hK⟩:∃K:Nat,(-a) % m=(K:Int):=⟨((-a) % m).toNat,by omega⟩
 rw[hK]at hK0 hKm hKz hKn
 have Htw:Rf.two l.word=0:=by rw[hw];rfl
 have Hij:Rf.QN l.word=false:=by rw[hw];decide +kernel
 rw[Hij]at CJ
 rw[Htw]at CT
 have hX:Rf.bytes labs l F a=List.replicate K 0:=by
  have h1:Rf.bytes labs l F a=List.replicate ((-a) % ((Strd.number (Rf.ZI l 0)).getD 0)).toNat 0:=by
   unfold Rf.bytes
   rw[hw];rfl
  rw[h1,ta0,hm,Option.getD_some,hK,Int.toNat_natCast]
 rw[hw]at *
 have HKz:=QB hKz
 have HKn:=QB hKn
 have HMK:=QB (fun V=>Rf.make_zeros K (by omega) V)
 have HCV:=QB (fun V=>Rf.conv88 (Rf.zeros_at K (by omega) V))
 clear e0 ta0 hm hn1 ht hw hnn hpw hKz hKn hK
 have HX:=QB hX
 generalize Rf.bytes labs l F a=X at *
 clear hX hwf hLs hFs hAs hLb hbx hST hok
 go_enter Tryz.func79,Tryz.ntmps79
 go_upto_region 2 with fail
 clear y0 y1 y2 y3 y4
 generalize w.alloc (.cells #[.int .i64 l.no,.string (bstr l.label),.string (bstr l.word),.int .i64 l.form,.slice (some ⟨bt,0,none⟩) l.texts.length cq] 144)=W at *
 go_wp2_with (first
  |(go_at_call 113;refine(QA CT _).mono ?_;rintro e w1 ⟨rfl,hw1⟩;have hw1':=hw1.symm;subst hw1')
  |(go_at_call 75;refine(QA CJ _).mono ?_;rintro e wj ⟨rfl,hbj⟩;have hBj:=QE hba hbj;have z2:=QC (bbox hbj (QA Hbx)) 2;have z4:=QC (bbox hbj (QA Hbx)) 4;simp only[gA,gZ,gS]at z2 z4;have hzl:=QD (bbox hbj (QA Hbx));have t0j:=(hbj.cell (p:=⟨bt,0,none⟩) hbt).trans t0;have hbtj:=Nat.lt_of_lt_of_le hbt hbj.size;have hmk:=QA HMK wj;have hcv:=QA HCV wj;have hbz:=QF wj (.cells (madeCells #[.int .u8 0] K) 5))
  |(go_at_call 74;refine(QA CN _).mono ?_;rintro e w3 ⟨rfl,hw3⟩;have hw3':=hw3.symm;subst hw3'))
 clear CN CJ CT t0 t0j x2 x4 z2 z4 HST HPB HLB c1 c2 c5
 go_loopw [32] (fun c32 wr=>∃k:Nat,k≤K∧c32=.int .i64 k∧wr=wj) (fun c _=>K-(intOf c).toNat)
 case atStart=>exact⟨0,by omega,rfl,rfl⟩
 case round=>
  obtain⟨k,hk,rfl,hwr⟩:=hrel
  have hwr':=hwr.symm
  subst hwr'
  have q1:IntKind.i64.wrap (a+(k:Int))=a+(k:Int):=IntWalk.i64_in _ (by omega)
  have q2:IntKind.i64.wrap ((k:Int)+1)=(k:Int)+1:=IntWalk.i64_in _ (by omega)
  have q3:¬m=0:=by omega
  have q4:(a+(k:Int)).tmod m=(a+(k:Int)) % m:=Int.tmod_eq_emod_of_nonneg (by omega)
  by_cases hlt:k<K
  ·have h1:=QA HKn (k:Int) (by omega) (by omega)
   have d1:((a+(k:Int)) % m != 0)=true:=by simpa using h1
   have d2:((a+(k:Int)).tmod m != 0)=true:=by rw[q4];exact d1
   clear h1 q4
   go_wp2
   go_roundw
   case rel=>exact⟨k+1,by omega,by go_num,trivial⟩
   case measure=>simp[intOf];omega
  ·obtain rfl:k=K:=by omega
   have d1:((a+(k:Int)) % m != 0)=false:=by rw[QA HKz];rfl
   have d2:((a+(k:Int)).tmod m != 0)=false:=by rw[q4];exact d1
   clear q4
   go_wp2
   go_ret
   exact⟨by rw[QA HX];rfl,QE hBj hbz⟩
theorem bytes_jump (base g i:Nat) (org en a:Int) (L:List Rf.Line) (qs:List (Rf.Line×Sl)) (Fs As:List Int) (labs:List (Strd.Bs×Int)) (w:World) (hP:Rf.PrgAt base w g org en L qs Fs As labs) (hi:i<L.length) (hok:Rf.LineOk L[i]) (hLn:L.length≤2^30) (ha:-2^40≤a∧a≤2^40) (p0:Strd.Bs) (ht:L[i].texts=[p0]) (hw:Rf.QN L[i].word=true) (hFl:i<Fs.length) (hF:Fs.getD i 0=1∨Fs.getD i 0=2∨Fs.getD i 0=3) (hto:-2^40≤Rf.toN labs p0∧Rf.toN labs p0≤2^40) (hln:labs.length≤2^40) :
  Calls Tryz.prog 79 #[.pointer (some ⟨g,0,none⟩),.int .i64 (i:Int),.int .i64 a] w fun e w'=>e=.returned (.string (bstr (Rf.bytes labs L[i] (Fs.getD i 0) a)))∧Below w.heap.size w w':=by
 obtain⟨⟨pl,cl,pf,cf,pa,ca,pb,cb,hbx,hLs,hFs,hAs,hLb⟩,hgb⟩:=hP
 obtain⟨bl,q,rfl,_,hbl,y0,y1,y2,y3,y4,hT⟩:=hLs.at i hi
 have c1:=QC hbx 1
 have c2:=QC hbx 2
 have c5:=QC hbx 5
 simp only[gA,gZ,gS]at c1 c2 c5
 have hgl:=QD hbx
 have hiI:(i:Int)<(L.length:Int):=by omega
 obtain⟨pq,nq,cq⟩:=q
 obtain⟨hnq,hST⟩:=hT
 simp only at y4 hnq hST
 have hwf:=hok.wf
 generalize L[i]=l at *
 subst hnq
 have hlw:=hwf.lens.2.1
 have hba:Below w.heap.size w (w.alloc (.cells #[.int .i64 l.no,.string (bstr l.label),.string (bstr l.word),.int .i64 l.form,.slice pq l.texts.length cq] 144)):=QF _ _
 have Hbx:=QB (QH w (.cells #[.int .i64 l.no,.string (bstr l.label),.string (bstr l.word),.int .i64 l.form,.slice pq l.texts.length cq] 144))
 have HST:=QB (ZR.below hST hba)
 have HPB:=QB (bbox hba hbx)
 have HLB:=QB (hLb.below hba)
 have x2:=QC (QA Hbx) 2
 have x4:=QC (QA Hbx) 4
 simp only[gA,gZ,gS]at x2 x4
 have hxl:=QD (QA Hbx)
 have CT:=QB (fun V=>two_r l.word V)
 have CJ:=QB (fun V=>isJump_ref l.word V (by omega))
 have hn1:l.texts.length=1:=by rw[ht];rfl
 obtain⟨bt,rfl,_,hbt,t0⟩:=(QA HST).at 0 (by omega)
 have e0:l.texts[0]'(by omega)=p0:=by simp[ht]
 rw[e0]at t0
 have hl0:(0:Int)<(l.texts.length:Int):=by omega
 have hp0:p0.length≤2^20:=hwf.lens.2.2 p0 (by rw[ht];simp)
 have ta0:Rf.ZI l 0=p0:=by unfold Rf.ZI;rw[ht];rfl
 have hij:Rf.QN l.word=true:=hw
 rw[hij]at CJ
 have hne:∀w∈Strd.jumpWords++Strd.farWords.map (·.1),w≠[110,111,112]∧w≠[114,116,115]∧Rf.two w=0∧w≠[109,111,118,101,113]∧w≠[97,100,100,105]:=by decide +kernel
 obtain⟨n1,n2,n3,n4,n5⟩:=hne _ (List.mem_append.2 ((Rf.isJump_mem _).1 hij))
 rw[n3]at CT
 have b1:(l.word==[110,111,112])=false:=by rw[list_beq];simp[n1]
 have b2:(l.word==[114,116,115])=false:=by rw[list_beq];simp[n2]
 have b3:(l.word==[109,111,118,101,113])=false:=by rw[list_beq];simp[n4]
 have b4:(l.word==[97,100,100,105])=false:=by rw[list_beq];simp[n5]
 have hX:Rf.bytes labs l (Fs.getD i 0) a=Rf.jumpB l.word (Fs.getD i 0) a (Rf.toN labs p0):=by
  unfold Rf.bytes
  rw[if_neg n1,if_neg n2,n3,if_neg (by decide),if_neg n4,if_neg n5,if_pos hij,ta0]
 obtain⟨bf,hpf,_,hbf,hcf⟩:=hFs.at i hFl
 cases hpf
 have hfg:Fs.getD i 0=Fs[i]:=by rw[gD,gE hFl];rfl
 rw[←hfg]at hcf
 have hFI:(i:Int)<(Fs.length:Int):=by omega
 unfold Rf.toN at hX hto
 have C77:=QB (fun V h1 h2 h3=>to_ref labs p0 g base pb cb V h1 h2 h3 (by omega) hln)
 generalize hPL:(Rf.place labs p0).getD 0=TO at *
 have CJP:=QB (fun V=>jump_ref l.word (Fs.getD i 0) a TO V (by omega) ha hto hF)
 generalize Rf.jumpB l.word (Fs.getD i 0) a TO=JB at *
 generalize Fs.getD i 0=FF at *
 clear e0 ta0 hn1 ht hne n1 n2 n4 n5 hfg hPL
 have HX:=QB hX
 generalize Rf.bytes labs l (Fs.getD i 0) a=X at *
 clear hX hwf hLs hFs hAs hLb hbx hST hok
 go_enter Tryz.func79,Tryz.ntmps79
 go_upto_region 2 with fail
 clear y0 y1 y2 y3 y4
 generalize w.alloc (.cells #[.int .i64 l.no,.string (bstr l.label),.string (bstr l.word),.int .i64 l.form,.slice (some ⟨bt,0,none⟩) l.texts.length cq] 144)=W at *
 go_upto_region 22 with (first
  |(go_at_call 113;refine(QA CT _).mono ?_;rintro e w1 ⟨rfl,hw1⟩;have hw1':=hw1.symm;subst hw1')
  |(go_at_call 75;refine(QA CJ _).mono ?_;rintro e wj ⟨rfl,hbj⟩;have hBj:=QE hba hbj;have z2:=QC (bbox hbj (QA Hbx)) 2;have z4:=QC (bbox hbj (QA Hbx)) 4;simp only[gA,gZ,gS]at z2 z4;have hzl:=QD (bbox hbj (QA Hbx));have t0j:=(hbj.cell (p:=⟨bt,0,none⟩) hbt).trans t0;have hbtj:=Nat.lt_of_lt_of_le hbt hbj.size;have hBX:=QE hba hbj;have g1j:=bbox hbj (QA HPB);have g2j:=QC g1j 2;have g5j:=QC g1j 5;simp only[gA,gZ,gS]at g2j g5j;have hgj:=QD g1j;have hLj:=(QA HLB).below hbj;have cfj:=(hBX.cell (p:=⟨bf,i,none⟩) hbf).trans hcf;have hbfj:=Nat.lt_of_lt_of_le hbf hBX.size))
 go_upto_region 24 with (go_at_call 77;refine(QA C77 wj g5j hgj hLj).mono ?_;rintro e w3 ⟨rfl,hw3⟩;have hw3':=hw3.symm;subst hw3')
 have d2:=cell_regrown z2
 have k2:=cell_regrown g2j
 have kf:=cell_regrown cfj
 have cJ:∀d os,Calls Tryz.prog 117 #[.string (bstr l.word),.int .i64 FF,.int .i64 a,.int .i64 TO] (grow (redrawn wj d) os) fun e w''=>e=.returned (.string (bstr JB))∧∃p:Regrown,w''=grow (redrawn wj p.d) p.os:=fun d os=>Calls.regrown_of (QA CJP _)
 refine wp_region_quiet_below (by kernel_rfl) (by kernel_rfl) ?_
 repeat (go_big_quiet_step (first|exact cJ _ _))
 refine wpQuiet_nil ?_
 intro _ hw'
 obtain⟨⟨dq,osq⟩,hw''⟩:=hw'
 subst hw''
 go_wp2
 go_ret
 exact⟨by rw[QA HX];rfl,QE hBj (below_regrown wj dq osq)⟩
namespace Rf
def dcTo (w:Strd.Bs) (labs:List (Strd.Bs×Int)) (T:List Strd.Bs) (k:Nat):Strd.Bs:=((T.take k).map fun t=>dcB w (toN labs t)).flatten
theorem dcTo_succ (w:Strd.Bs) (labs:List (Strd.Bs×Int)) (T:List Strd.Bs) (k:Nat) (h:k<T.length):dcTo w labs T (k+1)=dcTo w labs T k++dcB w (toN labs T[k]):=by
 unfold dcTo
 rw[List.take_add_one,gE h,Option.toList_some,List.map_append,List.flatten_append]
 simp only[List.map_cons,List.map_nil,List.flatten_cons,List.flatten_nil,List.append_nil]
theorem dcB_len (w:Strd.Bs) (v:Int):(dcB w v).length≤2:=by
 unfold dcB
 split
 ·exact Nat.le_refl _
 ·simp
theorem dcTo_len (w:Strd.Bs) (labs:List (Strd.Bs×Int)) (T:List Strd.Bs):∀k,k≤T.length→(dcTo w labs T k).length≤2*k
 |0,_=>by simp[dcTo]
 |k+1,h=>by
  have ih:=dcTo_len w labs T k (by omega)
  have:=dcB_len w (toN labs T[k])
  rw[dcTo_succ w labs T k (by omega),List.length_append]
  omega
theorem one_fresh (w:World) (x:Int):Q1 0 (w.alloc (.cells #[.int .u8 (x % 256)] 5)) (.slice (some ⟨w.heap.size,0,none⟩) 1 1) [Strd.byteB x]:=
 bytes_fresh w [Strd.byteB x] #[.int .u8 (x % 256)] (by simp[byteB_enc]) (by simp)
end Rf
theorem bytes_dcw (base g i:Nat) (org en a:Int) (L:List Rf.Line) (qs:List (Rf.Line×Sl)) (Fs As:List Int) (labs:List (Strd.Bs×Int)) (w:World) (hP:Rf.PrgAt base w g org en L qs Fs As labs) (hi:i<L.length) (hok:Rf.LineOk L[i]) (hLn:L.length≤2^30) (F:Int) (hln:labs.length≤2^40) (hn8:L[i].texts.length≤8) (hw:L[i].word=[100,99,46,119]) :
  Calls Tryz.prog 79 #[.pointer (some ⟨g,0,none⟩),.int .i64 (i:Int),.int .i64 a] w fun e w'=>e=.returned (.string (bstr (Rf.bytes labs L[i] F a)))∧Below w.heap.size w w':=by
 obtain⟨⟨pl,cl,pf,cf,pa,ca,pb,cb,hbx,hLs,hFs,hAs,hLb⟩,hgb⟩:=hP
 obtain⟨bl,q,rfl,_,hbl,y0,y1,y2,y3,y4,hT⟩:=hLs.at i hi
 have c1:=QC hbx 1
 have c2:=QC hbx 2
 have c5:=QC hbx 5
 simp only[gA,gZ,gS]at c1 c2 c5
 have hgl:=QD hbx
 have hiI:(i:Int)<(L.length:Int):=by omega
 obtain⟨pq,nq,cq⟩:=q
 obtain⟨hnq,hST⟩:=hT
 simp only at y4 hnq hST
 have hwf:=hok.wf
 generalize L[i]=l at *
 subst hnq
 have hlw:=hwf.lens.2.1
 have hba:Below w.heap.size w (w.alloc (.cells #[.int .i64 l.no,.string (bstr l.label),.string (bstr l.word),.int .i64 l.form,.slice pq l.texts.length cq] 144)):=QF _ _
 have Hbx:=QB (QH w (.cells #[.int .i64 l.no,.string (bstr l.label),.string (bstr l.word),.int .i64 l.form,.slice pq l.texts.length cq] 144))
 have HST:=QB (ZR.below hST hba)
 have HPB:=QB (bbox hba hbx)
 have HLB:=QB (hLb.below hba)
 have x2:=QC (QA Hbx) 2
 have x4:=QC (QA Hbx) 4
 simp only[gA,gZ,gS]at x2 x4
 have hxl:=QD (QA Hbx)
 have CT:=QB (fun V=>two_r l.word V)
 have CJ:=QB (fun V=>isJump_ref l.word V (by omega))
 have Htw:Rf.two l.word=0:=by rw[hw];rfl
 have Hij:Rf.QN l.word=false:=by rw[hw];decide +kernel
 rw[Hij]at CJ
 rw[Htw]at CT
 have hX:Rf.bytes labs l F a=Rf.dcTo [100,99,46,119] labs l.texts l.texts.length:=by
  unfold Rf.bytes Rf.dcTo
  rw[hw,List.take_length]
  rfl
 have hTl:=hwf.lens.2.2
 rw[hw]at *
 have Hsu:=QB (Rf.dcTo_succ [100,99,46,119] labs l.texts)
 have Hle:=QB (Rf.dcTo_len [100,99,46,119] labs l.texts)
 have HTl:=QB hTl
 clear hw hTl
 have HX:=QB hX
 generalize Rf.bytes labs l F a=X at *
 clear hX hwf hLs hFs hAs hLb hbx hST hok
 go_enter Tryz.func79,Tryz.ntmps79
 go_upto_region 2 with fail
 clear y0 y1 y2 y3 y4
 generalize w.alloc (.cells #[.int .i64 l.no,.string (bstr l.label),.string (bstr l.word),.int .i64 l.form,.slice pq l.texts.length cq] 144)=W at *
 go_upto_region 26 with (first
  |(go_at_call 113;refine(QA CT _).mono ?_;rintro e w1 ⟨rfl,hw1⟩;have hw1':=hw1.symm;subst hw1')
  |(go_at_call 75;refine(QA CJ _).mono ?_;rintro e wj ⟨rfl,hbj⟩;have hBj:=QE hba hbj;have z2:=QC (bbox hbj (QA Hbx)) 2;have z4:=QC (bbox hbj (QA Hbx)) 4;simp only[gA,gZ,gS]at z2 z4;have hzl:=QD (bbox hbj (QA Hbx));have HSj:=QB ((QA HST).below hbj)))
 have hBX:=QE hba hbj
 have g1j:=bbox hbj (QA HPB)
 have hLj:=(QA HLB).below hbj
 have HSj2:=HSj
 clear CT CJ x2 x4 c1 c2 c5 HST HPB HLB
 generalize hTT:l.texts=T at *
 go_wp2
 go_loopw [24,25] (fun c24 c25 wr=>∃k:Nat,k≤T.length∧c25=.int .i64 k∧c24=.string (bstr (Rf.dcTo [100,99,46,119] labs T k))∧Below wj.heap.size wj wr) (fun _ c _=>T.length-(intOf c).toNat)
 case atStart=>exact⟨0,by omega,rfl,rfl,Below.refl _ _⟩
 case round=>
  obtain⟨k,hk,rfl,rfl,hbr⟩:=hrel
  have v2:=(hbr.cell (p:=⟨w.heap.size,2,none⟩) hzl).trans z2
  have v4:=(hbr.cell (p:=⟨w.heap.size,4,none⟩) hzl).trans z4
  have hvl:=Nat.lt_of_lt_of_le hzl hbr.size
  by_cases hlt:k<T.length
  ·obtain⟨bt,rfl,_,hbt,t0⟩:=(QA HSj).at k hlt
   have t1:=(hbr.cell (p:=⟨bt,k,none⟩) hbt).trans t0
   have hbt1:=Nat.lt_of_lt_of_le hbt hbr.size
   have htl:=QA HTl T[k] (List.getElem_mem hlt)
   have g5:=QC (bbox hbr g1j) 5
   simp only[gA,gZ,gS]at g5
   have hg5:=QD (bbox hbr g1j)
   have C77:=QB (to_ref labs T[k] g base pb cb wr g5 hg5 (hLj.below hbr) (by omega) hln)
   have hsu:=QA Hsu k hlt
   have hle:=QA Hle k hk
   unfold Rf.toN at hsu
   generalize (Rf.place labs T[k]).getD 0=v at *
   generalize hPS:(Rf.place labs T[k]).isSome=ps at *
   generalize T[k]=tx at *
   have hltI:(k:Int)<(T.length:Int):=by omega
   have q1:IntKind.i64.wrap ((k:Int)+1)=(k:Int)+1:=IntWalk.i64_in _ (by omega)
   have hdb:Rf.dcB [100,99,46,119] v=Strd.QI v:=rfl
   rw[hdb]at hsu
   have l2:(Strd.QI v).length=2:=rfl
   have CW:=QB (fun V=>word_r v V)
   have Hsu2:=QB hsu
   generalize Rf.dcTo [100,99,46,119] labs T k=AA at *
   generalize Strd.QI v=BB at *
   have s1:¬9223372036854775807<List.length AA+List.length BB:=by omega
   clear hsu hdb
   go_wp2_with (first
    |(go_at_call 77;refine(QA C77).mono ?_;rintro e w3 ⟨rfl,hw3⟩;have hw3':=hw3.symm;subst hw3')
    |(go_at_call 116;refine(QA CW _).mono ?_;rintro e w2 ⟨rfl,hb2⟩))
   go_roundw
   case rel=>exact⟨k+1,by omega,by go_num,by rw[QA Hsu2];exact congrArg Value.string (QZ (by simp)),QE hbr hb2⟩
   case measure=>simp[intOf];omega
  ·obtain rfl:k=T.length:=by omega
   go_wp2
   go_ret
   exact⟨by rw[QA HX];rfl,QE hBj hbr⟩
theorem bytes_dcb (base g i:Nat) (org en a:Int) (L:List Rf.Line) (qs:List (Rf.Line×Sl)) (Fs As:List Int) (labs:List (Strd.Bs×Int)) (w:World) (hP:Rf.PrgAt base w g org en L qs Fs As labs) (hi:i<L.length) (hok:Rf.LineOk L[i]) (hLn:L.length≤2^30) (F:Int) (hln:labs.length≤2^40) (hn8:L[i].texts.length≤8) (hw:L[i].word=[100,99,46,98]) :
  Calls Tryz.prog 79 #[.pointer (some ⟨g,0,none⟩),.int .i64 (i:Int),.int .i64 a] w fun e w'=>e=.returned (.string (bstr (Rf.bytes labs L[i] F a)))∧Below w.heap.size w w':=by
 obtain⟨⟨pl,cl,pf,cf,pa,ca,pb,cb,hbx,hLs,hFs,hAs,hLb⟩,hgb⟩:=hP
 obtain⟨bl,q,rfl,_,hbl,y0,y1,y2,y3,y4,hT⟩:=hLs.at i hi
 have c1:=QC hbx 1
 have c2:=QC hbx 2
 have c5:=QC hbx 5
 simp only[gA,gZ,gS]at c1 c2 c5
 have hgl:=QD hbx
 have hiI:(i:Int)<(L.length:Int):=by omega
 obtain⟨pq,nq,cq⟩:=q
 obtain⟨hnq,hST⟩:=hT
 simp only at y4 hnq hST
 have hwf:=hok.wf
 generalize L[i]=l at *
 subst hnq
 have hlw:=hwf.lens.2.1
 have hba:Below w.heap.size w (w.alloc (.cells #[.int .i64 l.no,.string (bstr l.label),.string (bstr l.word),.int .i64 l.form,.slice pq l.texts.length cq] 144)):=QF _ _
 have Hbx:=QB (QH w (.cells #[.int .i64 l.no,.string (bstr l.label),.string (bstr l.word),.int .i64 l.form,.slice pq l.texts.length cq] 144))
 have HST:=QB (ZR.below hST hba)
 have HPB:=QB (bbox hba hbx)
 have HLB:=QB (hLb.below hba)
 have x2:=QC (QA Hbx) 2
 have x4:=QC (QA Hbx) 4
 simp only[gA,gZ,gS]at x2 x4
 have hxl:=QD (QA Hbx)
 have CT:=QB (fun V=>two_r l.word V)
 have CJ:=QB (fun V=>isJump_ref l.word V (by omega))
 have Htw:Rf.two l.word=0:=by rw[hw];rfl
 have Hij:Rf.QN l.word=false:=by rw[hw];decide +kernel
 rw[Hij]at CJ
 rw[Htw]at CT
 have hX:Rf.bytes labs l F a=Rf.dcTo [100,99,46,98] labs l.texts l.texts.length:=by
  unfold Rf.bytes Rf.dcTo
  rw[hw,List.take_length]
  rfl
 have hTl:=hwf.lens.2.2
 rw[hw]at *
 have Hsu:=QB (Rf.dcTo_succ [100,99,46,98] labs l.texts)
 have Hle:=QB (Rf.dcTo_len [100,99,46,98] labs l.texts)
 have HTl:=QB hTl
 clear hw hTl
 have HX:=QB hX
 generalize Rf.bytes labs l F a=X at *
 clear hX hwf hLs hFs hAs hLb hbx hST hok
 go_enter Tryz.func79,Tryz.ntmps79
 go_upto_region 2 with fail
 clear y0 y1 y2 y3 y4
 generalize w.alloc (.cells #[.int .i64 l.no,.string (bstr l.label),.string (bstr l.word),.int .i64 l.form,.slice pq l.texts.length cq] 144)=W at *
 go_upto_region 26 with (first
  |(go_at_call 113;refine(QA CT _).mono ?_;rintro e w1 ⟨rfl,hw1⟩;have hw1':=hw1.symm;subst hw1')
  |(go_at_call 75;refine(QA CJ _).mono ?_;rintro e wj ⟨rfl,hbj⟩;have hBj:=QE hba hbj;have z2:=QC (bbox hbj (QA Hbx)) 2;have z4:=QC (bbox hbj (QA Hbx)) 4;simp only[gA,gZ,gS]at z2 z4;have hzl:=QD (bbox hbj (QA Hbx));have HSj:=QB ((QA HST).below hbj)))
 have hBX:=QE hba hbj
 have g1j:=bbox hbj (QA HPB)
 have hLj:=(QA HLB).below hbj
 have HSj2:=HSj
 clear CT CJ x2 x4 c1 c2 c5 HST HPB HLB
 generalize hTT:l.texts=T at *
 go_wp2
 go_loopw [24,25] (fun c24 c25 wr=>∃k:Nat,k≤T.length∧c25=.int .i64 k∧c24=.string (bstr (Rf.dcTo [100,99,46,98] labs T k))∧Below wj.heap.size wj wr) (fun _ c _=>T.length-(intOf c).toNat)
 case atStart=>exact⟨0,by omega,rfl,rfl,Below.refl _ _⟩
 case round=>
  obtain⟨k,hk,rfl,rfl,hbr⟩:=hrel
  have v2:=(hbr.cell (p:=⟨w.heap.size,2,none⟩) hzl).trans z2
  have v4:=(hbr.cell (p:=⟨w.heap.size,4,none⟩) hzl).trans z4
  have hvl:=Nat.lt_of_lt_of_le hzl hbr.size
  by_cases hlt:k<T.length
  ·obtain⟨bt,rfl,_,hbt,t0⟩:=(QA HSj).at k hlt
   have t1:=(hbr.cell (p:=⟨bt,k,none⟩) hbt).trans t0
   have hbt1:=Nat.lt_of_lt_of_le hbt hbr.size
   have htl:=QA HTl T[k] (List.getElem_mem hlt)
   have g5:=QC (bbox hbr g1j) 5
   simp only[gA,gZ,gS]at g5
   have hg5:=QD (bbox hbr g1j)
   have C77:=QB (to_ref labs T[k] g base pb cb wr g5 hg5 (hLj.below hbr) (by omega) hln)
   have hsu:=QA Hsu k hlt
   have hle:=QA Hle k hk
   unfold Rf.toN at hsu
   generalize (Rf.place labs T[k]).getD 0=v at *
   generalize hPS:(Rf.place labs T[k]).isSome=ps at *
   generalize T[k]=tx at *
   have hltI:(k:Int)<(T.length:Int):=by omega
   have q1:IntKind.i64.wrap ((k:Int)+1)=(k:Int)+1:=IntWalk.i64_in _ (by omega)
   have hdb:Rf.dcB [100,99,46,98] v=[Strd.byteB v]:=rfl
   rw[hdb]at hsu
   have hcv:=Rf.conv88 (Rf.one_fresh wr v)
   have hbz:=QF wr (.cells #[.int .u8 (v % 256)] 5)
   have Hsu2:=QB hsu
   generalize Rf.dcTo [100,99,46,98] labs T k=AA at *
   have s1:¬9223372036854775807<List.length AA+1:=by omega
   clear hsu hdb
   go_wp2_with (first
    |(go_at_call 77;refine(QA C77).mono ?_;rintro e w3 ⟨rfl,hw3⟩;have hw3':=hw3.symm;subst hw3'))
   go_roundw
   case rel=>exact⟨k+1,by omega,by go_num,by rw[QA Hsu2];exact congrArg Value.string (QZ (by simp)),QE hbr hbz⟩
   case measure=>simp[intOf];omega
  ·obtain rfl:k=T.length:=by omega
   go_wp2
   go_ret
   exact⟨by rw[QA HX];rfl,QE hBj hbr⟩
theorem bytes_ref (base g i:Nat) (org en a:Int) (L:List Rf.Line) (qs:List (Rf.Line×Sl)) (Fs As:List Int) (labs:List (Strd.Bs×Int)) (w:World) (hP:Rf.PrgAt base w g org en L qs Fs As labs) (hi:i<L.length) (hok:Rf.LineOk L[i]) (hLn:L.length≤2^30)
  (ha:0≤a∧a≤2^40) (hln:labs.length≤2^40) (hFl:i<Fs.length) (hF:Rf.QN L[i].word=true→Fs.getD i 0=1∨Fs.getD i 0=2∨Fs.getD i 0=3) (hto:∀t∈L[i].texts,-2^40≤Rf.toN labs t∧Rf.toN labs t≤2^40) :
  Calls Tryz.prog 79 #[.pointer (some ⟨g,0,none⟩),.int .i64 (i:Int),.int .i64 a] w fun e w'=>e=.returned (.string (bstr (Rf.bytes labs L[i] (Fs.getD i 0) a)))∧Below w.heap.size w w':=by
 rcases hok.wf.shaped with ⟨h1,h2⟩|⟨h1,h2⟩|⟨h1,p,q,m,n,ht,hm,hn⟩|⟨h1,p,q,m,n,ht,hm,hn⟩|⟨h1,p,ht,hp⟩|⟨h1,h2,h3,h4⟩|⟨h1,p,n,ht,hn⟩
 ·exact bytes_empty base g i org en a L qs Fs As labs w hP hi hok hLn _ h1
 ·rcases h1 with e|e
  ·exact bytes_nop base g i org en a L qs Fs As labs w hP hi hok hLn _ e
  ·exact bytes_rts base g i org en a L qs Fs As labs w hP hi hok hLn _ e
 ·exact bytes_two base g i org en a L qs Fs As labs w hP hi hok hLn _ p q m n ht hm hn ((Rf.two_of _).1 h1)
 ·rcases h1 with e|e
  ·exact bytes_quick base g i org en a L qs Fs As labs w hP hi hok hLn _ p q m n ht hm hn e
  ·by_cases hc:1≤m∧m≤8
   ·exact bytes_addi_short base g i org en a L qs Fs As labs w hP hi hok hLn _ p q m n ht hm hn e hc
   ·exact bytes_addi_plain base g i org en a L qs Fs As labs w hP hi hok hLn _ p q m n ht hm hn e hc
 ·have hj:=(Rf.isJump_mem _).2 h1
  exact bytes_jump base g i org en a L qs Fs As labs w hP hi hok hLn ⟨by omega,by omega⟩ p ht hj hFl (hF hj) (hto p (by rw[ht];simp)) hln
 ·rcases Rf.dc_cases h1 with e|e
  ·exact bytes_dcw base g i org en a L qs Fs As labs w hP hi hok hLn _ hln h3 e
  ·exact bytes_dcb base g i org en a L qs Fs As labs w hP hi hok hLn _ hln h3 e
 ·rcases h1 with e|e|e
  ·exact bytes_ds base g i org en a L qs Fs As labs w hP hi hok hLn _ p n ht hn e
  ·exact bytes_align base g i org en a L qs Fs As labs w hP hi hok hLn _ ha p n ht hn e
  ·exact bytes_org base g i org en a L qs Fs As labs w hP hi hok hLn _ e
end Go.Proofs.YtegiloiojloaoaaGreatDoor
