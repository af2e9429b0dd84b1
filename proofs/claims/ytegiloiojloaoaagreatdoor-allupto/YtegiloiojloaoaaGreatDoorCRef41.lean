/- The reference's alone. -/
import Derived.Test.YtegiloiojloaoaaGreatDoorCSpec
import Derived.Test.YtegiloiojloaoaaGreatDoorCRef14
import Derived.Test.YtegiloiojloaoaaGreatDoorCRef15
import Derived.Test.YtegiloiojloaoaaGreatDoorCRef19
import Derived.Test.YtegiloiojloaoaaGreatDoorCRfW
import Derived.Test.YtegiloiojloaoaaGreatDoorCRf0
import Derived.Test.YtegiloiojloaoaaGreatDoorCOprs
import Derived.Test.YtegiloiojloaoaaGreatDoorCRfT
import Derived.Test.YtegiloiojloaoaaGreatDoorCRef11
set_option linter.unusedVariables false
set_option linter.unusedSimpArgs false
set_option maxHeartbeats 4000000
set_option maxRecDepth 1000000
namespace Go.Proofs.YtegiloiojloaoaaGreatDoor
open Go.RowKit Go.Shelf Go.Sort Go.Maps
namespace Rf
theorem texts8' (l:Line) (hl:WfL l):l.texts.length≤8:=by
 rcases hl.shaped with ⟨h1,h2⟩|⟨h1,h2⟩|⟨h1,p,q,m,n,ht,_⟩|⟨h1,p,q,m,n,ht,_⟩|⟨h1,p,ht,ha⟩|⟨h1,h2,h3,h4⟩|⟨h1,p,n,ht,ha⟩
 ·rw[h2];simp
 ·rw[h2];simp
 ·rw[ht];simp
 ·rw[ht];simp
 ·rw[ht];simp
 ·exact h3
 ·rw[ht];simp
theorem row_one {w:World} {b base size:Nat} {e:TypeId} {cs:Array Value} (h:w.heap[b]? = some (.cells cs e (0,0))) (hb:base≤b) (hs:cs.size=size):w.ownsRow base e size (.slice (some ⟨b,0,none⟩) 1 1) 1 cs.toList:=by
 refine⟨by simp[hs],.inr ⟨b,1,cs,rfl,hb,h,Nat.le_refl _,by unfold maxLen;omega,by simp[hs],?_⟩⟩
 rw[Nat.one_mul,←hs,←Array.length_toList,List.take_length]
theorem prg_one (w:World) (l:Line) (p:Option Addr) (n c:Nat) (h:LineAt w p n c l) :
  PrgAt 0 (((w.alloc (.cells #[.int .i64 l.no,.string (bstr l.label),.string (bstr l.word),.int .i64 l.form,.slice p n c] 144)).alloc (.cells #[.int .i64 l.form] 3)).alloc (.cells #[.int .i64 0,.slice (some ⟨w.heap.size,0,none⟩) 1 1,.slice (some ⟨w.heap.size+1,0,none⟩) 1 1,.slice none 0 0,.int .i64 0,.slice none 0 0] 108)) (w.heap.size+1+1) 0 0 [l] [(l,(p,n,c))] [l.form] [] []
  ∧ Below w.heap.size w (((w.alloc (.cells #[.int .i64 l.no,.string (bstr l.label),.string (bstr l.word),.int .i64 l.form,.slice p n c] 144)).alloc (.cells #[.int .i64 l.form] 3)).alloc (.cells #[.int .i64 0,.slice (some ⟨w.heap.size,0,none⟩) 1 1,.slice (some ⟨w.heap.size+1,0,none⟩) 1 1,.slice none 0 0,.int .i64 0,.slice none 0 0] 108)):=by
 have b1:=QF w (.cells #[.int .i64 l.no,.string (bstr l.label),.string (bstr l.word),.int .i64 l.form,.slice p n c] 144)
 have n1:=QH w (.cells #[.int .i64 l.no,.string (bstr l.label),.string (bstr l.word),.int .i64 l.form,.slice p n c] 144)
 have s1:(w.alloc (.cells #[.int .i64 l.no,.string (bstr l.label),.string (bstr l.word),.int .i64 l.form,.slice p n c] 144)).heap.size=w.heap.size+1:=World.size_alloc _ _
 generalize w.alloc (.cells #[.int .i64 l.no,.string (bstr l.label),.string (bstr l.word),.int .i64 l.form,.slice p n c] 144)=w1 at *
 have b2:=QF w1 (.cells #[.int .i64 l.form] 3)
 have n2:=QH w1 (.cells #[.int .i64 l.form] 3)
 have s2:(w1.alloc (.cells #[.int .i64 l.form] 3)).heap.size=w1.heap.size+1:=World.size_alloc _ _
 generalize w1.alloc (.cells #[.int .i64 l.form] 3)=w2 at *
 rw[s1]at n2 s2
 have b3:=QF w2 (.cells #[.int .i64 0,.slice (some ⟨w.heap.size,0,none⟩) 1 1,.slice (some ⟨w.heap.size+1,0,none⟩) 1 1,.slice none 0 0,.int .i64 0,.slice none 0 0] 108)
 have n3:=QH w2 (.cells #[.int .i64 0,.slice (some ⟨w.heap.size,0,none⟩) 1 1,.slice (some ⟨w.heap.size+1,0,none⟩) 1 1,.slice none 0 0,.int .i64 0,.slice none 0 0] 108)
 generalize w2.alloc (.cells #[.int .i64 0,.slice (some ⟨w.heap.size,0,none⟩) 1 1,.slice (some ⟨w.heap.size+1,0,none⟩) 1 1,.slice none 0 0,.int .i64 0,.slice none 0 0] 108)=w3 at *
 rw[s2]at n3
 have m2:=bbox b3 n2
 have m1:=bbox b3 (bbox b2 n1)
 have hB:=QE (QE b1 b2) b3
 refine⟨⟨⟨_,_,_,_,_,_,_,_,n3,⟨rfl,?_,?_⟩,?_,World.ownsRow_nil _ _ _ _,World.ownsRow_nil _ _ _ _⟩,Nat.zero_le _⟩,hB⟩
 ·exact row_one m1 (Nat.zero_le _) rfl
 ·intro x hx
  rw[List.mem_singleton]at hx
  subst hx
  exact h.below hB
 ·exact row_one m2 (Nat.zero_le _) rfl
theorem number_rng' (t:Strd.Bs):-2^40≤(Strd.number t).getD 0∧(Strd.number t).getD 0≤2^40:=by
 cases hn:Strd.number t with
 |none=>simp
 |some v=>
  have:=number_rng t v hn
  simp only[Option.getD_some]
  omega
theorem isJump_text (l:Line) (h:WfL l) (hj:QN l.word=true):1≤l.texts.length:=by
 rcases h.shaped with ⟨h1,h2⟩|⟨h1,h2⟩|⟨h1,p,q,m,n,ht,hm,hn⟩|⟨h1,p,q,m,n,ht,hm,hn⟩|⟨h1,p,ht,hp⟩|⟨h1,h2,h3,h4⟩|⟨h1,p,n,ht,hn⟩
 ·rw[h1]at hj;exact absurd hj (by decide)
 ·rcases h1 with e|e <;> rw[e]at hj <;> exact absurd hj (by decide)
 ·rw[ht];simp
 ·rw[ht];simp
 ·rw[ht];simp
 ·exact h2
 ·rw[ht];simp
end Rf
theorem alone_ref (t:Strd.Bs) (a:Int) (w:World) (hl:t.length≤2^20) (ha:0≤a∧a≤2^40) (hF:Rf.Formed t) :
  Calls Tryz.prog 56 #[.string (bstr t),.int .i64 a] w fun e w'=>e=.returned (.tuple #[.string (bstr ((Rf.aloneB t a).getD [])),.bool (Rf.aloneB t a).isSome])∧Below w.heap.size w w':=by
 have C72:Hid (Calls Tryz.prog 72 #[.string (bstr t),.int .i64 1] w fun e w'=>∃(l':Rf.Line) (p:Option Addr) (n c:Nat),e=.returned (.tuple #[.agg #[.int .i64 l'.no,.string (bstr l'.label),.string (bstr l'.word),.int .i64 l'.form,.slice p n c],.bool (Rf.read t 1).isSome])∧(∀l,Rf.read t 1=some l→l'=l∧Rf.LineAt w' p n c l)∧Below w.heap.size w w'):=QB (Read_ref t 1 w hl)
 generalize hX:Rf.aloneB t a=X
 unfold Rf.aloneB at hX
 cases hrd:Rf.read t 1 with
 |none=>
  rw[hrd]at C72 hX
  simp only at hX
  subst hX
  clear hrd hF
  go_enter Tryz.func56,Tryz.ntmps56
  go_upto_region 2 with (go_at_call 72;refine(QA C72).mono ?_;rintro e w1 ⟨l',p,n,c,rfl,_,hb1⟩;have hba:=QE hb1 (QF w1 (.cells #[.int .i64 l'.no,.string (bstr l'.label),.string (bstr l'.word),.int .i64 l'.form,.slice p n c] 144)))
  generalize w1.alloc (.cells #[.int .i64 l'.no,.string (bstr l'.label),.string (bstr l'.word),.int .i64 l'.form,.slice p n c] 144)=W1 at *
  go_wp2
  refine bodyPost_ret (v:=.tuple #[.string ⟨#[]⟩,.bool false]) (by simp[results,Tryz.results56]) rfl ?_
  exact⟨rfl,hba⟩
 |some l=>
  have hwf:=Rf.read_wf t 1 l hrd hl
  have hfo:=hF l hrd
  rw[hrd]at C72 hX
  simp only at hX
  have ht8:=Rf.texts8' l hwf.1
  have hlw:=hwf.1.lens.2.1
  have hfr:=hwf.1.form
  have C73:Hid (∀V p n c,Rf.LineAt V p n c l→Calls Tryz.prog 73 #[.agg #[.int .i64 l.no,.string (bstr l.label),.string (bstr l.word),.int .i64 l.form,.slice p n c]] V fun e w'=>e=.returned (.bool (Rf.numbers l))∧Below V.heap.size V w'):=QB (fun V p n c h=>numbers_ref l p n c V h hwf.1 ht8)
  have CJ:=QB (fun V=>isJump_ref l.word V (by omega))
  have HX:=QB hX
  have Hwf:=QB hwf.1
  have Hno:=QB hwf.2
  clear hrd hF hX hwf
  go_enter Tryz.func56,Tryz.ntmps56
  go_upto_region 2 with (go_at_call 72;refine(QA C72).mono ?_;rintro e w1 ⟨l',p,n,c,rfl,hl',hb1⟩;obtain⟨hll,hLA⟩:=hl' l rfl;have hll':=hll.symm;subst hll';clear hll;have hba:=QF w1 (.cells #[.int .i64 l.no,.string (bstr l.label),.string (bstr l.word),.int .i64 l.form,.slice p n c] 144);have HLA:=QB (hLA.below hba);have Hbx:=QB (QH w1 (.cells #[.int .i64 l.no,.string (bstr l.label),.string (bstr l.word),.int .i64 l.form,.slice p n c] 144));clear hLA hl')
  have hB1:=QE hb1 hba
  generalize w1.alloc (.cells #[.int .i64 l.no,.string (bstr l.label),.string (bstr l.word),.int .i64 l.form,.slice p n c] 144)=W1 at *
  generalize w1.heap.size=g6 at *
  clear hb1 hba C72
  go_upto_region 4 with fail
  go_upto_region 5 with (first|(refine wpList_load_row rfl 144 _ rfl g6 rfl 144 _ (0,0) _ (by exact QA Hbx) Tryz.underlying144 rfl (by kernel_rfl) ?_)|(go_at_call 73;refine(QA C73 W1 p n c (QA HLA)).mono ?_;rintro e w5 ⟨rfl,hb5⟩))
  have hB5:=QE hB1 hb5
  have HL5:=QB ((QA HLA).below hb5)
  have Hbx5:=QB (bbox hb5 (QA Hbx))
  clear HLA Hbx hb5 C73 hB1
  cases hnum:Rf.numbers l with
  |false=>
   have hXn:X=none:=by rw[←QA HX,if_pos hnum]
   subst hXn
   go_wp2
   refine bodyPost_ret (v:=.tuple #[.string ⟨#[]⟩,.bool false]) (by simp[results,Tryz.results56]) rfl ?_
   exact⟨rfl,hB5⟩
  |true=>
   have hXs:(if Rf.QN l.word=true∧Rf.fits l.word l.form a ((Strd.number (Rf.ZI l 0)).getD 0)=false then none else some (Rf.bytes [] l l.form a))=X:=by rw[←QA HX,hnum];rw[if_neg (show ¬(true=false) by decide)]
   have HXs:=QB hXs
   clear hXs HX
   have b0:=QC (QA Hbx5) 0
   have b1:=QC (QA Hbx5) 1
   have b2:=QC (QA Hbx5) 2
   have b3:=QC (QA Hbx5) 3
   have b4:=QC (QA Hbx5) 4
   simp only[gA,gZ,gS]at b0 b1 b2 b3 b4
   have hbl:=QD (QA Hbx5)
   obtain⟨hPA,hBA⟩:=Rf.prg_one w5 l p n c (QA HL5)
   have HPA:=QB hPA
   have HBA:=QB hBA
   have Hok:Hid (Rf.LineOk l):=QB ⟨QA Hwf,hnum,by rw[QA Hno];decide⟩
   clear hPA hBA hnum
   go_upto_region 8 with fail
   clear b0 b1 b2 b3 b4
   generalize ((w5.alloc (.cells #[.int .i64 l.no,.string (bstr l.label),.string (bstr l.word),.int .i64 l.form,.slice p n c] 144)).alloc (.cells #[.int .i64 l.form] 3)).alloc (.cells #[.int .i64 0,.slice (some ⟨w5.heap.size,0,none⟩) 1 1,.slice (some ⟨w5.heap.size+1,0,none⟩) 1 1,.slice none 0 0,.int .i64 0,.slice none 0 0] 108)=W8 at *
   generalize w5.heap.size+1+1=gP at *
   have Hbx8:=QB (bbox (QA HBA) (QA Hbx5))
   have HL8:=QB ((QA HL5).below (QA HBA))
   have hB8:=QE hB5 (QA HBA)
   clear Hbx5 HL5 HBA hB5 hbl
   have b2:=QC (QA Hbx8) 2
   simp only[gA,gZ,gS]at b2
   have hbl:=QD (QA Hbx8)
   go_upto_region 9 with (go_at_call 75;refine(QA CJ _).mono ?_;rintro e w9 ⟨rfl,hb9⟩)
   have Hbx9:=QB (bbox hb9 (QA Hbx8))
   have HL9:=QB ((QA HL8).below hb9)
   have HP9:=QB ((QA HPA).below hb9)
   have hB9:=QE hB8 hb9
   clear Hbx8 HL8 HPA hB8 hb9 b2 hbl CJ
   have b2:=QC (QA Hbx9) 2
   have b3:=QC (QA Hbx9) 3
   have b4:=QC (QA Hbx9) 4
   simp only[gA,gZ,gS]at b2 b3 b4
   have hbl:=QD (QA Hbx9)
   have CB:Hid ((Rf.QN l.word=true→l.form=1∨l.form=2∨l.form=3)→Calls Tryz.prog 79 #[.pointer (some ⟨gP,0,none⟩),.int .i64 0,.int .i64 a] w9 fun e w'=>e=.returned (.string (bstr (Rf.bytes [] l l.form a)))∧Below w9.heap.size w9 w'):=
    QB (fun hF=>bytes_ref 0 gP 0 0 0 a [l] _ [l.form] [] [] w9 (QA HP9) (by simp) (QA Hok) (by simp) (by omega) (by decide) (by simp) hF (fun t _=>Rf.toN_rng [] (fun p hp=>by cases hp) t))
   generalize Rf.bytes [] l l.form a=BB at *
   cases hj:Rf.QN l.word with
   |false=>
    have hXb:X=some BB:=by rw[←QA HXs,hj];rw[if_neg (fun h=>absurd h.1 (by decide))]
    subst hXb
    have CB':=QB (QA CB (fun h=>by rw[hj]at h;cases h))
    clear HXs hfo Hok CB
    go_wp2_with (go_at_call 79;refine(QA CB').mono ?_;rintro e wz ⟨rfl,hbz⟩)
    refine bodyPost_ret (v:=.tuple #[.string (bstr BB),.bool true]) (by simp[results,Tryz.results56]) rfl ?_
    exact⟨rfl,QE hB9 hbz⟩
   |true=>
    have hfm:l.form=1∨l.form=2∨l.form=3:=by have:=hfo hj;omega
    have CB':=QB (QA CB (fun _=>hfm))
    have ht1:=Rf.isJump_text l (QA Hwf) hj
    have htl:=(QA Hwf).lens.2.2 (Rf.ZI l 0)
    have hta:Rf.ZI l 0=l.texts[0]'ht1:=by unfold Rf.ZI;rw[gD,gE ht1];rfl
    have htl':=htl (by rw[hta];exact List.getElem_mem _)
    obtain⟨hnl,hST⟩:=QA HL9
    have hnl':=hnl.symm
    obtain⟨bt,hpp,_,hbt,t0⟩:=hST.at 0 ht1
    rw[←hta]at t0
    subst hpp
    have h0n:(0:Int)<(n:Int):=by omega
    have hrg:=Rf.number_rng' (Rf.ZI l 0)
    have hXs:=QA HXs
    rw[hj]at hXs
    clear HXs hfo Hok CB htl hta hST hnl hnl' ht1 HL9 HP9 Hwf Hno hfm ht8 hj
    generalize Rf.ZI l 0=T0 at *
    have CN:=QB (number_ref T0 w9 (by omega))
    generalize (Strd.number T0).getD 0=N0 at *
    have CF:=QB (fits_ref l.word l.form a N0 w9 (by omega) hrg)
    generalize Rf.fits l.word l.form a N0=FT at *
    cases FT with
    |false=>
     rw[if_pos ⟨rfl,rfl⟩]at hXs
     subst hXs
     go_wp2_with (first|(go_at_call 74;refine(QA CN).mono ?_;rintro e wz ⟨rfl,hwz⟩;have hwz':=hwz.symm;subst hwz')|(go_at_call 95;refine(QA CF).mono ?_;rintro e wy ⟨rfl,hwy⟩;have hwy':=hwy.symm;subst hwy'))
     refine bodyPost_ret (v:=.tuple #[.string ⟨#[]⟩,.bool false]) (by simp[results,Tryz.results56]) rfl ?_
     exact⟨rfl,hB9⟩
    |true=>
     rw[if_neg (fun h=>absurd h.2 (by decide))]at hXs
     subst hXs
     go_wp2_with (first|(go_at_call 74;refine(QA CN).mono ?_;rintro e wz ⟨rfl,hwz⟩;have hwz':=hwz.symm;subst hwz')|(go_at_call 95;refine(QA CF).mono ?_;rintro e wy ⟨rfl,hwy⟩;have hwy':=hwy.symm;subst hwy')|(go_at_call 79;refine(QA CB').mono ?_;rintro e wz ⟨rfl,hbz⟩))
     refine bodyPost_ret (v:=.tuple #[.string (bstr BB),.bool true]) (by simp[results,Tryz.results56]) rfl ?_
     exact⟨rfl,QE hB9 hbz⟩
theorem digits_pos (n:Nat) (w:World) (hn:n<2^40) :
  Calls Tryz.prog 54 #[.int .i64 (n:Int)] w fun e w'=>e=.returned (.string (bstr (Strd.dec n)))∧w'=w:=by
 generalize hX:Strd.dec n=X
 unfold Strd.dec at hX
 have HX:=QB hX
 clear hX
 have h10:n % 10<10:=Nat.mod_lt _ (by omega)
 have Hd:=QB (digit_at (n % 10) h10)
 have e1:IntKind.i64.wrap ((n:Int) % 10+1)=(n:Int) % 10+1:=IntWalk.i64_in _ (by omega)
 have q0:0≤(n:Int) % 10:=by omega
 have q1:(n:Int) % 10<10:=by omega
 have q2:(n:Int) % 10+1≤10:=by omega
 have q3:((n:Int) % 10).toNat=n % 10:=by omega
 have q4:((n:Int) % 10+1).toNat=n % 10+1:=by omega
 have hn0:¬(n:Int)<0:=by omega
 go_enter Tryz.func54,Tryz.ntmps54
 go_wp2_with fail
 go_loopw [0,4] (fun c d wr=>∃(f m:Nat) (acc:Strd.Bs),m≤f∧acc.length+f≤n+1∧m<2^40∧c=.int .i64 (m:Int)∧d=.string (bstr acc)∧Strd.decAux f m acc=X∧wr=w) (fun c _ _=>(intOf c).toNat)
 case atStart=>
  refine⟨n,n / 10,[(48+n % 10).toUInt8],by omega,by simp;omega,by omega,?_,?_,QA HX,rfl⟩
  ·exact congrArg (Value.int .i64) (by omega)
  ·rw[←QA Hd]
 case round=>
  obtain⟨f,m,acc,hmf,hal,hm40,rfl,rfl,hXm,hww⟩:=hrel
  have HXm:=QB hXm
  have Hww:=QB hww
  clear hXm hww e1 q0 q1 q2 q3 q4
  by_cases hm0:m=0
  ·have HXa:Hid (X=acc):=QB (by
    rw[←QA HXm,hm0]
    cases f with
    |zero=>rfl
    |succ f=>simp[Strd.decAux])
   subst hm0
   go_wp2
   go_ret
   exact⟨by rw[QA HXa];rfl,QA Hww⟩
  ·obtain⟨f,rfl⟩:∃g,f=g+1:=⟨f-1,by omega⟩
   have hmp:(0:Int)<m:=by omega
   have Hd':=QB (digit_at (m % 10) (by omega))
   have e1:IntKind.i64.wrap ((m:Int) % 10+1)=(m:Int) % 10+1:=IntWalk.i64_in _ (by omega)
   have q0:0≤(m:Int) % 10:=by omega
   have q1:(m:Int) % 10<10:=by omega
   have q2:(m:Int) % 10+1≤10:=by omega
   have q3:((m:Int) % 10).toNat=m % 10:=by omega
   have q4:((m:Int) % 10+1).toNat=m % 10+1:=by omega
   have q5:¬9223372036854775807<min (m % 10+1) 10-m % 10+List.length acc:=by omega
   go_wp2
   go_roundw
   case rel=>
    refine⟨f,m / 10,(48+m % 10).toUInt8::acc,by omega,by rw[List.length_cons];omega,by omega,congrArg (Value.int .i64) (by omega),?_,?_,QA Hww⟩
    ·rw[QA Hd']
     exact congrArg Value.string (QZ (by simp))
    ·rw[←QA HXm]
     conv=>rhs;unfold Strd.decAux
     rw[if_neg hm0]
   case measure=>simp[intOf];omega
theorem digits_ref (n:Int) (w:World) (hn:-2^39<n∧n<2^39) :
  Calls Tryz.prog 54 #[.int .i64 n] w fun e w'=>e=.returned (.string (bstr (Strd.itoa n)))∧w'=w:=by
 by_cases h:n<0
 ·have hI:Strd.itoa n=45::Strd.dec (-n).toNat:=by unfold Strd.itoa;rw[if_pos h]
  have CD:=QB (digits_pos (-n).toNat w (by omega))
  have e1:(((-n).toNat:Nat):Int)=-n:=by omega
  rw[e1]at CD
  have q1:IntKind.i64.wrap (-n)=-n:=IntWalk.i64_in _ (by omega)
  have HI:=QB hI
  have hdl:=Strd.dec_len (-n).toNat 12 (by omega)
  generalize Strd.itoa n=X at *
  generalize Strd.dec (-n).toNat=Y at *
  clear hI e1
  go_enter Tryz.func54,Tryz.ntmps54
  go_wp2_with (go_at_call 54;refine(QA CD).mono ?_;rintro e w1 ⟨rfl,hw1⟩;have hw1':=hw1.symm;subst hw1')
  go_ret
  exact⟨by rw[QA HI];exact congrArg (fun x=>Ending.returned (Value.string x)) (QZ (by simp)),rfl⟩
 ·have hI:Strd.itoa n=Strd.dec n.toNat:=by unfold Strd.itoa;rw[if_neg h]
  have:=digits_pos n.toNat w (by omega)
  rw[show ((n.toNat:Nat):Int)=n by omega]at this
  rw[hI]
  exact this
namespace Rf
theorem itoa_small (n:Int) (h:-2^39<n∧n<2^39):(Strd.itoa n).length≤14:=by
 unfold Strd.itoa
 by_cases h0:n<0
 ·rw[if_pos h0]
  have:=Strd.dec_len (-n).toNat 12 (by omega)
  simp only[List.length_cons]
  omega
 ·rw[if_neg h0]
  have:=Strd.dec_len n.toNat 12 (by omega)
  omega
theorem cells_new (w:World) (vs:Array Value) (t:TypeId):∀j u,vs.toList[j]? = some u→(w.alloc (.cells vs t)).cell? ((⟨w.heap.size,0,none⟩:Addr).add j)=some u:=by
 intro j u hj
 have h:=QC (QH w (.cells vs t)) j
 rw[Array.getElem?_toList]at hj
 rw[hj]at h
 unfold Addr.add
 by_cases h0:j=0
 ·subst h0
  simpa using h
 ·rw[if_neg h0]
  simpa using h
theorem cells_newT (w:World) (vs:Array Value) (t:TypeId) (L:List Value) (h:vs.toList=L):∀j u,L[j]? = some u→(w.alloc (.cells vs t)).cell? ((⟨w.heap.size,0,none⟩:Addr).add j)=some u:=by
 subst h
 exact cells_new w vs t
theorem sgn16_rng (n:Int):-32768≤Strd.sgn16 n∧Strd.sgn16 n<32768:=by unfold Strd.sgn16;omega
theorem strs_add {w:World} {base:Nat} {v:Value} {T N:List Strd.Bs} (h:w.ownsRow base 9 1 v (T.length+N.length) (T.map (fun s=>Value.string (bstr s))++N.map (fun s=>Value.string (bstr s)))):ZR base w v (T++N):=by
 show World.ownsRow _ _ _ _ _ _ _
 rw[List.length_append,List.map_append]
 exact h
theorem sgn8_rng (n:Int):-128≤Strd.sgn8 n∧Strd.sgn8 n<128:=by unfold Strd.sgn8;omega
theorem cond_arr (k:Nat) (h:k<16):(#[.string ⟨#[98,114,97]⟩,.string ⟨#[98,115,114]⟩,.string ⟨#[98,104,105]⟩,.string ⟨#[98,108,115]⟩,.string ⟨#[98,99,99]⟩,.string ⟨#[98,99,115]⟩,.string ⟨#[98,110,101]⟩,.string ⟨#[98,101,113]⟩,.string ⟨#[98,118,99]⟩,.string ⟨#[98,118,115]⟩,.string ⟨#[98,112,108]⟩,.string ⟨#[98,109,105]⟩,.string ⟨#[98,103,101]⟩,.string ⟨#[98,108,116]⟩,.string ⟨#[98,103,116]⟩,.string ⟨#[98,108,101]⟩]:Array Value)[k]? = some (.string (bstr (Strd.jumpWords.getD k []))):=by
 rcases k with _|_|_|_|_|_|_|_|_|_|_|_|_|_|_|_|k
 all_goals first|rfl|omega
theorem cond_cell (w:World) (k:Nat) (h:k<16):(w.alloc (.cells #[.string ⟨#[98,114,97]⟩,.string ⟨#[98,115,114]⟩,.string ⟨#[98,104,105]⟩,.string ⟨#[98,108,115]⟩,.string ⟨#[98,99,99]⟩,.string ⟨#[98,99,115]⟩,.string ⟨#[98,110,101]⟩,.string ⟨#[98,101,113]⟩,.string ⟨#[98,118,99]⟩,.string ⟨#[98,118,115]⟩,.string ⟨#[98,112,108]⟩,.string ⟨#[98,109,105]⟩,.string ⟨#[98,103,101]⟩,.string ⟨#[98,108,116]⟩,.string ⟨#[98,103,116]⟩,.string ⟨#[98,108,101]⟩] 9)).cell? ⟨w.heap.size,k,none⟩=some (.string (bstr (Strd.jumpWords.getD k []))):=by
 have:=QC (QH w (.cells #[.string ⟨#[98,114,97]⟩,.string ⟨#[98,115,114]⟩,.string ⟨#[98,104,105]⟩,.string ⟨#[98,108,115]⟩,.string ⟨#[98,99,99]⟩,.string ⟨#[98,99,115]⟩,.string ⟨#[98,110,101]⟩,.string ⟨#[98,101,113]⟩,.string ⟨#[98,118,99]⟩,.string ⟨#[98,118,115]⟩,.string ⟨#[98,112,108]⟩,.string ⟨#[98,109,105]⟩,.string ⟨#[98,103,101]⟩,.string ⟨#[98,108,116]⟩,.string ⟨#[98,103,116]⟩,.string ⟨#[98,108,101]⟩] 9)) k
 rw[cond_arr k h]at this
 exact this
theorem cond_len (k:Nat) (h:k<16):(Strd.jumpWords.getD k []).length=3:=by
 rcases k with _|_|_|_|_|_|_|_|_|_|_|_|_|_|_|_|k
 all_goals first|rfl|omega
def moves (W:Int):List Strd.Bs:=[[110,111,112],[114,116,115],mvT [109,111,118,101] (W % 8) (W / 512 % 8),mvT [97,100,100] (W % 8) (W / 512 % 8),mvT [115,117,98] (W % 8) (W / 512 % 8),mvT [99,109,112] (W % 8) (W / 512 % 8),vlT [109,111,118,101,113] (Strd.sgn8 W) (W / 512 % 8)]
end Rf
theorem tries_ref (b:Strd.Bs) (a:Int) (w:World) (hl:b.length≤2^20) (h1:1≤b.length) (ha:0≤a∧a≤20000000) :
  Calls Tryz.prog 55 #[.string (bstr b),.int .i64 a] w fun e w'=>∃v,e=.returned v∧ZR w.heap.size w' v (Rf.triesB b a)∧Below w.heap.size w w':=by
 obtain⟨i0,hi,hz0,hz1,hz2⟩:=info_parts Tryz.info9
 generalize hX:Rf.triesB b a=X
 unfold Rf.triesB Rf.condT at hX
 have g0:b[0]? = some (b.getD 0 0):=by rw[gD,gE (by omega)];rfl
 have e0:=Rf.ZQ g0
 have r0:=(b.getD 0 0).toNat_lt
 have ed:=Rf.itoa_small ((b.getD 0 0).toNat:Int) (by omega)
 have CD:=QB (fun n h V=>digits_ref n V h)
 by_cases h2:2≤b.length
 ·rw[if_pos h2]at hX
  have g1:b[1]? = some (b.getD 1 0):=by rw[gD,gE (by omega)];rfl
  have e1:=Rf.ZQ g1
  have r1:=(b.getD 1 0).toNat_lt
  have hW:Strd.QG b 0=256*((b.getD 0 0).toNat:Int)+((b.getD 1 0).toNat:Int):=by unfold Strd.QG;rw[if_pos (by omega)]
  have hWr:0≤Strd.QG b 0∧Strd.QG b 0<65536:=by omega
  generalize b.getD 0 0=c0 at *
  generalize b.getD 1 0=c1 at *
  have HX:=QB hX
  have HW:=QB hW
  have hb2:(2:Int)≤(b.length:Int):=by omega
  have q1:IntKind.i64.wrap (256*(c0.toNat:Int))=256*(c0.toNat:Int):=IntWalk.i64_in _ (by omega)
  have q2:IntKind.i64.wrap (256*(c0.toNat:Int)+(c1.toNat:Int))=Strd.QG b 0:=by rw[hW];exact IntWalk.i64_in _ (by omega)
  have hb0:(0:Int)<(b.length:Int):=by omega
  have hb1:(1:Int)<(b.length:Int):=by omega
  clear hX hW g0 g1 h1 h2
  generalize Strd.QG b 0=W at *
  go_enter Tryz.func55,Tryz.ntmps55
  go_upto_region 3 with fail
  go_quiet (fail)
  go_upto_region 4 with fail
  have hB0:=Rf.below_dn (Below.refl w.heap.size w) nq
  generalize w.drewN nq=W0 at *
  have hWs:=hB0.size
  have He0:=QB e0
  clear e0 e1 q1 q2 hb1
  have l1:=Rf.itoa_small (W % 8) (by omega)
  have l2:=Rf.itoa_small (W / 512 % 8) (by omega)
  have hs8:=Rf.sgn8_rng W
  have l3:=Rf.itoa_small (Strd.sgn8 W) (by omega)
  go_upto_if 36 with (go_at_call 54;refine(QA CD _ (by omega) _).mono ?_;rintro e wz ⟨rfl,hwz⟩;have hwz':=hwz.symm;subst hwz')
  go_cut [9] (fun c9 wq=>c9=.int .i64 (Strd.sgn8 W)∧wq=W0)
  case first=>
   by_cases h128:128≤W % 256
   ·have q3:IntKind.i64.wrap (W % 256-256)=Strd.sgn8 W:=by unfold Strd.sgn8;rw[IntWalk.i64_in _ (by omega)];omega
    go_wp2
    go_meet
    exact⟨rfl,rfl⟩
   ·have q3:W % 256=Strd.sgn8 W:=by unfold Strd.sgn8;omega
    go_wp2
    go_meet
    exact⟨by rw[←q3],rfl⟩
  case rest=>
   obtain⟨rfl,hwc⟩:=hcut
   obtain⟨S8,hS8⟩:∃x,x=Strd.sgn8 W:=⟨_,rfl⟩
   go_upto_region 10 with (first|(go_at_call 54;refine(QA CD _ (by omega) _).mono ?_;rintro e wz ⟨rfl,hwz⟩;have hwz':=hwz.symm;subst hwz')|(at_builtin;refine wpList_append_own _ rfl _ _ 38 rfl w.heap.size 9 i0 (.string ⟨#[]⟩) 1 16 Tryz.underlying38 hi hz0 hz1 hz2 rfl (by decide) _ _ _ rfl ((World.ownsRow_nil _ _ _ _).alloc _) ⟨W0.heap.size,0,none⟩ 7 7 ((Rf.moves W).map (fun s=>Value.string (bstr s))) ?dx ?dl ?d1 ?d2 ?d3 ?d4 ?d5 ?_)|go_in)
   case dx=>rfl
   case dl=>rfl
   case d1=>
    refine Rf.cells_newT _ _ _ _ ?_
    simp only[Rf.moves,List.map_cons,List.map_nil,List.cons.injEq,Value.string.injEq,and_true]
    repeat' apply And.intro
    all_goals (first|trivial|rfl|(refine QZ ?_;simp[Rf.mvT,Rf.vlT,Rf.jpT]))
   case d2=>exact strs_one _
   case d3=>have:=hl;unfold maxLen;omega
   case d4=>have:=hl;omega
   case d5=>rw[World.size_alloc];omega
   intro v1 w2 hown hgrow _
   have hB2:Below w.heap.size w w2:=Below.grown (hB0.alloc (by omega) _) hgrow (by rw[World.size_alloc];omega) (fun k e=>by cases e)
   have hrow2:ZR w.heap.size w2 v1 (Rf.moves W):=hown
   clear hgrow hown
   go_wp2
   go_loopw [5,10] (fun v c10 wr=>∃n:Nat,n≤8∧c10=.int .i64 ((n:Int)+1)∧ZR w.heap.size wr v (Rf.moves W++(List.range' 1 n).map (fun (n:Nat)=>Rf.vlT [97,100,100,105] (n:Int) (W % 8)))∧Below w.heap.size w wr) (fun _ c _=>9-(intOf c).toNat)
   case atStart=>exact⟨0,by omega,rfl,by simpa using hrow2,hB2⟩
   case round=>
    obtain⟨n,hn,rfl,hrow,hbl⟩:=hrel
    have hbs:=hbl.size
    have Hln:Hid ((Rf.moves W++(List.range' 1 n).map (fun (n:Nat)=>Rf.vlT [97,100,100,105] (n:Int) (W % 8))).length=7+n):=QB (by simp[Rf.moves];omega)
    generalize hT:Rf.moves W++(List.range' 1 n).map (fun (n:Nat)=>Rf.vlT [97,100,100,105] (n:Int) (W % 8))=T at hrow Hln
    have HT:=QB hT
    clear hT
    by_cases hn8:n<8
    ·have l4:=Rf.itoa_small ((n:Int)+1) (by omega)
     have q8:(n:Int)+1≤8:=by omega
     have q9:IntKind.i64.wrap ((n:Int)+1+1)=(n:Int)+1+1:=IntWalk.i64_in _ (by omega)
     go_wp2_with (first|(go_at_call 54;refine(QA CD _ (by omega) _).mono ?_;rintro e wz ⟨rfl,hwz⟩;have hwz':=hwz.symm;subst hwz')|(at_builtin;refine wpList_append_own _ rfl _ _ 38 rfl w.heap.size 9 i0 (.string ⟨#[]⟩) 1 16 Tryz.underlying38 hi hz0 hz1 hz2 rfl (by decide) _ _ _ rfl (hrow.alloc _) ⟨wr.heap.size,0,none⟩ 1 1 (([Rf.vlT [97,100,100,105] ((n:Int)+1) (W % 8)]).map (fun s=>Value.string (bstr s))) ?dx ?dl ?d1 ?d2 ?d3 ?d4 ?d5 ?_)|go_in)
     case dx=>rfl
     case dl=>rfl
     case d1=>
      refine Rf.cells_newT _ _ _ _ ?_
      simp only[List.map_cons,List.map_nil,List.cons.injEq,Value.string.injEq,and_true]
      repeat' apply And.intro
      all_goals exact QZ (by simp[Rf.mvT,Rf.vlT,Rf.jpT])
     case d2=>exact strs_one _
     case d3=>have:=QA Hln;unfold maxLen;omega
     case d4=>have:=QA Hln;omega
     case d5=>rw[World.size_alloc];omega
     intro v1 w3 hown hgrow _
     have hB3:Below w.heap.size w w3:=Below.grown (hbl.alloc (by omega) _) hgrow (by rw[World.size_alloc];omega) (fun k e=>by have:=(hrow.lt _ e).1;omega)
     clear hgrow
     go_wp2
     go_roundw
     case rel=>
      refine⟨n+1,by omega,by go_num,?_,hB3⟩
      rw[List.range'_concat,List.map_append,←List.append_assoc,QA HT]
      show World.ownsRow _ _ _ _ _ _ _
      rw[List.length_append,List.map_append]
      have e1:((1+1*n:Nat):Int)=(n:Int)+1:=by omega
      simp only[List.map_cons,List.map_nil,e1]
      exact hown
     case measure=>simp[intOf];omega
    ·obtain rfl:n=8:=by omega
     have Hrow:=QB hrow
     go_upto_region 14 with fail
     obtain⟨k,hk,hk16⟩:∃k:Nat,W / 256 % 16=(k:Int)∧k<16:=⟨(W / 256 % 16).toNat,by omega,by omega⟩
     have hkI:(k:Int)<16:=by omega
     have hkn:¬(k:Int)<0:=by omega
     have hc:=Rf.cond_cell wr k hk16
     have hcl:=Rf.cond_len k hk16
     have hCW:Strd.jumpWords.getD (W / 256 % 16).toNat []=Strd.jumpWords.getD k []:=by rw[hk];rfl
     have HCW:=QB hCW
     clear hCW
     generalize Strd.jumpWords.getD k []=CW at *
     go_cut [11] (fun c11 wq=>c11=.string (bstr CW)∧ZR w.heap.size wq u5 T∧Below w.heap.size w wq)
     case first=>
      go_wp2
      go_meet
      exact⟨rfl,(QA Hrow).alloc _,hbl.alloc (by omega) _⟩
     case rest=>
      obtain⟨rfl,hrc,hBc⟩:=hcut
      have hcs:=hBc.size
      have p1:IntKind.i64.wrap (a+2)=a+2:=IntWalk.i64_in _ (by omega)
      have p2:IntKind.i64.wrap (a+2+Strd.sgn8 W)=a+2+Strd.sgn8 W:=IntWalk.i64_in _ (by omega)
      have l5:=Rf.itoa_small (a+2+Strd.sgn8 W) (by omega)
      clear Hrow hrow hbl hbs hc hkI hkn hk hn hn8
      go_upto_if 100 with (first|(go_at_call 54;refine(QA CD _ (by omega) _).mono ?_;rintro e wz ⟨rfl,hwz⟩;have hwz':=hwz.symm;subst hwz')|(at_builtin;refine wpList_append_own _ rfl _ _ 38 rfl w.heap.size 9 i0 (.string ⟨#[]⟩) 1 16 Tryz.underlying38 hi hz0 hz1 hz2 rfl (by decide) _ _ _ rfl (hrc.alloc _) ⟨wc.heap.size,0,none⟩ 1 1 (([Rf.jpT (CW++[46,115]) (a+2+Strd.sgn8 W)]).map (fun s=>Value.string (bstr s))) ?dx ?dl ?d1 ?d2 ?d3 ?d4 ?d5 ?_)|go_in)
      case dx=>rfl
      case dl=>rfl
      case d1=>
       refine Rf.cells_newT _ _ _ _ ?_
       simp only[List.map_cons,List.map_nil,List.cons.injEq,Value.string.injEq,and_true]
       repeat' apply And.intro
       all_goals exact QZ (by simp[Rf.mvT,Rf.vlT,Rf.jpT])
      case d2=>exact strs_one _
      case d3=>have:=QA Hln;unfold maxLen;omega
      case d4=>have:=QA Hln;omega
      case d5=>rw[World.size_alloc];omega
      intro Av Aw hown hgrow _
      have hBA:Below w.heap.size w Aw:=Below.grown (hBc.alloc (by omega) _) hgrow (by rw[World.size_alloc];omega) (fun k e=>by have:=(hrc.lt _ e).1;omega)
      have hrA:=Rf.strs_add (N:=[Rf.jpT (CW++[46,115]) (a+2+Strd.sgn8 W)]) hown
      have hsA:=hBA.size
      clear hgrow hown
      go_upto_if 100 with fail
      clear hrc hBc
      have HlA:Hid ((T++[Rf.jpT (CW++[46,115]) (a+2+Strd.sgn8 W)]).length=16):=QB (by rw[List.length_append,QA Hln];rfl)
      generalize hTA:T++[Rf.jpT (CW++[46,115]) (a+2+Strd.sgn8 W)]=TA at hrA HlA
      have HTA:=QB hTA
      clear hTA
      obtain⟨P4,hP4⟩:∃P:List Strd.Bs,P=(if 4≤b.length then [Rf.jpT (CW++[46,119]) (a+2+Strd.sgn16 (Strd.QG b 2)),Rf.jpT [106,109,112,46,119] (Strd.QG b 2),Rf.jpT [106,115,114,46,119] (Strd.QG b 2),Rf.vlT [97,100,100,105] (Strd.QG b 2) (W % 8)]++(if 6≤b.length then [Rf.jpT [106,109,112,46,108] (65536*Strd.QG b 2+Strd.QG b 4),Rf.jpT [106,115,114,46,108] (65536*Strd.QG b 2+Strd.QG b 4)] else []) else []):=⟨_,rfl⟩
      have HP4:=QB hP4
      have HlP:Hid (P4.length≤6):=QB (by rw[hP4];by_cases x4:4≤b.length <;> by_cases x6:6≤b.length <;> simp[x4,x6])
      clear hP4
      go_cut [5] (fun c5 wq=>ZR w.heap.size wq c5 (TA++P4)∧Below w.heap.size w wq)
      case first=>
       have hP4:=QA HP4
       by_cases x4:4≤b.length
       ·rw[if_pos x4]at hP4
        have x4I:(4:Int)≤(b.length:Int):=by omega
        have g2:b[2]? = some (b.getD 2 0):=by rw[gD,gE (by omega)];rfl
        have g3:b[3]? = some (b.getD 3 0):=by rw[gD,gE (by omega)];rfl
        have e2:=Rf.ZQ g2
        have e3:=Rf.ZQ g3
        have r2:=(b.getD 2 0).toNat_lt
        have r3:=(b.getD 3 0).toNat_lt
        have hW2:Strd.QG b 2=256*((b.getD 2 0).toNat:Int)+((b.getD 3 0).toNat:Int):=by unfold Strd.QG;rw[if_pos (by omega)]
        have hWr2:0≤Strd.QG b 2∧Strd.QG b 2<65536:=by omega
        generalize b.getD 2 0=c2 at *
        generalize b.getD 3 0=c3 at *
        have q1:IntKind.i64.wrap (256*(c2.toNat:Int))=256*(c2.toNat:Int):=IntWalk.i64_in _ (by omega)
        have q2:IntKind.i64.wrap (256*(c2.toNat:Int)+(c3.toNat:Int))=Strd.QG b 2:=by rw[hW2];exact IntWalk.i64_in _ (by omega)
        have hb2':(2:Int)<(b.length:Int):=by omega
        have hb3':(3:Int)<(b.length:Int):=by omega
        clear hW2 g2 g3 HX HP4
        have HP4:=QB hP4
        clear hP4
        generalize Strd.QG b 2=W2 at *
        go_upto_region 17 with fail
        go_quiet (fail)
        go_upto_if 111 with fail
        have hrB:=ZR.below hrA (Rf.below_dn (Below.refl Aw.heap.size Aw) nq)
        have hBB:=Rf.below_dn hBA nq
        generalize Aw.drewN nq=W7 at *
        have hs7:=hBB.size
        clear e2 e3 q1 q2 hb2' hb3' hrA hBA
        have hs16:=Rf.sgn16_rng W2
        have p3:IntKind.i64.wrap (a+2+Strd.sgn16 W2)=a+2+Strd.sgn16 W2:=IntWalk.i64_in _ (by omega)
        have l6:=Rf.itoa_small (a+2+Strd.sgn16 W2) (by omega)
        have l7:=Rf.itoa_small W2 (by omega)
        go_cut [13] (fun c13 wq=>c13=.int .i64 (Strd.sgn16 W2)∧wq=W7)
        case first=>
         by_cases h15:32768≤W2
         ·have q3:IntKind.i64.wrap (W2-65536)=Strd.sgn16 W2:=by unfold Strd.sgn16;rw[IntWalk.i64_in _ (by omega)];omega
          go_wp2
          go_meet
          exact⟨rfl,rfl⟩
         ·have q3:W2=Strd.sgn16 W2:=by unfold Strd.sgn16;omega
          have Q3:=QB q3
          clear q3
          go_wp2
          go_meet
          exact⟨by rw[←QA Q3],rfl⟩
        case rest=>
         obtain⟨rfl,hwc⟩:=hcut
         subst hwc
         go_upto_if 139 with (first|(go_at_call 54;refine(QA CD _ (by omega) _).mono ?_;rintro e wz ⟨rfl,hwz⟩;have hwz':=hwz.symm;subst hwz')|(at_builtin;refine wpList_append_own _ rfl _ _ 38 rfl w.heap.size 9 i0 (.string ⟨#[]⟩) 1 16 Tryz.underlying38 hi hz0 hz1 hz2 rfl (by decide) _ _ _ rfl (hrB.alloc _) ⟨wc.heap.size,0,none⟩ 4 4 (([Rf.jpT (CW++[46,119]) (a+2+Strd.sgn16 W2),Rf.jpT [106,109,112,46,119] W2,Rf.jpT [106,115,114,46,119] W2,Rf.vlT [97,100,100,105] W2 (W % 8)]).map (fun s=>Value.string (bstr s))) ?dx ?dl ?d1 ?d2 ?d3 ?d4 ?d5 ?_)|go_in)
         case dx=>rfl
         case dl=>rfl
         case d1=>
          refine Rf.cells_newT _ _ _ _ ?_
          simp only[List.map_cons,List.map_nil,List.cons.injEq,Value.string.injEq,and_true]
          repeat' apply And.intro
          all_goals exact QZ (by simp[Rf.mvT,Rf.vlT,Rf.jpT])
         case d2=>exact strs_one _
         case d3=>have:=QA HlA;unfold maxLen;omega
         case d4=>have:=QA HlA;omega
         case d5=>rw[World.size_alloc];omega
         intro Cv Cw hown hgrow _
         have hBC:Below w.heap.size w Cw:=Below.grown (hBB.alloc (by omega) _) hgrow (by rw[World.size_alloc];omega) (fun k e=>by have:=(hrB.lt _ e).1;omega)
         have hrC:=Rf.strs_add (N:=[Rf.jpT (CW++[46,119]) (a+2+Strd.sgn16 W2),Rf.jpT [106,109,112,46,119] W2,Rf.jpT [106,115,114,46,119] W2,Rf.vlT [97,100,100,105] W2 (W % 8)]) hown
         have hsC:=hBC.size
         clear hgrow hown
         go_upto_if 139 with fail
         clear hrB hBB
         have HlC:Hid ((TA++[Rf.jpT (CW++[46,119]) (a+2+Strd.sgn16 W2),Rf.jpT [106,109,112,46,119] W2,Rf.jpT [106,115,114,46,119] W2,Rf.vlT [97,100,100,105] W2 (W % 8)]).length=20):=QB (by rw[List.length_append,QA HlA];rfl)
         generalize hTC:TA++[Rf.jpT (CW++[46,119]) (a+2+Strd.sgn16 W2),Rf.jpT [106,109,112,46,119] W2,Rf.jpT [106,115,114,46,119] W2,Rf.vlT [97,100,100,105] W2 (W % 8)]=TC at hrC HlC
         have HTC:=QB hTC
         clear hTC
         have hP4:=QA HP4
         by_cases x6:6≤b.length
         ·rw[if_pos x6]at hP4
          have x6I:(6:Int)≤(b.length:Int):=by omega
          have g2:b[4]? = some (b.getD 4 0):=by rw[gD,gE (by omega)];rfl
          have g3:b[5]? = some (b.getD 5 0):=by rw[gD,gE (by omega)];rfl
          have e2:=Rf.ZQ g2
          have e3:=Rf.ZQ g3
          have r4:=(b.getD 4 0).toNat_lt
          have r5:=(b.getD 5 0).toNat_lt
          have hW4:Strd.QG b 4=256*((b.getD 4 0).toNat:Int)+((b.getD 5 0).toNat:Int):=by unfold Strd.QG;rw[if_pos (by omega)]
          have hWr4:0≤Strd.QG b 4∧Strd.QG b 4<65536:=by omega
          generalize b.getD 4 0=c4 at *
          generalize b.getD 5 0=c5 at *
          generalize Strd.QG b 4=W4 at *
          have q1:IntKind.i64.wrap (65536*W2)=65536*W2:=IntWalk.i64_in _ (by omega)
          have q2:IntKind.i64.wrap (256*(c4.toNat:Int))=256*(c4.toNat:Int):=IntWalk.i64_in _ (by omega)
          have q3:IntKind.i64.wrap (65536*W2+256*(c4.toNat:Int))=65536*W2+256*(c4.toNat:Int):=IntWalk.i64_in _ (by omega)
          have q4:IntKind.i64.wrap (65536*W2+256*(c4.toNat:Int)+(c5.toNat:Int))=65536*W2+W4:=by rw[IntWalk.i64_in _ (by omega)];omega
          have hb2':(4:Int)<(b.length:Int):=by omega
          have hb3':(5:Int)<(b.length:Int):=by omega
          have l8:=Rf.itoa_small (65536*W2+W4) (by omega)
          have hNr:-2^39<65536*W2+W4∧65536*W2+W4<2^39:=by omega
          clear hW4 g2 g3 HP4
          have HP4:=QB hP4
          clear hP4
          go_upto_region 23 with fail
          go_quiet (fail)
          go_upto_region 24 with fail
          have hrE:=ZR.below hrC (Rf.below_dn (Below.refl Cw.heap.size Cw) nq)
          have hBE:=Rf.below_dn hBC nq
          generalize Cw.drewN nq=W9 at *
          have hs9:=hBE.size
          clear e2 e3 q1 q2 q3 q4 hb2' hb3' hrC hBC
          go_wp2_with (first|(go_at_call 54;refine(QA CD _ (by omega) _).mono ?_;rintro e wz ⟨rfl,hwz⟩;have hwz':=hwz.symm;subst hwz')|(at_builtin;refine wpList_append_own _ rfl _ _ 38 rfl w.heap.size 9 i0 (.string ⟨#[]⟩) 1 16 Tryz.underlying38 hi hz0 hz1 hz2 rfl (by decide) _ _ _ rfl (hrE.alloc _) ⟨W9.heap.size,0,none⟩ 2 2 (([Rf.jpT [106,109,112,46,108] (65536*W2+W4),Rf.jpT [106,115,114,46,108] (65536*W2+W4)]).map (fun s=>Value.string (bstr s))) ?dx ?dl ?d1 ?d2 ?d3 ?d4 ?d5 ?_)|go_in)
          case dx=>rfl
          case dl=>rfl
          case d1=>
           refine Rf.cells_newT _ _ _ _ ?_
           simp only[List.map_cons,List.map_nil,List.cons.injEq,Value.string.injEq,and_true]
           repeat' apply And.intro
           all_goals exact QZ (by simp[Rf.mvT,Rf.vlT,Rf.jpT])
          case d2=>exact strs_one _
          case d3=>have:=QA HlC;unfold maxLen;omega
          case d4=>have:=QA HlC;omega
          case d5=>rw[World.size_alloc];omega
          intro Fv Fw hown hgrow _
          have hBF:Below w.heap.size w Fw:=Below.grown (hBE.alloc (by omega) _) hgrow (by rw[World.size_alloc];omega) (fun k e=>by have:=(hrE.lt _ e).1;omega)
          have hrF:=Rf.strs_add (N:=[Rf.jpT [106,109,112,46,108] (65536*W2+W4),Rf.jpT [106,115,114,46,108] (65536*W2+W4)]) hown
          have hsF:=hBF.size
          clear hgrow hown
          go_wp2
          go_meet
          refine⟨?_,hBF⟩
          rw[QA HP4,←List.append_assoc,QA HTC]
          exact hrF
         ·rw[if_neg x6,List.append_nil]at hP4
          have x6I:¬(6:Int)≤(b.length:Int):=by omega
          clear HP4
          have HP4:=QB hP4
          clear hP4
          go_wp2
          go_meet
          refine⟨?_,hBC⟩
          rw[QA HP4,QA HTC]
          exact hrC
       ·rw[if_neg x4]at hP4
        have x4I:¬(4:Int)≤(b.length:Int):=by omega
        go_wp2
        go_meet
        exact⟨by rw[hP4,List.append_nil];exact hrA,hBA⟩
      case rest=>
       obtain⟨hrD,hBD⟩:=hcut
       have hsD:=hBD.size
       have HlD:Hid ((TA++P4).length≤22):=QB (by rw[List.length_append,QA HlA];have:=QA HlP;omega)
       generalize hTD:TA++P4=TD at hrD HlD
       have HTD:=QB hTD
       clear hTD
       have l8:=Rf.itoa_small W (by omega)
       have e0:=QA He0
       go_upto_region 26 with (first|(go_at_call 54;refine(QA CD _ (by omega) _).mono ?_;rintro e wz ⟨rfl,hwz⟩;have hwz':=hwz.symm;subst hwz')|(at_builtin;refine wpList_append_own _ rfl _ _ 38 rfl w.heap.size 9 i0 (.string ⟨#[]⟩) 1 16 Tryz.underlying38 hi hz0 hz1 hz2 rfl (by decide) _ _ _ rfl (hrD.alloc _) ⟨wc.heap.size,0,none⟩ 1 1 (([Rf.jpT [100,99,46,119] W]).map (fun s=>Value.string (bstr s))) ?dx ?dl ?d1 ?d2 ?d3 ?d4 ?d5 ?_)|go_in)
       case dx=>rfl
       case dl=>rfl
       case d1=>
        refine Rf.cells_newT _ _ _ _ ?_
        simp only[List.map_cons,List.map_nil,List.cons.injEq,Value.string.injEq,and_true]
        repeat' apply And.intro
        all_goals exact QZ (by simp[Rf.mvT,Rf.vlT,Rf.jpT])
       case d2=>exact strs_one _
       case d3=>have:=QA HlD;unfold maxLen;omega
       case d4=>have:=QA HlD;omega
       case d5=>rw[World.size_alloc];omega
       intro Fv Fw hown hgrow _
       have hBF:Below w.heap.size w Fw:=Below.grown (hBD.alloc (by omega) _) hgrow (by rw[World.size_alloc];omega) (fun k e=>by have:=(hrD.lt _ e).1;omega)
       have hrF:=Rf.strs_add (N:=[Rf.jpT [100,99,46,119] W]) hown
       have hsF:=hBF.size
       clear hgrow hown
       go_upto_region 26 with fail
       have HlF:Hid ((TD++[Rf.jpT [100,99,46,119] W]).length≤23):=QB (by rw[List.length_append];have:=QA HlD;simp only[List.length_cons,List.length_nil];omega)
       generalize hTF:TD++[Rf.jpT [100,99,46,119] W]=TF at hrF HlF
       have HTF:=QB hTF
       clear hTF hrD hBD
       go_wp2_with (first|(go_at_call 54;refine(QA CD _ (by omega) _).mono ?_;rintro e wz ⟨rfl,hwz⟩;have hwz':=hwz.symm;subst hwz')|(at_builtin;refine wpList_append_own _ rfl _ _ 38 rfl w.heap.size 9 i0 (.string ⟨#[]⟩) 1 16 Tryz.underlying38 hi hz0 hz1 hz2 rfl (by decide) _ _ _ rfl (hrF.alloc _) ⟨Fw.heap.size,0,none⟩ 1 1 (([Rf.jpT [100,99,46,98] (c0.toNat:Int)]).map (fun s=>Value.string (bstr s))) ?dx ?dl ?d1 ?d2 ?d3 ?d4 ?d5 ?_)|go_in)
       case dx=>rfl
       case dl=>rfl
       case d1=>
        refine Rf.cells_newT _ _ _ _ ?_
        simp only[List.map_cons,List.map_nil,List.cons.injEq,Value.string.injEq,and_true]
        repeat' apply And.intro
        all_goals exact QZ (by simp[Rf.mvT,Rf.vlT,Rf.jpT])
       case d2=>exact strs_one _
       case d3=>have:=QA HlF;unfold maxLen;omega
       case d4=>have:=QA HlF;omega
       case d5=>rw[World.size_alloc];omega
       intro Gv Gw hown hgrow _
       have hBG:Below w.heap.size w Gw:=Below.grown (hBF.alloc (by omega) _) hgrow (by rw[World.size_alloc];omega) (fun k e=>by have:=(hrF.lt _ e).1;omega)
       have hrG:=Rf.strs_add (N:=[Rf.jpT [100,99,46,98] (c0.toNat:Int)]) hown
       have hsG:=hBG.size
       clear hgrow hown
       go_wp2
       go_ret
       refine⟨_,rfl,?_,hBG⟩
       rw[←QA HX,QA HCW,←QA HP4,←Rf.moves,QA HT,QA HTA,QA HTD,QA HTF]
       exact hrG
 ·rw[if_neg h2,List.nil_append]at hX
  generalize b.getD 0 0=c0 at *
  have HX:=QB hX
  have hb2:¬(2:Int)≤(b.length:Int):=by omega
  have hb0:(0:Int)<(b.length:Int):=by omega
  clear hX g0 h1 h2
  go_enter Tryz.func55,Tryz.ntmps55
  go_wp2_with (first|(go_at_call 54;refine(QA CD _ (by omega) _).mono ?_;rintro e wz ⟨rfl,hwz⟩;have hwz':=hwz.symm;subst hwz')|(at_builtin;refine wpList_append_own _ rfl _ _ 38 rfl w.heap.size 9 i0 (.string ⟨#[]⟩) 1 16 Tryz.underlying38 hi hz0 hz1 hz2 rfl (by decide) _ _ _ rfl ((World.ownsRow_nil _ _ _ _).alloc _) ⟨w.heap.size,0,none⟩ 1 1 (([Rf.jpT [100,99,46,98] (c0.toNat:Int)]).map (fun s=>Value.string (bstr s))) ?dx ?dl ?d1 ?d2 ?d3 ?d4 ?d5 ?_)|go_in)
  case dx=>rfl
  case dl=>rfl
  case d1=>
   refine Rf.cells_newT _ _ _ _ ?_
   simp only[List.map_cons,List.map_nil,List.cons.injEq,Value.string.injEq,and_true]
   repeat' apply And.intro
   all_goals exact QZ (by simp[Rf.mvT,Rf.vlT,Rf.jpT])
  case d2=>exact strs_one _
  case d3=>have:=hl;unfold maxLen;omega
  case d4=>have:=hl;omega
  case d5=>rw[World.size_alloc];omega
  intro v1 w2 hown hgrow _
  have hB2:Below w.heap.size w w2:=Below.grown ((Below.refl w.heap.size w).alloc (by omega) _) hgrow (by rw[World.size_alloc];omega) (fun k e=>by cases e)
  clear hgrow
  go_wp2
  go_ret
  refine⟨_,rfl,?_,hB2⟩
  rw[←QA HX]
  exact hown
end Go.Proofs.YtegiloiojloaoaaGreatDoor
