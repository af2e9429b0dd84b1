/- The reference's numbers. -/
import Derived.Test.YtegiloiojloaoaaGreatDoorCSpec
import Derived.Test.YtegiloiojloaoaaGreatDoorCRef11
import Derived.Test.YtegiloiojloaoaaGreatDoorCOprs
import Derived.Test.YtegiloiojloaoaaGreatDoorCRd
set_option linter.unusedVariables false
set_option linter.unusedSimpArgs false
set_option maxHeartbeats 8000000
set_option maxRecDepth 1000000
namespace Go.Proofs.YtegiloiojloaoaaGreatDoor
open Go.RowKit Go.Shelf Go.Sort Go.Maps
namespace Rf
theorem numbers_bad (l:Line) (i:Nat) (h:i<l.texts.length) (hb:numbersT l.word l.texts[i]=false):numbers l=false:=by
 unfold numbers
 have:l.texts.all (numbersT l.word)=false:=by
  rw[List.all_eq_false]
  exact⟨l.texts[i],List.getElem_mem h,by rw[hb];decide⟩
 rw[this,Bool.false_and]
theorem numbers_all (l:Line) (h:∀i,i<l.texts.length→numbersT l.word (l.texts.getD i [])=true):numbers l=(match l.texts with|[]=>true|t::_=>lastNum l.word t):=by
 unfold numbers
 have:l.texts.all (numbersT l.word)=true:=by
  rw[List.all_eq_true]
  intro t ht
  obtain⟨i,hi,rfl⟩:=List.getElem_of_mem ht
  have:=h i hi
  rwa[gD,gE hi]at this
 rw[this,Bool.true_and]
 cases l.texts <;> rfl
theorem tmod_beq (n:Int):(n.tmod 2==0)=(n % 2==0):=by
 rw[Bool.eq_iff_iff,beq_iff_eq,beq_iff_eq]
 exact tmod_two n
end Rf
theorem numbers_ref (l:Rf.Line) (p:Option Addr) (n c:Nat) (w:World) (hL:Rf.LineAt w p n c l) (hw:Rf.WfL l) (hn:l.texts.length≤8):Calls Tryz.prog 73 #[.agg (Rf.lineCells l p n c)] w fun e w'=>e=.returned (.bool (Rf.numbers l))∧Below w.heap.size w w':=by
 obtain⟨rfl,hS⟩:=hL
 have hlw:=hw.lens.2.1
 have hlt:=hw.lens.2.2
 have Hall:=QB (Rf.numbers_all l)
 have Hbad:=QB (Rf.numbers_bad l)
 unfold Rf.lineCells
 generalize Rf.numbers l=X at *
 have hbw:=QF w (.cells #[.int .i64 l.no,.string (bstr l.label),.string (bstr l.word),.int .i64 l.form,.slice p l.texts.length c] 144)
 have Hx:=QB (QH w (.cells #[.int .i64 l.no,.string (bstr l.label),.string (bstr l.word),.int .i64 l.form,.slice p l.texts.length c] 144))
 have HS:=QB (ZR.below hS hbw)
 have x2:=QC (QA Hx) 2
 have x4:=QC (QA Hx) 4
 simp only[gA,gZ,gS]at x2 x4
 have hxl:=QD (QA Hx)
 have Hlt:=QB hlt
 generalize hW:w.alloc (.cells #[.int .i64 l.no,.string (bstr l.label),.string (bstr l.word),.int .i64 l.form,.slice p l.texts.length c] 144)=W at *
 have HW:=QB hW
 clear hS hlt hw
 have CT:=QB (fun V=>two_r l.word V)
 generalize hwd:l.word=wd at *
 generalize hT:l.texts=T at *
 have hrg:Rf.regsOp wd=(wd==[109,111,118,101,113]||wd==[97,100,100,105]||decide (0<Rf.two wd)):=rfl
 have HRG:=QB hrg
 generalize hRG:Rf.regsOp wd=RG at *
 generalize hTW:Rf.two wd=tw at *
 have hdc:Rf.dcOp wd=(wd==[100,99,46,119]||wd==[100,99,46,98]):=rfl
 have HDC:=QB hdc
 generalize hDC:Rf.dcOp wd=DC at *
 have HhRG:=QB hRG
 have HhDC:=QB hDC
 clear hrg hdc hTW hwd hT hW hRG hDC
 go_enter Tryz.func73,Tryz.ntmps73
 go_upto_region 1 with fail
 simp only[QA HW]
 go_wp2
 go_loopw [3] (fun c3 wr=>∃i:Nat,i≤T.length∧c3=.int .i64 i∧(∀j,j<i→Rf.numbersT wd (T.getD j [])=true)∧wr=W) (fun c _=>T.length-(intOf c).toNat)
 case atStart=>exact⟨0,by omega,rfl,fun j hj=>by omega,rfl⟩
 case round=>
  obtain⟨i,hi,rfl,hsofar,hwr⟩:=hrel
  have hwr':=hwr.symm
  subst hwr'
  have Hso:=QB hsofar
  clear hsofar
  by_cases hlt:i<T.length
  ·
   as_aux_lemma=>
    obtain⟨gp,rfl,_,hgl,hgc⟩:=(QA HS).at i hlt
    have hgt:T.getD i []=T[i]:=by rw[gD,gE hlt];rfl
    have htl:=QA Hlt T[i] (List.getElem_mem hlt)
    have CR:=QB (fun V=>register_ref T[i] V (by omega))
    have CN:=QB (fun V=>number_ref T[i] V (by omega))
    have Hb:=QB (QA Hbad i hlt)
    have Hn:Hid (Rf.numbersT wd T[i]=true→∀j,j<i+1→Rf.numbersT wd (T.getD j [])=true):=QB (fun h j hj=>by
     by_cases e:j=i
     ·subst e;rw[hgt];exact h
     ·exact QA Hso j (by omega))
    have hdef:Rf.numbersT wd T[i]=(!(RG&&(Rf.register T[i]).isSome&&decide (7<(Rf.register T[i]).getD 0))&&!(DC&&(Strd.number T[i]).isSome&&!Rf.holds wd ((Strd.number T[i]).getD 0))):=by
     rw[←QA HhRG,←QA HhDC];rfl
    generalize Rf.numbersT wd T[i]=NT at *
    generalize Rf.register T[i]=RR at *
    generalize Strd.number T[i]=NN at *
    generalize T[i]=tx at *
    have CH:=QB (fun V=>holds_ref wd (NN.getD 0) V)
    generalize Rf.holds wd (NN.getD 0)=HH at *
    have Hdef:=QB hdef
    clear hdef hgt Hso Hall Hbad
    have hltI:(i:Int)<(T.length:Int):=by omega
    have hw1:IntKind.i64.wrap ((i:Int)+1)=(i:Int)+1:=IntWalk.i64_in _ (by omega)
    go_upto_region 5 with (go_at_call 112;refine(QA CR _).mono ?_;rintro e w1 ⟨rfl,hw1⟩;have hw1':=hw1.symm;subst hw1')
    go_cut [6] (fun c6 wq=>c6=.bool RG∧wq=W)
    case first=>
     clear Hdef
     cases q1:(wd==[109,111,118,101,113]) with
     |true=>
      have HG:Hid (RG=true):=QB (by rw[QA HRG,q1];rfl)
      go_wp2
      go_meet
      exact⟨by rw[QA HG],rfl⟩
     |false=>
      cases q2:(wd==[97,100,100,105]) with
      |true=>
       have HG:Hid (RG=true):=QB (by rw[QA HRG,q1,q2];rfl)
       go_wp2
       go_meet
       exact⟨by rw[QA HG],rfl⟩
      |false=>
       have HG:Hid (RG=decide (0<tw)):=QB (by rw[QA HRG,q1,q2];rfl)
       go_wp2_with (go_at_call 113;refine(QA CT _).mono ?_;rintro e w1 ⟨rfl,hw1⟩;have hw1':=hw1.symm;subst hw1')
       go_meet
       exact⟨by rw[QA HG],rfl⟩
    case rest=>
     obtain⟨rfl,hwq⟩:=hcut
     have hwq':=hwq.symm
     subst hwq'
     go_upto_region 6 with fail
     go_cut [51] (fun c51 wq=>c51=.bool (RG&&RR.isSome&&decide (7<RR.getD 0))∧wq=W)
     case first=>
      clear Hdef
      cases RG with
      |false=>
       go_wp2
       go_meet
       exact⟨rfl,rfl⟩
      |true=>
       cases RR with
       |none=>
        go_wp2
        go_meet
        exact⟨rfl,rfl⟩
       |some r=>
        go_wp2
        go_meet
        exact⟨rfl,rfl⟩
     case rest=>
      obtain⟨rfl,hwq⟩:=hcut
      have hwq':=hwq.symm
      subst hwq'
      generalize (RG&&RR.isSome&&decide (7<RR.getD 0))=B1 at *
      cases B1 with
      |true=>
       have HF:Hid (X=false):=QB (by rw[QA Hb (by rw[QA Hdef];rfl)])
       go_wp2
       go_ret
       exact⟨by rw[QA HF];rfl,hbw⟩
      |false=>
       go_upto_region 8 with fail
       go_cut [59] (fun c59 wq=>c59=.bool DC∧wq=W)
       case first=>
        clear Hdef
        cases q1:(wd==[100,99,46,119]) with
        |true=>
         have HG:Hid (DC=true):=QB (by rw[QA HDC,q1];rfl)
         go_wp2
         go_meet
         exact⟨by rw[QA HG],rfl⟩
        |false=>
         have HG:Hid (DC=(wd==[100,99,46,98])):=QB (by rw[QA HDC,q1];rfl)
         go_wp2
         go_meet
         exact⟨by rw[QA HG],rfl⟩
       case rest=>
        obtain⟨rfl,hwq⟩:=hcut
        have hwq':=hwq.symm
        subst hwq'
        cases DC with
        |false=>
         have HN:=QB (QA Hn (by rw[QA Hdef];rfl))
         go_wp2
         go_roundw
         case rel=>exact⟨i+1,by omega,by go_num,QA HN,trivial⟩
         case measure=>simp[intOf];omega
        |true=>
         cases NN with
         |none=>
          have HN:=QB (QA Hn (by rw[QA Hdef];rfl))
          go_wp2_with (first
           |(go_at_call 74;refine(QA CN _).mono ?_;rintro e w1 ⟨rfl,hw1⟩;have hw1':=hw1.symm;subst hw1')
           |(go_at_call 78;refine(QA CH _).mono ?_;rintro e w1 ⟨rfl,hw1⟩;have hw1':=hw1.symm;subst hw1'))
          go_roundw
          case rel=>exact⟨i+1,by omega,by go_num,QA HN,trivial⟩
          case measure=>simp[intOf];omega
         |some v=>
          cases HH with
          |true=>
           have HN:=QB (QA Hn (by rw[QA Hdef];rfl))
           go_wp2_with (first
            |(go_at_call 74;refine(QA CN _).mono ?_;rintro e w1 ⟨rfl,hw1⟩;have hw1':=hw1.symm;subst hw1')
            |(go_at_call 78;refine(QA CH _).mono ?_;rintro e w1 ⟨rfl,hw1⟩;have hw1':=hw1.symm;subst hw1'))
           go_roundw
           case rel=>exact⟨i+1,by omega,by go_num,QA HN,trivial⟩
           case measure=>simp[intOf];omega
          |false=>
           have HF:Hid (X=false):=QB (by rw[QA Hb (by rw[QA Hdef];rfl)])
           go_wp2_with (first
            |(go_at_call 74;refine(QA CN _).mono ?_;rintro e w1 ⟨rfl,hw1⟩;have hw1':=hw1.symm;subst hw1')
            |(go_at_call 78;refine(QA CH _).mono ?_;rintro e w1 ⟨rfl,hw1⟩;have hw1':=hw1.symm;subst hw1'))
           go_ret
           exact⟨by rw[QA HF];rfl,hbw⟩
  ·obtain rfl:i=T.length:=by omega
   have hX:=QA Hall (fun j hj=>QA Hso j hj)
   clear Hall Hbad Hso hlt HRG HDC CT
   cases T with
   |nil=>
    as_aux_lemma=>
     have HF:Hid (true=X):=QB hX.symm
     clear hX
     go_wp2
     go_ret
     exact⟨by rw[←QA HF];rfl,hbw⟩
   |cons t0 ts=>
    have hX2:X=Rf.lastNum wd t0:=hX
    clear hX
    obtain⟨gp,rfl,_,hgl,hgc⟩:=(QA HS).at 0 (by simp)
    simp only[List.getElem_cons_zero]at hgc
    have htl:=QA Hlt t0 (by simp)
    have CV:=QB (fun V=>value_ref t0 V (by omega))
    have CN:=QB (fun V=>number_ref t0 V (by omega))
    have h0I:(0:Int)<((t0::ts).length:Int):=by simp only[List.length_cons];omega
    have h0b:(((t0::ts).length:Int)==0)=false:=by simp only[beq_eq_false_iff_ne,List.length_cons];omega
    have h0l:(t0::ts).length≤8:=hn
    generalize (t0::ts).length=N at *
    unfold Rf.lastNum at hX2
    generalize Rf.value t0=VV at *
    generalize Strd.number t0=NN at *
    have C1:=QB (fun lo hi V=>in_r (VV.getD 0) lo hi V)
    have C2:=QB (fun lo hi V=>in_r (NN.getD 0) lo hi V)
    generalize VV.getD 0=v at *
    generalize NN.getD 0=m at *
    cases q1:(wd==[109,111,118,101,113]) with
    |true=>
     as_aux_lemma=>
      have HF:Hid (X=Strd.within v (-0x80) 0x7f):=QB (by rw[hX2,if_pos (by simpa using q1)])
      clear hX2
      go_wp2_with (first
       |(go_at_call 114;refine(QA CV _).mono ?_;rintro e w1 ⟨rfl,hw1⟩;have hw1':=hw1.symm;subst hw1')
       |(go_at_call 74;refine(QA CN _).mono ?_;rintro e w1 ⟨rfl,hw1⟩;have hw1':=hw1.symm;subst hw1')
       |(go_at_call 115;refine(QA C1 _ _ _).mono ?_;rintro e w1 ⟨rfl,hw1⟩;have hw1':=hw1.symm;subst hw1'))
      go_ret
      exact⟨by rw[QA HF];rfl,hbw⟩
    |false=>
     rw[if_neg (by simpa using q1)]at hX2
     cases q2:(wd==[97,100,100,105]) with
     |true=>
      as_aux_lemma=>
       have HF:Hid (X=Strd.within v (-0x8000) 0xffff):=QB (by rw[hX2,if_pos (by simpa using q2)])
       clear hX2
       go_wp2_with (first
        |(go_at_call 114;refine(QA CV _).mono ?_;rintro e w1 ⟨rfl,hw1⟩;have hw1':=hw1.symm;subst hw1')
        |(go_at_call 74;refine(QA CN _).mono ?_;rintro e w1 ⟨rfl,hw1⟩;have hw1':=hw1.symm;subst hw1')
        |(go_at_call 115;refine(QA C1 _ _ _).mono ?_;rintro e w1 ⟨rfl,hw1⟩;have hw1':=hw1.symm;subst hw1'))
       go_ret
       exact⟨by rw[QA HF];rfl,hbw⟩
     |false=>
      rw[if_neg (by simpa using q2)]at hX2
      cases q3:(wd==[100,115]) with
      |true=>
       as_aux_lemma=>
        have HF:Hid (X=Strd.within m 0 0x400):=QB (by rw[hX2,if_pos (by simpa using q3)])
        clear hX2
        go_wp2_with (first
         |(go_at_call 114;refine(QA CV _).mono ?_;rintro e w1 ⟨rfl,hw1⟩;have hw1':=hw1.symm;subst hw1')
         |(go_at_call 74;refine(QA CN _).mono ?_;rintro e w1 ⟨rfl,hw1⟩;have hw1':=hw1.symm;subst hw1')
         |(go_at_call 115;refine(QA C2 _ _ _).mono ?_;rintro e w1 ⟨rfl,hw1⟩;have hw1':=hw1.symm;subst hw1'))
        go_ret
        exact⟨by rw[QA HF];rfl,hbw⟩
      |false=>
       rw[if_neg (by simpa using q3)]at hX2
       cases q4:(wd==[97,108,105,103,110]) with
       |true=>
        as_aux_lemma=>
         rw[if_pos (by simpa using q4)]at hX2
         unfold Strd.isPow at hX2
         go_upto_region 25 with (first
          |(go_at_call 114;refine(QA CV _).mono ?_;rintro e w1 ⟨rfl,hw1⟩;have hw1':=hw1.symm;subst hw1')
          |(go_at_call 74;refine(QA CN _).mono ?_;rintro e w1 ⟨rfl,hw1⟩;have hw1':=hw1.symm;subst hw1'))
         clear CV CN C1 C2
         cases p2:(m==2) with
         |true=>
          have HF:Hid (X=true):=QB (by rw[hX2];simp[*])
          clear hX2
          go_wp2
          go_ret
          exact⟨by rw[QA HF];rfl,hbw⟩
         |false=>
          cases p4:(m==4) with
          |true=>
           have HF:Hid (X=true):=QB (by rw[hX2];simp[*])
           clear hX2
           go_wp2
           go_ret
           exact⟨by rw[QA HF];rfl,hbw⟩
          |false=>
           cases p8:(m==8) with
           |true=>
            have HF:Hid (X=true):=QB (by rw[hX2];simp[*])
            clear hX2
            go_wp2
            go_ret
            exact⟨by rw[QA HF];rfl,hbw⟩
           |false=>
            cases p16:(m==16) with
            |true=>
             have HF:Hid (X=true):=QB (by rw[hX2];simp[*])
             clear hX2
             go_wp2
             go_ret
             exact⟨by rw[QA HF];rfl,hbw⟩
            |false=>
             cases p32:(m==32) with
             |true=>
              have HF:Hid (X=true):=QB (by rw[hX2];simp[*])
              clear hX2
              go_wp2
              go_ret
              exact⟨by rw[QA HF];rfl,hbw⟩
             |false=>
              cases p64:(m==64) with
              |true=>
               have HF:Hid (X=true):=QB (by rw[hX2];simp[*])
               clear hX2
               go_wp2
               go_ret
               exact⟨by rw[QA HF];rfl,hbw⟩
              |false=>
               cases p128:(m==128) with
               |true=>
                have HF:Hid (X=true):=QB (by rw[hX2];simp[*])
                clear hX2
                go_wp2
                go_ret
                exact⟨by rw[QA HF];rfl,hbw⟩
               |false=>
                cases p256:(m==256) with
                |true=>
                 have HF:Hid (X=true):=QB (by rw[hX2];simp[*])
                 clear hX2
                 go_wp2
                 go_ret
                 exact⟨by rw[QA HF];rfl,hbw⟩
                |false=>
                 have HF:Hid (X=false):=QB (by rw[hX2];simp[*])
                 clear hX2
                 go_wp2
                 go_ret
                 exact⟨by rw[QA HF] <;> first|rfl|simp,hbw⟩
       |false=>
        rw[if_neg (by simpa using q4)]at hX2
        cases q5:(wd==[111,114,103]) with
        |true=>
         as_aux_lemma=>
          rw[if_pos (by simpa using q5)]at hX2
          have C3:=QB (fun V=>QA C2 0 16777214 V)
          generalize Strd.within m 0 16777214=IN at *
          cases IN with
          |true=>
           have HF:Hid (X=(m.tmod 2==0)):=QB (by rw[hX2,Rf.tmod_beq];rfl)
           clear hX2
           go_wp2_with (first
            |(go_at_call 114;refine(QA CV _).mono ?_;rintro e w1 ⟨rfl,hw1⟩;have hw1':=hw1.symm;subst hw1')
            |(go_at_call 74;refine(QA CN _).mono ?_;rintro e w1 ⟨rfl,hw1⟩;have hw1':=hw1.symm;subst hw1')
            |(go_at_call 115;refine(QA C3 _).mono ?_;rintro e w1 ⟨rfl,hw1⟩;have hw1':=hw1.symm;subst hw1'))
           go_ret
           exact⟨by rw[QA HF] <;> first|rfl|simp,hbw⟩
          |false=>
           have HF:Hid (X=false):=QB (by rw[hX2];rfl)
           clear hX2
           go_wp2_with (first
            |(go_at_call 114;refine(QA CV _).mono ?_;rintro e w1 ⟨rfl,hw1⟩;have hw1':=hw1.symm;subst hw1')
            |(go_at_call 74;refine(QA CN _).mono ?_;rintro e w1 ⟨rfl,hw1⟩;have hw1':=hw1.symm;subst hw1')
            |(go_at_call 115;refine(QA C3 _).mono ?_;rintro e w1 ⟨rfl,hw1⟩;have hw1':=hw1.symm;subst hw1'))
           go_ret
           exact⟨by rw[QA HF];rfl,hbw⟩
        |false=>
         as_aux_lemma=>
          have HF:Hid (X=true):=QB (by rw[hX2,if_neg (by simpa using q5)])
          clear hX2
          go_wp2_with (first
           |(go_at_call 114;refine(QA CV _).mono ?_;rintro e w1 ⟨rfl,hw1⟩;have hw1':=hw1.symm;subst hw1')
           |(go_at_call 74;refine(QA CN _).mono ?_;rintro e w1 ⟨rfl,hw1⟩;have hw1':=hw1.symm;subst hw1'))
          go_ret
          exact⟨by rw[QA HF];rfl,hbw⟩
namespace Rf
def encLab (p:Strd.Bs×Int):List Value:=[.string (bstr p.1),.int .i64 p.2]
def ZD (l:List (Strd.Bs×Int)):List Value:=l.flatMap encLab
def Z0 (base:Nat) (w:World) (v:Value) (l:List (Strd.Bs×Int)):Prop:=w.ownsRow base 37 2 v l.length (ZD l)
theorem Z0.below {base:Nat} {w w':World} {v:Value} {l:List (Strd.Bs×Int)} (h:Z0 base w v l) (hb:Below w.heap.size w w'):Z0 base w' v l:=QO h hb
theorem Z0.shape {base:Nat} {w:World} {v:Value} {l:List (Strd.Bs×Int)} (h:Z0 base w v l):∃p cap,v=.slice p l.length cap:=by
 rcases h.2 with ⟨rfl,h0⟩|⟨g,cap,cur,rfl,_⟩
 ·exact⟨none,0,by rw[h0]⟩
 ·exact⟨_,_,rfl⟩
theorem Z0.at {base:Nat} {w:World} {p:Option Addr} {n cap:Nat} {l:List (Strd.Bs×Int)} (h:Z0 base w (.slice p n cap) l) (i:Nat) (hi:i<l.length) :
  ∃b,p=some ⟨b,0,none⟩∧n=l.length∧b<w.heap.size∧w.cell? ⟨b,i*2,none⟩=some (.string (bstr l[i].1))∧w.cell? ⟨b,i*2+1,none⟩=some (.int .i64 l[i].2):=by
 obtain⟨b,hp,hn,_,hb,hc⟩:=ownsRow_cell h (by omega)
 have e:l[i]? = some l[i]:=gE hi
 have h0:=flatMap_get encLab 2 (fun _=>rfl) l i 0 l[i] e (by omega)
 have h1:=flatMap_get encLab 2 (fun _=>rfl) l i 1 l[i] e (by omega)
 exact⟨b,hp,hn,hb,hc _ _ (by simpa [ZD,encLab] using h0),hc _ _ (by simpa [ZD,encLab] using h1)⟩
theorem look_drop (l:List (Strd.Bs×Int)) (s:Strd.Bs) (i:Nat) (hi:i<l.length):look (l.drop i) s=if l[i].1=s then some l[i].2 else look (l.drop (i+1)) s:=by
 rw[List.drop_eq_getElem_cons hi]
 unfold look
 rw[List.find?_cons]
 by_cases h:l[i].1=s
 ·have hb:(l[i].1==s)=true:=by simpa using h
  rw[hb,if_pos h];rfl
 ·have hb:(l[i].1==s)=false:=by simpa using h
  rw[hb,if_neg h]
end Rf
theorem to_ref (labs:List (Strd.Bs×Int)) (s:Strd.Bs) (g base:Nat) (p:Option Addr) (cap:Nat) (w:World) (hc:w.cell? ⟨g,5,none⟩=some (.slice p labs.length cap)) (hg:g<w.heap.size) (hL:Rf.Z0 base w (.slice p labs.length cap) labs) (hl:s.length≤2^40) (hn:labs.length≤2^40) :
  Calls Tryz.prog 77 #[.pointer (some ⟨g,0,none⟩),.string (bstr s)] w fun e w'=>e=.returned (.tuple #[.int .i64 ((Rf.place labs s).getD 0),.bool (Rf.place labs s).isSome])∧w'=w:=by
 have CN:=QB (fun W=>number_ref s W hl)
 generalize hX:Rf.place labs s=X
 unfold Rf.place at hX
 cases hN:Strd.number s with
 |some n=>
  rw[hN]at hX CN
  have HX:Hid (X=some n):=QB hX.symm
  clear hX hN
  go_enter Tryz.func77,Tryz.ntmps77
  go_wp2_with (go_at_call 74;refine(QA CN _).mono ?_;rintro e w1 ⟨rfl,hw1⟩;have hw1':=hw1.symm;subst hw1')
  go_ret2
  exact⟨by rw[QA HX];rfl,rfl⟩
 |none=>
  rw[hN]at hX CN
  have HX:Hid (Rf.look labs s=X):=QB hX
  have HL:=QB hL
  clear hX hN hL
  go_enter Tryz.func77,Tryz.ntmps77
  go_wp2_with (go_at_call 74;refine(QA CN _).mono ?_;rintro e w1 ⟨rfl,hw1⟩;have hw1':=hw1.symm;subst hw1')
  clear CN
  go_loopw [8] (fun c8 wr=>∃i:Nat,i≤labs.length∧c8=.int .i64 i∧Rf.look (labs.drop i) s=X∧wr=w) (fun c _=>labs.length-(intOf c).toNat)
  case atStart=>exact⟨0,by omega,rfl,QA HX,rfl⟩
  case round=>
   clear HX
   obtain⟨i,hi,rfl,hlk,hwr⟩:=hrel
   have hwr':=hwr.symm
   subst hwr'
   by_cases hlt:i<labs.length
   ·obtain⟨b,rfl,_,hbl,c0,c1⟩:=(QA HL).at i hlt
    rw[Rf.look_drop labs s i hlt]at hlk
    have hltI:(i:Int)<(labs.length:Int):=by omega
    have hw1:IntKind.i64.wrap ((i:Int)+1)=(i:Int)+1:=IntWalk.i64_in _ (by omega)
    generalize labs[i].1=nm at *
    generalize labs[i].2=pl at *
    by_cases he:nm=s
    ·rw[if_pos he]at hlk
     have HX:Hid (X=some pl):=QB hlk.symm
     have hb:(nm==s)=true:=by rw[list_beq];simp[he]
     clear he hlk
     go_wp2
     go_ret2
     exact⟨by rw[QA HX];rfl,rfl⟩
    ·rw[if_neg he]at hlk
     have HX:=QB hlk
     have hb:(nm==s)=false:=by rw[list_beq];simp[he]
     clear he hlk
     go_wp2
     go_roundw
     case rel=>exact⟨i+1,by omega,by go_num,QA HX,trivial⟩
     case measure=>simp[intOf];omega
   ·obtain rfl:i=labs.length:=by omega
    rw[List.drop_length]at hlk
    have HX:Hid (X=none):=QB hlk.symm
    clear hlk
    go_wp2
    go_ret2
    exact⟨by rw[QA HX];rfl,rfl⟩
namespace Rf
theorem byteB_enc (x:Int):encB (Strd.byteB x)=.int .u8 (x % 256):=encB_rem x
theorem two_fresh (w:World) (x y:Int):Q1 0 (w.alloc (.cells #[.int .u8 (x % 256),.int .u8 (y % 256)] 5)) (.slice (some ⟨w.heap.size,0,none⟩) 2 2) [Strd.byteB x,Strd.byteB y]:=
 bytes_fresh w [Strd.byteB x,Strd.byteB y] #[.int .u8 (x % 256),.int .u8 (y % 256)] (by simp[byteB_enc]) (by simp)
theorem BytesAt_below {base:Nat} {w w':World} {v:Value} {bs:Strd.Bs} (h:Q1 base w v bs) (hb:Below w.heap.size w w'):Q1 base w' v bs:=QO h hb
end Rf
theorem jump_ref (s:Strd.Bs) (form a t:Int) (w:World) (hl:s.length≤2^40) (ha:-2^40≤a∧a≤2^40) (ht:-2^40≤t∧t≤2^40) (hf:form=1∨form=2∨form=3):Calls Tryz.prog 117 #[.string (bstr s),.int .i64 form,.int .i64 a,.int .i64 t] w fun e w'=>e=.returned (.string (bstr (Rf.jumpB s form a t)))∧Below w.heap.size w w':=by
 have CC:=QB (condition_ref s w hl)
 have hcr:=Rf.cond_rng s
 generalize hX:Rf.jumpB s form a t=X
 unfold Rf.jumpB at hX
 generalize Rf.condition s=c at *
 have hw1:IntKind.i64.wrap (t-a)=t-a:=IntWalk.i64_in _ (by omega)
 have hw2:IntKind.i64.wrap (t-a-2)=t-a-2:=IntWalk.i64_in _ (by omega)
 have hw3:IntKind.i64.wrap (96+c)=96+c:=IntWalk.i64_in _ (by omega)
 generalize hd:t-a-2=d at *
 obtain⟨jm,hjm,hjmv⟩:∃jm:Int,(if s=[106,115,114]∨s=[98,115,114] then (0x4eb9:Int) else 0x4ef9)=jm∧(jm=20153∨jm=20217):=by
  by_cases h:s=[106,115,114]∨s=[98,115,114]
  ·exact⟨20153,by rw[if_pos h],.inl rfl⟩
  ·exact⟨20217,by rw[if_neg h],.inr rfl⟩
 rw[hjm]at hX
 have HX:=QB hX
 have Hjm:=QB hjm
 clear hX hjm
 go_enter Tryz.func117,Tryz.ntmps117
 go_upto_region 4 with (go_at_call 109;refine(QA CC).mono ?_;rintro e w1 ⟨rfl,hb1⟩)
 go_cut [24] (fun c24 wq=>c24=.bool (decide (s=[106,115,114]∨s=[98,115,114]))∧wq=w1)
 case first=>
  clear HX Hjm
  cases q1:(s==[106,115,114]) with
  |true=>
   have HG:Hid (decide (s=[106,115,114]∨s=[98,115,114])=true):=QB (by rw[list_beq]at q1;simp at q1;simp[q1])
   go_wp2
   go_meet
   exact⟨by rw[QA HG],rfl⟩
  |false=>
   have HG:Hid (decide (s=[106,115,114]∨s=[98,115,114])=(s==[98,115,114])):=QB (by rw[list_beq]at q1 ⊢;simp at q1;simp[q1])
   go_wp2
   go_meet
   exact⟨by rw[QA HG],rfl⟩
 case rest=>
  obtain⟨rfl,hwq⟩:=hcut
  have hwq':=hwq.symm
  subst hwq'
  go_upto_if 24 with fail
  go_cut [11] (fun c11 wq=>c11=.int .i64 jm∧wq=w1)
  case first=>
   clear HX
   by_cases q:s=[106,115,114]∨s=[98,115,114]
   ·have hD:decide (s=[106,115,114]∨s=[98,115,114])=true:=by simp only[q,decide_true]
    have HG:Hid (jm=20153):=QB (by rw[←QA Hjm,if_pos q])
    rw[hD]
    clear hD q Hjm
    go_wp2
    go_meet
    exact⟨by rw[QA HG],rfl⟩
   ·have hD:decide (s=[106,115,114]∨s=[98,115,114])=false:=by simp only[q,decide_false]
    have HG:Hid (jm=20217):=QB (by rw[←QA Hjm,if_neg q])
    rw[hD]
    clear hD q Hjm
    go_wp2
    go_meet
    exact⟨by rw[QA HG],rfl⟩
  case rest=>
   obtain⟨rfl,hwq⟩:=hcut
   have hwq':=hwq.symm
   subst hwq'
   clear Hjm
   have CWd:=QB (fun W=>word_r d W)
   have CWj:=QB (fun W=>word_r jm W)
   have CWj1:=QB (fun W=>word_r (jm-1) W)
   have CWt:=QB (fun W=>word_r t W)
   have CLt:=QB (fun W=>long_r t W)
   have hlw:∀x,(Strd.QI x).length=2:=fun _=>rfl
   have hwj:IntKind.i64.wrap (jm-1)=jm-1:=IntWalk.i64_in _ (by omega)
   rcases hf with rfl|rfl|rfl
   ·
    as_aux_lemma=>
     have HF:Hid (X=[Strd.byteB (0x60+c),Strd.byteB d]):=QB (by rw[←QA HX,if_pos rfl])
     have hconv:=Rf.conv88 (Rf.two_fresh w1 (96+c) d)
     have hba:=QF w1 (.cells #[.int .u8 ((96+c) % 256),.int .u8 (d % 256)] 5)
     rw[show (96+c) % 256=96+c by omega]at hconv hba
     clear HX
     go_wp2
     go_ret
     exact⟨by rw[QA HF];rfl,QE hb1 hba⟩
   ·by_cases q:0≤c
    ·
     as_aux_lemma=>
      have HF:Hid (X=[Strd.byteB (0x60+c),0]++Strd.QI d):=QB (by rw[←QA HX,if_neg (by decide),if_pos rfl,if_pos q])
      have hwu:IntKind.u8.wrap (96+c)=96+c:=IntWalk.u8_in _ (by omega)
      have hcc:(96+c) % 256=96+c:=by omega
      have hfr:∀W:World,Q1 0 (W.alloc (.cells #[.int .u8 (96+c),.int .u8 0] 5)) (.slice (some ⟨W.heap.size,0,none⟩) 2 2) [Strd.byteB (96+c),0]:=fun W=>by
       have:=Rf.two_fresh W (96+c) 0
       rw[hcc]at this
       exact this
      have hfd:Q1 0 (w1.alloc (.cells #[.int .u8 (96+c),.int .u8 0] 5)).drew (.slice (some ⟨w1.heap.size,0,none⟩) 2 2) [Strd.byteB (96+c),0]:=hfr w1
      have hconv1:=Rf.conv88 hfd
      have hbd:Below w1.heap.size w1 (w1.alloc (.cells #[.int .u8 (96+c),.int .u8 0] 5)).drew:=QW (QF _ _)
      have hbd0:Below w1.heap.size w1 w1.drew:=QW (Below.refl _ _)
      have l2:=hlw d
      generalize Strd.QI d=B at *
      have s1:¬9223372036854775807<2+List.length B:=by omega
      clear HX hlw
      go_upto_region 9 with fail
      go_region_with (go_at_call 116;refine(QA CWd _).mono ?_;rintro e w2 ⟨rfl,hb2⟩;(first|(have hconv2:=Rf.conv88 (Rf.BytesAt_below hfd hb2);have hb3:=QE hbd hb2)|(have hconv3:=Rf.conv88 (hfr w2);have hb3:=QE hbd0 (QE hb2 (QF w2 (.cells #[.int .u8 (96+c),.int .u8 0] 5))))))
      all_goals go_wp2
      all_goals go_ret
      all_goals exact⟨by rw[QA HF];exact congrArg (fun b=>Ending.returned (Value.string b)) (QZ (by simp)),QE hb1 hb3⟩
    ·
     as_aux_lemma=>
      have HF:Hid (X=Strd.QI (jm-1)++Strd.QI t):=QB (by rw[←QA HX,if_neg (by decide),if_pos rfl,if_neg q])
      have l1:=hlw (jm-1)
      have l2:=hlw t
      generalize Strd.QI (jm-1)=A at *
      generalize Strd.QI t=B at *
      have s1:¬9223372036854775807<List.length A+List.length B:=by omega
      clear HX hlw
      go_wp2_with fail
      refine(QA CWj1 _).mono ?_
      rintro e w2 ⟨rfl,hb2⟩
      go_wp2_with fail
      refine(QA CWt _).mono ?_
      rintro e w3 ⟨rfl,hb3⟩
      go_wp2
      go_ret
      exact⟨by rw[QA HF];exact congrArg (fun b=>Ending.returned (Value.string b)) (QZ (by simp)),QE hb1 (QE hb2 hb3)⟩
   ·by_cases q:2≤c
    ·
     as_aux_lemma=>
      obtain⟨ot,hot,hotr⟩:∃ot:Int,(if c % 2=1 then c-1 else c+1)=ot∧0≤ot∧ot≤16:=by
       by_cases h:c % 2=1
       ·exact⟨c-1,by rw[if_pos h],by omega,by omega⟩
       ·exact⟨c+1,by rw[if_neg h],by omega,by omega⟩
      have HF:Hid (X=[Strd.byteB (0x60+ot),6]++Strd.QI jm++(Strd.QI (t / 65536)++Strd.QI t)):=QB (by rw[←QA HX,if_neg (by decide),if_neg (by decide),if_pos q,hot])
      have Hot:=QB hot
      clear HX hot
      have hwc:IntKind.i64.wrap (c+1)=c+1:=IntWalk.i64_in _ (by omega)
      have hwc2:IntKind.i64.wrap (c-1)=c-1:=IntWalk.i64_in _ (by omega)
      go_upto_if 66 with fail
      go_cut [12] (fun c12 wq=>c12=.int .i64 ot∧wq=w1)
      case first=>
       have hctm:c.tmod 2=c % 2:=Int.tmod_eq_emod_of_nonneg (by omega)
       by_cases h:c % 2=1
       ·have hb:(c.tmod 2==1)=true:=by rw[hctm,h];rfl
        have hb2:(c % 2==1)=true:=by rw[h];rfl
        have HG:Hid (ot=c-1):=QB (by rw[←QA Hot,if_pos h])
        clear Hot hctm h HF
        go_wp2
        go_meet
        exact⟨by rw[QA HG],rfl⟩
       ·have hb:(c.tmod 2==1)=false:=by rw[hctm];simpa using h
        have hb2:(c % 2==1)=false:=by simpa using h
        have HG:Hid (ot=c+1):=QB (by rw[←QA Hot,if_neg h])
        clear Hot hctm h HF
        go_wp2
        go_meet
        exact⟨by rw[QA HG],rfl⟩
      case rest=>
       obtain⟨rfl,hwq⟩:=hcut
       have hwq':=hwq.symm
       subst hwq'
       clear Hot
       have hw5:IntKind.i64.wrap (96+ot)=96+ot:=IntWalk.i64_in _ (by omega)
       have hwu:IntKind.u8.wrap (96+ot)=96+ot:=IntWalk.u8_in _ (by omega)
       have hcc:(96+ot) % 256=96+ot:=by omega
       have hfr:∀W:World,Q1 0 (W.alloc (.cells #[.int .u8 (96+ot),.int .u8 6] 5)) (.slice (some ⟨W.heap.size,0,none⟩) 2 2) [Strd.byteB (96+ot),6]:=fun W=>by
        have:=Rf.two_fresh W (96+ot) 6
        rw[hcc]at this
        exact this
       have hfd:Q1 0 (w1.alloc (.cells #[.int .u8 (96+ot),.int .u8 6] 5)).drew (.slice (some ⟨w1.heap.size,0,none⟩) 2 2) [Strd.byteB (96+ot),6]:=hfr w1
       have hconv1:=Rf.conv88 hfd
       have hbd:Below w1.heap.size w1 (w1.alloc (.cells #[.int .u8 (96+ot),.int .u8 6] 5)).drew:=QW (QF _ _)
       have hbd0:Below w1.heap.size w1 w1.drew:=QW (Below.refl _ _)
       have l1:=hlw jm
       have l2:(Strd.QI (t / 65536)++Strd.QI t).length=4:=rfl
       generalize Strd.QI jm=A at *
       generalize Strd.QI (t / 65536)++Strd.QI t=B at *
       have s1:¬9223372036854775807<2+List.length A:=by omega
       have s2:¬9223372036854775807<2+List.length A+List.length B:=by omega
       clear hlw
       go_upto_region 16 with fail
       go_region_with (first
        |(go_at_call 116;refine(QA CWj _).mono ?_;rintro e w2 ⟨rfl,hb2⟩;(first
         |(have hB2:=QE hbd hb2;have hf2:=Rf.BytesAt_below hfd hb2;have hc2:=Rf.conv88 hf2)
         |(have hB2:=QE hbd0 hb2;have hg2:=hfr w2;have hc2:=Rf.conv88 hg2)
         |(have hB2:=QE hB5 hb2;have hf2:=Rf.BytesAt_below hf5 hb2;have hc2:=Rf.conv88 hf2)
         |(have hB2:=QE hB5 hb2;have hg2:=hfr w2;have hc2:=Rf.conv88 hg2)
         |(have hB2:=QE (QE hB5 (QF w5 (.cells #[.int .u8 (96+ot),.int .u8 6] 5))) hb2;have hf2:=Rf.BytesAt_below hg5 hb2;have hc2:=Rf.conv88 hf2)))
        |(go_at_call 138;refine(QA CLt _).mono ?_;rintro e w5 ⟨rfl,hb5⟩;(first
         |(have hB5:=QE hbd hb5;have hf5:=Rf.BytesAt_below hfd hb5;have hc5:=Rf.conv88 hf5)
         |(have hB5:=QE hbd0 hb5;have hg5:=hfr w5;have hc5:=Rf.conv88 hg5)
         |(have hB5:=QE hB2 hb5;have hf5:=Rf.BytesAt_below hf2 hb5;have hc5:=Rf.conv88 hf5)
         |(have hB5:=QE hB2 hb5;have hg5:=hfr w5;have hc5:=Rf.conv88 hg5)
         |(have hB5:=QE (QE hB2 (QF w2 (.cells #[.int .u8 (96+ot),.int .u8 6] 5))) hb5;have hf5:=Rf.BytesAt_below hg2 hb5;have hc5:=Rf.conv88 hf5))))
       all_goals go_wp2
       all_goals go_ret
       all_goals refine⟨by rw[QA HF];exact congrArg (fun b=>Ending.returned (Value.string b)) (QZ (by simp)),?_⟩
       all_goals first|exact QE hb1 hB2|exact QE hb1 hB5|exact QE hb1 (QE hB2 (QF _ _))|exact QE hb1 (QE hB5 (QF _ _))
    ·
     as_aux_lemma=>
      have HF:Hid (X=Strd.QI jm++(Strd.QI (t / 65536)++Strd.QI t)):=QB (by rw[←QA HX,if_neg (by decide),if_neg (by decide),if_neg q])
      have l1:=hlw jm
      have l2:(Strd.QI (t / 65536)++Strd.QI t).length=4:=rfl
      generalize Strd.QI jm=A at *
      generalize Strd.QI (t / 65536)++Strd.QI t=B at *
      have s1:¬9223372036854775807<List.length A+List.length B:=by omega
      clear HX hlw
      go_wp2_with fail
      refine(QA CWj _).mono ?_
      rintro e w2 ⟨rfl,hb2⟩
      go_wp2_with fail
      refine(QA CLt _).mono ?_
      rintro e w3 ⟨rfl,hb3⟩
      go_wp2
      go_ret
      exact⟨by rw[QA HF];exact congrArg (fun b=>Ending.returned (Value.string b)) (QZ (by simp)),QE hb1 (QE hb2 hb3)⟩
namespace Rf
def encL (x:Line×Sl):List Value:=[.int .i64 x.1.no,.string (bstr x.1.label),.string (bstr x.1.word),.int .i64 x.1.form,.slice x.2.1 x.2.2.1 x.2.2.2]
structure ZS (base:Nat) (w:World) (v:Value) (L:List Line) (qs:List (Line×Sl)):Prop where
 fst:qs.map (·.1)=L
 row:w.ownsRow base 144 5 v qs.length (qs.flatMap encL)
 texts:∀x∈qs,LineAt w x.2.1 x.2.2.1 x.2.2.2 x.1
theorem ZS.len {base:Nat} {w:World} {v:Value} {L:List Line} {qs:List (Line×Sl)} (h:ZS base w v L qs):qs.length=L.length:=by rw[←h.fst,List.length_map]
theorem LineAt.below {w w':World} {p:Option Addr} {n c:Nat} {l:Line} (h:LineAt w p n c l) (hb:Below w.heap.size w w'):LineAt w' p n c l:=⟨h.1,QO h.2 hb⟩
theorem ZS.below {base:Nat} {w w':World} {v:Value} {L:List Line} {qs:List (Line×Sl)} (h:ZS base w v L qs) (hb:Below w.heap.size w w'):ZS base w' v L qs:=
 ⟨h.fst,QO h.row hb,fun x hx=>(h.texts x hx).below hb⟩
theorem ZS.shape {base:Nat} {w:World} {v:Value} {L:List Line} {qs:List (Line×Sl)} (h:ZS base w v L qs):∃p cap,v=.slice p L.length cap:=by
 rw[←h.len]
 rcases h.row.2 with ⟨rfl,h0⟩|⟨g,cap,cur,rfl,_⟩
 ·exact⟨none,0,by rw[h0]⟩
 ·exact⟨_,_,rfl⟩
theorem ZS.at {base:Nat} {w:World} {p:Option Addr} {n cap:Nat} {L:List Line} {qs:List (Line×Sl)} (h:ZS base w (.slice p n cap) L qs) (i:Nat) (hi:i<L.length) :
  ∃b,∃(q:Sl),p=some ⟨b,0,none⟩∧n=L.length∧b<w.heap.size∧w.cell? ⟨b,i*5,none⟩=some (.int .i64 L[i].no)∧w.cell? ⟨b,i*5+1,none⟩=some (.string (bstr L[i].label))∧w.cell? ⟨b,i*5+2,none⟩=some (.string (bstr L[i].word))∧w.cell? ⟨b,i*5+3,none⟩=some (.int .i64 L[i].form)∧w.cell? ⟨b,i*5+4,none⟩=some (.slice q.1 q.2.1 q.2.2)∧LineAt w q.1 q.2.1 q.2.2 L[i]:=by
 have hl:=h.len
 obtain⟨b,hp,hn,_,hb,hc⟩:=ownsRow_cell h.row (by omega)
 have e:qs[i]? = some qs[i]:=gE (by omega)
 have hf:qs[i].1=L[i]:=by
  have:=h.fst
  subst this
  simp
 have hx:=h.texts qs[i] (List.getElem_mem _)
 have h0:=flatMap_get encL 5 (fun _=>rfl) qs i 0 qs[i] e (by omega)
 have h1:=flatMap_get encL 5 (fun _=>rfl) qs i 1 qs[i] e (by omega)
 have h2:=flatMap_get encL 5 (fun _=>rfl) qs i 2 qs[i] e (by omega)
 have h3:=flatMap_get encL 5 (fun _=>rfl) qs i 3 qs[i] e (by omega)
 have h4:=flatMap_get encL 5 (fun _=>rfl) qs i 4 qs[i] e (by omega)
 rw[←hf]
 exact⟨b,qs[i].2,hp,by rw[hn,hl],hb,hc _ _ (by simpa [encL] using h0),hc _ _ (by simpa [encL] using h1),hc _ _ (by simpa [encL] using h2),hc _ _ (by simpa [encL] using h3),hc _ _ (by simpa [encL] using h4),hx⟩
structure PrgAt (base:Nat) (w:World) (g:Nat) (org en:Int) (L:List Line) (qs:List (Line×Sl)) (Fs As:List Int) (labs:List (Strd.Bs×Int)):Prop where
 box:∃pl cl pf cf pa ca pb cb,w.heap[g]? = some (.cells #[.int .i64 org,.slice pl L.length cl,.slice pf Fs.length cf,.slice pa As.length ca,.int .i64 en,.slice pb labs.length cb] 108 (0,0))∧ZS base w (.slice pl L.length cl) L qs∧ZO 3 base w (.slice pf Fs.length cf) Fs∧ZO 3 base w (.slice pa As.length ca) As∧Z0 base w (.slice pb labs.length cb) labs
 gb:base≤g
theorem PrgAt.below {base:Nat} {w w':World} {g:Nat} {org en:Int} {L:List Line} {qs:List (Line×Sl)} {Fs As:List Int} {labs:List (Strd.Bs×Int)} (h:PrgAt base w g org en L qs Fs As labs) (hb:Below w.heap.size w w'):PrgAt base w' g org en L qs Fs As labs:=by
 obtain⟨⟨pl,cl,pf,cf,pa,ca,pb,cb,h1,h2,h3,h4,h5⟩,h6⟩:=h
 exact⟨⟨pl,cl,pf,cf,pa,ca,pb,cb,bbox hb h1,h2.below hb,h3.below hb,h4.below hb,h5.below hb⟩,h6⟩
end Rf
end Go.Proofs.YtegiloiojloaoaaGreatDoor
