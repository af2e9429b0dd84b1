/- The reference's Names: the least that is above the last, again and again. -/
import Derived.Test.YtegiloiojloaoaaGreatDoorCSpec
import Derived.Test.YtegiloiojloaoaaGreatDoorCRef31
import Derived.Test.YtegiloiojloaoaaGreatDoorCRf0
import Derived.Sort.Walk0
import Derived.Deep.CutBlock
import Derived.Deep.DeepCutAuto
import Derived.Test.YtegiloiojloaoaaGreatDoorCNms
import Derived.Test.YtegiloiojloaoaaGreatDoorCAsmL
set_option linter.unusedVariables false
set_option linter.unusedSimpArgs false
set_option maxHeartbeats 8000000
set_option maxRecDepth 1000000
namespace Go.Proofs.YtegiloiojloaoaaGreatDoor
open Go.RowKit Go.Shelf Go.Sort Go.Maps
namespace Rf
def lenOf:Value→Nat
 |.slice _ n _=>n
 |_=>0
theorem best_rng (xs:List (Strd.Bs×Int)) (last:Option Strd.Bs) (i:Nat):-1≤bestTo xs last i∧bestTo xs last i<i:=by
 rcases best_spec xs last i with ⟨h1,_⟩|⟨b,h1,h2,_⟩
 ·rw[h1];omega
 ·rw[h1];omega
theorem above_eq (x y:Strd.Bs):(!Op.bytesLess x y&&!x==y)=decide (y<x):=by
 rw[bytesLess_eq]
 by_cases h1:x<y
 ·have:¬y<x:=fun h=>List.lt_asymm h1 h
  simp[h1,this]
 ·by_cases h2:x=y
  ·subst h2
   simp
  ·have h3:y<x:=by
    rcases List.le_iff_lt_or_eq.1 (List.not_lt.1 h1) with h|h
    ·exact h
    ·exact(h2 h.symm).elim
   simp[h1,h2,h3]
theorem row_at2 {w:World} {base n c:Nat} {p:Option Addr} {l:List (Strd.Bs×Int)} (h:w.ownsRow base 37 2 (.slice p n c) n (ZD l)) (hn:l.length=n) (i:Nat) (hi:i<l.length):∃b,p=some ⟨b,0,none⟩∧b<w.heap.size∧w.cell? ⟨b,i*2,none⟩=some (.string (bstr l[i].1))∧w.cell? ⟨b,i*2+1,none⟩=some (.int .i64 l[i].2):=by
 subst hn
 obtain⟨b,h1,_,h3,h4,h5⟩:=Z0.at h i hi
 exact⟨b,h1,h3,h4,h5⟩
end Rf
theorem Names_refS (s:Strd.Bs) (S:List (Strd.Bs×Int)) (w:World) (hsl:s.length≤9223372036854775807)
  (hSr:∀r L n,Strd.QM s=(r,0,0)→Rf.Rel n r L→(Strd.assemble s).2.2=0→S.Perm (Rf.labsTo L (Rf.stL r.org L) L.length)∧S.Pairwise fun a b=>a.1<b.1) (hSe:(Strd.assemble s).2.2≠0→S=[]) :
  Calls Tryz.prog 29 #[.string (bstr s)] w fun e w'=>∃p c,e=.returned (.tuple #[.slice p S.length c,.int .i64 (Strd.assemble s).2.1,.int .i64 (Strd.assemble s).2.2])∧w'.ownsRow w.heap.size 37 2 (.slice p S.length c) S.length (Rf.ZD S)∧Below w.heap.size w w':=by
 obtain⟨i0,hi0,hz0,hz1,hz2⟩:=info_parts Rf.info37r
 have CM:=QB (Made_ref s w hsl)
 have Hasm:=QB (fun r L n hr hR=>Rf.asm_ref s r L n hr hR)
 generalize hAe:Strd.assemble s=A at *
 have HAe:=QB hAe
 have HSr:=QB hSr
 have HSe:=QB hSe
 clear hAe hSr hSe
 go_enter Tryz.func29,Tryz.ntmps29
 go_wp2_with fail
 refine(QA CM).mono ?_
 intro e w1 hQ
 rcases hQ with ⟨n,er,hne,hA,rfl,hb1⟩|⟨g,k0,r,L,qs,en,pl,cl,pf,cf,pa,ca,pb,cb,rfl,hX,hR,hLn,hor,hbn,hmn,hon,hen,hP,hb1⟩
 ·
  as_aux_lemma=>
   have hA':A=((0,[]),n,er):=by rw[←QA HAe];exact hA
   have hS0:S=[]:=QA HSe (by rw[hA'];exact hne)
   subst hA'
   subst hS0
   clear hA CM Hasm HSr HSe HAe
   go_wp2
   refine bodyPost_ret (v:=.tuple #[.slice none 0 0,.int .i64 (n:Int),.int .i64 er]) (by simp[results,Tryz.results29]) rfl ?_
   exact⟨none,0,rfl,World.ownsRow_nil _ _ _ _,hb1⟩
 ·have hA:=QA Hasm r L k0 hX hR
  rw[hbn,if_neg (by decide),if_neg hmn,hon,if_neg (by decide),if_neg hen]at hA
  obtain⟨hSp,hSs⟩:=QA HSr r L k0 hX hR (by rw[hA])
  have hA0:A.2=(0,0):=by rw[hA]
  have hll:=Rf.labsTo_len L (Rf.stL r.org L) L.length
  generalize Rf.labsTo L (Rf.stL r.org L) L.length=LB at *
  have HSl:=QB hSp.length_eq
  have HSp:=QB hSp
  have HSs:=QB hSs
  have HP:=QB hP
  obtain⟨A1,A2,A3⟩:=A
  simp only[Prod.mk.injEq]at hA0
  obtain⟨rfl,rfl⟩:=hA0
  clear hA hSp hSs hP hR hX hbn hmn hon hen HAe Hasm HSr HSe CM
  go_wp2_with fail
  go_loopw [8] (fun c8 wr=>∃(k:Nat) (p:Option Addr) (c:Nat),k≤S.length∧c8=.slice p k c∧wr.ownsRow w1.heap.size 37 2 (.slice p k c) k (Rf.ZD (S.take k))∧Below w1.heap.size w1 wr) (fun c _=>LB.length-Rf.lenOf c)
  case atStart=>exact⟨0,none,0,by omega,rfl,World.ownsRow_nil _ _ _ _,Below.refl _ _⟩
  case round=>
   obtain⟨k,p8,c8,hk,rfl,hrow,hBr⟩:=hrel
   have hPr:=(QA HP).below hBr
   have r5:=QC hPr.box 5
   simp only[gA,gZ,gS]at r5
   have hgl:=QD hPr.box
   have HLr:=QB hPr.labs
   have Hrow:=QB hrow
   clear hrow hPr
   by_cases hlt:k<S.length
   ·obtain⟨b,hbl,hbe,hbx⟩:=Rf.best_is LB S (QA HSp) (QA HSs) k hlt
    have hkI:(k:Int)<(LB.length:Int):=by have:=QA HSl;omega
    go_upto_block 2 with fail
    go_cut [9] (fun c9 wz=>c9=.int .i64 (b:Int)∧wz=wr)
    case first=>
     as_aux_lemma=>
      go_wp2_with fail
      go_loopw [9,10] (fun c9 c10 wv=>∃i:Nat,i≤LB.length∧c10=.int .i64 i∧c9=.int .i64 (Rf.bestTo LB (Rf.lastOf S k) i)∧wv=wr) (fun _ c _=>LB.length-(intOf c).toNat)
      case atStart=>exact⟨0,by omega,rfl,rfl,rfl⟩
      case round=>
       obtain⟨i,hi,rfl,rfl,hwv⟩:=hrel
       have hwv':=hwv.symm
       subst hwv'
       by_cases hli:i<LB.length
       ·obtain⟨bb,hpb,hxx,hbb,x0,_⟩:=(QA HLr).at i hli
        clear hxx
        subst hpb
        have hliI:(i:Int)<(LB.length:Int):=by omega
        have q1:IntKind.i64.wrap ((i:Int)+1)=(i:Int)+1:=IntWalk.i64_in _ (by omega)
        have hna:Rf.nameAt LB i=LB[i].1:=Rf.nameAt_get LB i hli
        go_upto_region 11 with fail
        go_cut [12] (fun c12 wz=>c12=.bool (Rf.aboveB (Rf.lastOf S k) LB[i].1)∧wz=wr)
        case first=>
         as_aux_lemma=>
          by_cases hk0:k=0
          ·have hkb:((k:Int)==0)=true:=by simp[hk0]
           have HAb:Hid (Rf.aboveB (Rf.lastOf S k) LB[i].1=true):=QB (by unfold Rf.lastOf;rw[if_pos hk0];rfl)
           clear hk0
           go_wp2
           go_meet
           exact⟨by rw[QA HAb],rfl⟩
          ·obtain⟨j,rfl⟩:∃j,k=j+1:=⟨k-1,by omega⟩
           have hkb:(((j+1:Nat):Int)==0)=false:=by simp;omega
           have hkb2:(((j:Int)+1)==0)=false:=by simp;omega
           obtain⟨bo,hpo,hbo,o0,_⟩:=Rf.row_at2 (QA Hrow) (by rw[List.length_take];omega) j (by rw[List.length_take];omega)
           subst hpo
           rw[List.getElem_take]at o0
           have HAb:Hid (Rf.aboveB (Rf.lastOf S (j+1)) LB[i].1=decide (S[j].1<LB[i].1)):=QB (by
            unfold Rf.lastOf
            rw[if_neg (by omega)]
            have e:(((j+1:Nat):Int)-1)=(j:Int):=by omega
            rw[e,Rf.nameAt_get S j (by omega)]
            rfl)
           have hjI:(j:Int)<((j+1:Nat):Int):=by omega
           have hjI2:(j:Int)<(j:Int)+1:=by omega
           have q2:IntKind.i64.wrap (((j+1:Nat):Int)-1)=(j:Int):=by rw[IntWalk.i64_in _ (by omega)];omega
           have q3:IntKind.i64.wrap ((j:Int)+1-1)=(j:Int):=by rw[IntWalk.i64_in _ (by omega)];omega
           generalize S[j].1=yj at *
           generalize LB[i].1=xi at *
           clear hk0
           go_wp2
           go_meet
           exact⟨by rw[QA HAb,←Rf.above_eq],rfl⟩
        case rest=>
         as_aux_lemma=>
          obtain⟨rfl,hwz⟩:=hcut
          have hwz':=hwz.symm
          subst hwz'
          have hbr:=Rf.best_rng LB (Rf.lastOf S k) i
          have Hbs:Hid (Rf.bestTo LB (Rf.lastOf S k) (i+1)=if Rf.aboveB (Rf.lastOf S k) LB[i].1=true∧(Rf.bestTo LB (Rf.lastOf S k) i<0∨LB[i].1<Rf.nameAt LB (Rf.bestTo LB (Rf.lastOf S k) i)) then (i:Int) else Rf.bestTo LB (Rf.lastOf S k) i):=QB (by rw[Rf.bestTo,hna])
          generalize hBN:Rf.bestTo LB (Rf.lastOf S k) (i+1)=BN at *
          have HBN:=QB hBN
          clear hBN
          generalize Rf.bestTo LB (Rf.lastOf S k) i=BT at *
          generalize Rf.aboveB (Rf.lastOf S k) LB[i].1=AB at *
          clear hna
          cases AB with
          |false=>
           have HB:Hid (BN=BT):=QB (by rw[QA Hbs,if_neg (by rintro ⟨h,_⟩;cases h)])
           clear Hbs
           go_wp2
           go_roundw
           case rel=>exact⟨i+1,by omega,by go_num,by rw[QA HBN,QA HB],by first|rfl|trivial⟩
           case measure=>simp[intOf];omega
          |true=>
           by_cases hneg:BT<0
           ·have HB:Hid (BN=(i:Int)):=QB (by rw[QA Hbs,if_pos ⟨rfl,.inl hneg⟩])
            clear Hbs
            go_wp2
            go_roundw
            case rel=>exact⟨i+1,by omega,by go_num,by rw[QA HBN,QA HB],by first|rfl|trivial⟩
            case measure=>simp[intOf];omega
           ·obtain⟨bt,rfl⟩:∃bt:Nat,BT=(bt:Int):=⟨BT.toNat,by omega⟩
            have hbtl:bt<LB.length:=by omega
            obtain⟨bb',hpb',hxx,_,y0,_⟩:=(QA HLr).at bt hbtl
            clear hxx
            cases hpb'
            have hbtI:(bt:Int)<(LB.length:Int):=by omega
            have hnb:Rf.nameAt LB (bt:Int)=LB[bt].1:=Rf.nameAt_get LB bt hbtl
            rw[hnb]at Hbs
            generalize LB[bt].1=yb at *
            generalize LB[i].1=xi at *
            clear hnb
            by_cases hxy:xi<yb
            ·have HB:Hid (BN=(i:Int)):=QB (by rw[QA Hbs,if_pos ⟨rfl,.inr hxy⟩])
             have hbl2:Op.bytesLess xi yb=true:=by rw[bytesLess_eq];simp[hxy]
             clear Hbs hxy
             go_wp2
             go_roundw
             case rel=>exact⟨i+1,by omega,by go_num,by rw[QA HBN,QA HB],by first|rfl|trivial⟩
             case measure=>simp[intOf];omega
            ·have HB:Hid (BN=(bt:Int)):=QB (by rw[QA Hbs,if_neg (fun h=>h.2.elim (fun h=>by omega) (fun h=>hxy h))])
             have hbl2:Op.bytesLess xi yb=false:=by rw[bytesLess_eq];simp[hxy]
             clear Hbs hxy
             go_wp2
             go_roundw
             case rel=>exact⟨i+1,by omega,by go_num,by rw[QA HBN,QA HB],by first|rfl|trivial⟩
             case measure=>simp[intOf];omega
       ·obtain rfl:i=LB.length:=by omega
        have hliI:¬(LB.length:Int)<(LB.length:Int):=by omega
        rw[hbe]
        go_wp2
        go_meet
        exact⟨rfl,rfl⟩
    case rest=>
     as_aux_lemma=>
      obtain⟨rfl,hwz⟩:=hcut
      have hwz':=hwz.symm
      subst hwz'
      obtain⟨bb,hpb,hxx,hbb,x0,x1⟩:=(QA HLr).at b hbl
      clear hxx
      subst hpb
      rw[hbx]at x0 x1
      have hbI:(b:Int)<(LB.length:Int):=by omega
      have hsw:=hBr.size
      have Hst:Hid (Rf.ZD (S.take (k+1))=Rf.ZD (S.take k)++[.string (bstr S[k].1),.int .i64 S[k].2]):=QB (by
       rw[List.take_add_one,gE hlt,Rf.labCells_app]
       rfl)
      generalize S[k].1=sk at *
      generalize S[k].2=vk at *
      have hml:k≤4001:=by have:=QA HSl;omega
      clear hbe hbx
      go_wp2_with (first|(at_builtin;refine wpList_append_own _ rfl _ _ 33 rfl w1.heap.size 37 i0 (.agg #[.string ⟨#[]⟩,.int .i64 0]) 2 24 Tryz.underlying33 hi0 hz0 hz1 hz2 rfl (by decide) _ _ _ rfl ((QA Hrow).alloc _) ⟨wr.heap.size,0,none⟩ 1 1 [.string (bstr sk),.int .i64 vk] rfl rfl (Rf.cells_two _ _ _ _) (Rf.lab_one _ _) (by unfold maxLen;omega) (by omega) (by rw[World.size_alloc];omega) ?_;intro v1 w4 hown hgrow _;obtain⟨p9,c9,rfl⟩:=Rf.row_shape hown;have Hown:=QB hown;have Hgr:=QB hgrow;clear hown hgrow)|go_in)
      go_roundw
      case rel=>
       have hb4:Below w1.heap.size w1 w4:=Below.grown (hBr.alloc hsw _) (QA Hgr) (by rw[World.size_alloc];omega) (fun k e=>by have:=((QA Hrow).lt _ e).1;omega)
       refine⟨k+1,p9,c9,by omega,rfl,?_,hb4⟩
       rw[QA Hst]
       exact QA Hown
      case measure=>simp only[Rf.lenOf];have:=QA HSl;omega
   ·
    as_aux_lemma=>
     obtain rfl:k=S.length:=by omega
     have hkI:¬(S.length:Int)<(LB.length:Int):=by have:=QA HSl;omega
     go_wp2
     refine bodyPost_ret (v:=.tuple #[.slice p8 S.length c8,.int .i64 0,.int .i64 0]) (by simp[results,Tryz.results29]) rfl ?_
     have:=QA Hrow
     rw[List.take_length]at this
     exact⟨p8,c8,rfl,Rf.row_base this hb1.size,QE hb1 hBr⟩
theorem lay_asm (s:Strd.Bs):(ZM s).2=(Strd.assemble s).2:=by
 rw[asm_eq s]
 by_cases h:(ZM s).2.2=0
 ·rw[if_neg (by rw[h];simp),layOut_ok s h]
 ·rw[if_pos h]
theorem Names_long (s:ByteArray) (w:World) (hlong:4000<s.size) (hm:s.size≤9223372036854775807) :
  Calls Tryz.prog 13 #[.string s] w fun e w'=>e=.returned (.tuple #[.slice none 0 0,.int .i64 0,.int .i64 7])∧Below w.heap.size w w':=by
 have CL:=QB (fun V=>layOut_long s V hlong hm)
 clear hlong hm
 go_enter Tryz.func13,Tryz.ntmps13
 go_wp2_with fail
 refine(QA CL _).mono ?_
 rintro e w1 ⟨rfl,hb1⟩
 have hb2:=QF w1 (.cells #[.int .i64 0,.slice none 0 0,.map none,.slice none 0 0,.slice none 0 0] 67)
 go_wp2
 refine bodyPost_ret (v:=.tuple #[.slice none 0 0,.int .i64 0,.int .i64 7]) (by simp[results,Tryz.results13]) rfl ?_
 exact⟨rfl,QE hb1 hb2⟩
theorem cells_names (l:List (Strd.Bs×Int)):nameCells l=Rf.ZD l:=by
 unfold nameCells Rf.ZD
 rw[List.flatMap_def]
 rfl
theorem Names_any (s:Strd.Bs) (w:World) (hm:s.length≤9223372036854775807) (h11:11≤w.heap.size) (hT:Tabs w) :
  Calls Tryz.prog 13 #[.string (bstr s)] w fun e w'=>∃p c,e=.returned (.tuple #[.slice p (namesAns s).length c,.int .i64 (Strd.assemble s).2.1,.int .i64 (Strd.assemble s).2.2])∧w'.ownsRow w.heap.size 37 2 (.slice p (namesAns s).length c) (namesAns s).length (Rf.ZD (namesAns s))∧Below w.heap.size w w':=by
 have hz:(bstr s).size=s.length:=by rw[ZY,Q4]
 have hla:=lay_asm s
 by_cases hl:4000<s.length
 ·refine(Names_long (bstr s) w (by omega) (by omega)).mono ?_
  rintro e w' ⟨rfl,hb⟩
  have h7:(Strd.assemble s).2=(0,7):=by rw[asm_long s hl]
  have hn:namesAns s=[]:=by
   unfold namesAns
   rw[if_pos (by rw[hla,h7];decide)]
  rw[h7,hn]
  exact⟨none,0,rfl,World.ownsRow_nil _ _ _ _,hb⟩
 ·have hc:=Names_c (bstr s) w (by omega) h11 hT
  rw[Q4]at hc
  refine hc.mono ?_
  rintro e w' ⟨v,rfl,hN,_,hb⟩
  obtain⟨p,c,rfl⟩:=Rf.row_shape hN
  rw[hla]
  refine⟨p,c,rfl,?_,hb⟩
  have:=hN
  unfold NamesAt at this
  rw[cells_names]at this
  exact this
theorem Names_ref (s:Strd.Bs) (w:World) (hm:s.length≤9223372036854775807) :
  Calls Tryz.prog 29 #[.string (bstr s)] w fun e w'=>∃p c,e=.returned (.tuple #[.slice p (namesAns s).length c,.int .i64 (Strd.assemble s).2.1,.int .i64 (Strd.assemble s).2.2])∧w'.ownsRow w.heap.size 37 2 (.slice p (namesAns s).length c) (namesAns s).length (Rf.ZD (namesAns s))∧Below w.heap.size w w':=
 Names_refS s (namesAns s) w hm (fun r L n hr hR h0=>Rf.names_sorted s r L n hr hR (by rw[lay_asm s];exact h0)) (fun h=>by
  unfold namesAns
  rw[if_pos (by rw[lay_asm s];exact h)])
end Go.Proofs.YtegiloiojloaoaaGreatDoor
