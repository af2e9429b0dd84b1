/- The reference's Made. -/
import Derived.Test.YtegiloiojloaoaaGreatDoorCSpec
import Derived.Test.YtegiloiojloaoaaGreatDoorCRef29
import Derived.Test.YtegiloiojloaoaaGreatDoorCRef26
import Derived.Test.YtegiloiojloaoaaGreatDoorCRef14
import Derived.Test.YtegiloiojloaoaaGreatDoorCRef15
import Derived.Deep.CutBlock
import Derived.Deep.DeepCutAuto
set_option linter.unusedVariables false
set_option linter.unusedSimpArgs false
set_option maxHeartbeats 8000000
set_option maxRecDepth 1000000
namespace Go.Proofs.YtegiloiojloaoaaGreatDoor
open Go.RowKit Go.Shelf Go.Sort Go.Maps
namespace Rf
def MadeQ (s:Strd.Bs) (w:World) (e:Ending) (w':World):Prop:=
 (∃(n:Nat) (er:Int),er≠0∧Strd.assemble s=((0,[]),n,er)∧e=.returned (.tuple #[.pointer none,.int .i64 (n:Int),.int .i64 er])∧Below w.heap.size w w') ∨
 (∃(g k:Nat) (r:Strd.Rd) (L:List Line) (qs:List (Line×Sl)) (en:Int) (pl:Option Addr) (cl:Nat) (pf:Option Addr) (cf:Nat) (pa:Option Addr) (ca:Nat) (pb:Option Addr) (cb:Nat),e=.returned (.tuple #[.pointer (some ⟨g,0,none⟩),.int .i64 0,.int .i64 0])∧Strd.QM s=(r,0,0)∧Rel k r L∧L.length≤4001∧(0≤r.org∧r.org≤2^24)∧badN L=0∧¬0<missN r.org L∧overN r.org L=0∧¬(stL r.org L).getD L.length 0-1 > 0xfffffe∧PrgB w.heap.size w' g r.org en L qs (List.zipWith upf L (Strd.QJ r.org (L.map strd))) ((stL r.org L).take L.length) (labsTo L (stL r.org L) L.length) pl cl pf cf pa ca pb cb∧Below w.heap.size w w')
structure LoopSt (B g:Nat) (w wq:World) (org:Int) (L:List Line) (qs:List (Line×Sl)) (pl:Option Addr) (cl:Nat) (parts:List Strd.Bs) (pp:Option Addr) (cp:Nat):Prop where
 prg:PrgB B wq g org 0 L qs [] [] [] pl cl none 0 none 0 none 0
 strs:ZR 0 wq (.slice pp parts.length cp) parts
 kept:Kept B MTag w wq
theorem LoopSt.below {B g:Nat} {w wq w':World} {org:Int} {L:List Line} {qs:List (Line×Sl)} {pl:Option Addr} {cl:Nat} {parts:List Strd.Bs} {pp:Option Addr} {cp:Nat} (h:LoopSt B g w wq org L qs pl cl parts pp cp) (hb:Below wq.heap.size wq w'):LoopSt B g w w' org L qs pl cl parts pp cp:=
 ⟨h.prg.below hb,h.strs.below hb,h.kept.trans (Kept.of_below hb)⟩
theorem LoopSt.low {B g:Nat} {w wq:World} {org:Int} {L:List Line} {qs:List (Line×Sl)} {pl:Option Addr} {cl:Nat} {parts:List Strd.Bs} {pp:Option Addr} {cp:Nat} (h:LoopSt B g w wq org L qs pl cl parts pp cp) (hB:B=w.heap.size):Below w.heap.size w wq:=by
 have:=h.kept.below (by omega)
 rw[hB]at this
 exact this
theorem src_add (s:Strd.Bs) (i:Nat) (r:Strd.Rd) (hX:Strd.QM s=Strd.addAll i r ((Strd.split 10 s).drop i)) (hi:i<(Strd.split 10 s).length):Strd.QM s=if (Strd.add r (Strd.split 10 s)[i]).2=0 then Strd.addAll (i+1) (Strd.add r (Strd.split 10 s)[i]).1 ((Strd.split 10 s).drop (i+1)) else ((Strd.add r (Strd.split 10 s)[i]).1,i+1,(Strd.add r (Strd.split 10 s)[i]).2):=by
 rw[hX,List.drop_eq_getElem_cons hi]
 rfl
theorem asm_err (s:Strd.Bs) (i:Nat) (r:Strd.Rd) (hX:Strd.QM s=Strd.addAll i r ((Strd.split 10 s).drop i)) (hi:i<(Strd.split 10 s).length) (er:Int) (h:(Strd.add r (Strd.split 10 s)[i]).2=er) (hne:er≠0):Strd.assemble s=((0,[]),i+1,er):=by
 have h1:=src_add s i r hX hi
 rw[if_neg (by rw[h];exact hne),h]at h1
 unfold Strd.assemble
 rw[h1]
 simp[hne]
theorem src_next (s:Strd.Bs) (i:Nat) (r:Strd.Rd) (hX:Strd.QM s=Strd.addAll i r ((Strd.split 10 s).drop i)) (hi:i<(Strd.split 10 s).length) (h:(Strd.add r (Strd.split 10 s)[i]).2=0):Strd.QM s=Strd.addAll (i+1) (Strd.add r (Strd.split 10 s)[i]).1 ((Strd.split 10 s).drop (i+1)):=by
 have h1:=src_add s i r hX hi
 rw[if_pos h]at h1
 exact h1
theorem texts8 (l:Line) (hl:WfL l):l.texts.length≤8:=by
 rcases hl.shaped with ⟨h1,h2⟩|⟨h1,h2⟩|⟨h1,p,q,m,n,ht,_⟩|⟨h1,p,q,m,n,ht,_⟩|⟨h1,p,ht,ha⟩|⟨h1,h2,h3,h4⟩|⟨h1,p,n,ht,ha⟩
 ·rw[h2];simp
 ·rw[h2];simp
 ·rw[ht];simp
 ·rw[ht];simp
 ·rw[ht];simp
 ·exact h3
 ·rw[ht];simp
theorem org_ok (l:Line) (hl:WfL l) (hn:numbers l=true) (h:l.word=[111,114,103]):0≤orgOf l∧orgOf l≤2^24:=by
 obtain⟨_,a,n,ht,ha⟩:=org_num l hl h
 have e:orgOf l=n:=by unfold orgOf ZI;rw[ht];simp[ha]
 rw[e]
 unfold numbers at hn
 rw[ht]at hn
 simp only[Bool.and_eq_true]at hn
 have hlast:=hn.2
 rw[h]at hlast
 unfold lastNum at hlast
 rw[ha]at hlast
 simp[Strd.isPlace,Strd.within]at hlast
 omega
theorem LoopSt.add {B g:Nat} {w w5 w6:World} {org:Int} {L:List Line} {qs:List (Line×Sl)} {pl:Option Addr} {cl:Nat} {parts:List Strd.Bs} {pp:Option Addr} {cp:Nat} (h:LoopSt B g w w5 org L qs pl cl parts pp cp) {l:Line} {p:Option Addr} {n c:Nat} (hl:LineAt w5 p n c l) {p6:Option Addr} {cap6:Nat} (hk6:Kept B (Tag 144) w5 w6) (hown:w6.ownsRow B 144 5 (.slice p6 (qs.length+1) cap6) (qs.length+1) (qs.flatMap encL++encL (l,(p,n,c)))) :
  LoopSt B g w (w6.setCell ⟨g,1,none⟩ (.slice p6 (qs.length+1) cap6)) org (L++[l]) (qs++[(l,(p,n,c))]) p6 cap6 parts pp cp:=by
 obtain⟨h1,h2⟩:=h.prg.addLine hl hk6 hown
 exact⟨h1,ZN h.strs h2 mtag9,h.kept.trans h2⟩
end Rf
theorem Made_ref (s:Strd.Bs) (w:World) (hsl0:s.length≤9223372036854775807):Calls Tryz.prog 42 #[.string (bstr s)] w fun e w'=>Rf.MadeQ s w e w':=by
 go_enter Tryz.func42,Tryz.ntmps42
 by_cases hlong:4000<s.length
 ·
  as_aux_lemma=>
   have hlI:(4000:Int)<(s.length:Int):=by omega
   go_wp2
   refine bodyPost_ret (v:=.tuple #[.pointer none,.int .i64 0,.int .i64 7]) (by simp[results,Tryz.results42]) rfl ?_
   have hr:Strd.QM s=(⟨0,[],false⟩,0,7):=by unfold Strd.QM;rw[if_pos (by omega)]
   exact .inl ⟨0,7,by decide,by unfold Strd.assemble;rw[hr];rfl,rfl,Below.refl _ _⟩
 ·have hlI:¬(4000:Int)<(s.length:Int):=by omega
  have hsl:s.length≤2^40:=by omega
  clear hsl0
  obtain⟨hpl1,hpl2,hpl3⟩:=split_len 10 s
  have C71:=QB (fun V=>split_ref s 10 V hsl)
  have hP0:=Rf.PrgB.start w
  have hb1:=QF w (.cells #[.int .i64 0,.slice none 0 0,.slice none 0 0,.slice none 0 0,.int .i64 0,.slice none 0 0] 108)
  have HP0:=QB hP0
  clear hP0
  go_upto_region 4 with fail
  generalize w.alloc (.cells #[.int .i64 0,.slice none 0 0,.slice none 0 0,.slice none 0 0,.int .i64 0,.slice none 0 0] 108)=W1 at *
  go_upto_region 5 with (go_at_call 71;refine(QA C71 _).mono ?_;rintro e w2 ⟨v,rfl,hS,hb2⟩;obtain⟨pp,cp,rfl⟩:=Rf.strs_shape hS;have HS:=QB hS;clear hS)
  have hX0:Strd.QM s=Strd.addAll 0 ⟨0,[],false⟩ ((Strd.split 10 s).drop 0):=by unfold Strd.QM;rw[if_neg (by omega)];rfl
  have HX0:=QB hX0
  have HS2:Hid (Rf.LoopSt w.heap.size w.heap.size w w2 0 [] [] none 0 (Strd.split 10 s) pp cp):=QB ⟨(QA HP0).below hb2,Rf.row_base (QA HS) (Nat.zero_le _),Kept.of_below (QE hb1 hb2)⟩
  have Herr:=QB (fun i r hX hi er h hne=>Rf.asm_err s i r hX hi er h hne)
  have Hnxt:=QB (fun i r hX hi h=>Rf.src_next s i r hX hi h)
  have Hdrop:Hid (∀r,Strd.QM s=Strd.addAll (Strd.split 10 s).length r ((Strd.split 10 s).drop (Strd.split 10 s).length)→Strd.QM s=(r,0,0)):=QB (fun r h=>by rw[h,List.drop_length];rfl)
  generalize Strd.split 10 s=parts at *
  clear hX0 HS HP0 C71 hb1 hb2
  go_upto_block 0 with fail
  go_cut [] (fun wq=>∃(k:Nat) (r:Strd.Rd) (L:List Rf.Line) (qs:List (Rf.Line×Sl)) (pl:Option Addr) (cl:Nat),Strd.QM s=(r,0,0)∧Rf.Rel k r L∧L.length≤4001∧(0≤r.org∧r.org≤2^24)∧Rf.PrgB w.heap.size wq w.heap.size r.org 0 L qs [] [] [] pl cl none 0 none 0 none 0∧Kept w.heap.size Rf.MTag w wq)
  case first=>
   as_aux_lemma=>
    go_wp2_with fail
    go_loopw [7] (fun c7 wr=>∃(i:Nat) (r:Strd.Rd) (L:List Rf.Line) (qs:List (Rf.Line×Sl)) (pl:Option Addr) (cl:Nat),i≤parts.length∧c7=.int .i64 i∧Strd.QM s=Strd.addAll i r (parts.drop i)∧Rf.Rel i r L∧L.length≤i∧(0≤r.org∧r.org≤2^24)∧Rf.LoopSt w.heap.size w.heap.size w wr r.org L qs pl cl parts pp cp) (fun c _=>parts.length-(intOf c).toNat)
    case atStart=>exact⟨0,⟨0,[],false⟩,[],[],none,0,by omega,rfl,QA HX0,Rf.Rel.start,by simp,by decide,QA HS2⟩
    case round=>
     clear HS2 HX0
     obtain⟨i,r,L,qs,pl,cl,hi,rfl,hX,hR,hLi,hor,hS⟩:=hrel
     by_cases hlt:i<parts.length
     ·
      as_aux_lemma=>
       obtain⟨bp,hpp,_,hbp,hcp⟩:=hS.strs.at i hlt
       subst hpp
       have ht:=hpl2 parts[i] (List.getElem_mem hlt)
       have hltI:(i:Int)<(parts.length:Int):=by omega
       have q1:IntKind.i64.wrap ((i:Int)+1)=(i:Int)+1:=IntWalk.i64_in _ (by omega)
       have C72:Hid (Calls Tryz.prog 72 #[.string (bstr parts[i]),.int .i64 ((i:Int)+1)] wr fun e w'=>∃(l':Rf.Line) (p:Option Addr) (n c:Nat),e=.returned (.tuple #[.agg #[.int .i64 l'.no,.string (bstr l'.label),.string (bstr l'.word),.int .i64 l'.form,.slice p n c],.bool (Rf.read parts[i] ((i:Int)+1)).isSome])∧(∀l,Rf.read parts[i] ((i:Int)+1)=some l→l'=l∧Rf.LineAt w' p n c l)∧Below wr.heap.size wr w'):=QB (Read_ref parts[i] ((i:Int)+1) wr (by omega))
       have Herr2:=QB (fun er h hne=>QA Herr i r hX hlt er h hne)
       have Hnx2:=QB (fun h=>QA Hnxt i r hX hlt h)
       have HS:=QB hS
       have HR:=QB hR
       clear hX hS hR Herr Hnxt Hdrop
       generalize parts[i]=t at *
       cases hrd:Rf.read t ((i:Int)+1) with
       |none=>
        as_aux_lemma=>
         rw[hrd]at C72
         have HE:=QB (QA Herr2 1 (Rf.add_none r t _ hrd) (by decide))
         clear Herr2 Hnx2 hrd
         go_upto_region 9 with (go_at_call 72;refine(QA C72).mono ?_;rintro e w1 ⟨l',p,n,c,rfl,_,hb1⟩;have hba:=QE hb1 (QF w1 (.cells #[.int .i64 l'.no,.string (bstr l'.label),.string (bstr l'.word),.int .i64 l'.form,.slice p n c] 144)))
         have HB:=QB (((QA HS).below hba).low rfl)
         clear hba hb1
         generalize w1.alloc (.cells #[.int .i64 l'.no,.string (bstr l'.label),.string (bstr l'.word),.int .i64 l'.form,.slice p n c] 144)=W3 at *
         go_upto_region 10 with fail
         go_cut [2,3,4] (fun c2 c3 c4 wq=>c2=.pointer none∧c3=.int .i64 ((i:Int)+1)∧c4=.int .i64 1∧Below w.heap.size w wq)
         case first=>
          go_wp2
          go_meet
          exact⟨rfl,rfl,rfl,QA HB⟩
         case rest=>
          obtain⟨rfl,rfl,rfl,hBq⟩:=hcut
          rename_i hK
          refine hK _ _ ?_
          refine wp_ret ?_
          try simp only[Exit.noGoto_ret,Exit.inBlock,Exit.then]
          first|change bodyPost Tryz.prog Tryz.f42 _ _ _ _|(simp (config:={ zetaDelta:=true }) only[Exit.noGoto_ret,Exit.inBlock,Exit.then])
          refine bodyPost_ret (v:=.tuple #[.pointer none,.int .i64 ((i:Int)+1),.int .i64 1]) (by simp[results,Tryz.results42]) rfl ?_
          exact .inl ⟨i+1,1,by decide,QA HE,rfl,hBq⟩
       |some l=>
        as_aux_lemma=>
         rw[hrd]at C72
         have hwf:=Rf.read_wf t _ l hrd (by omega)
         have Htw:=QB (fun h1 h2=>QA Herr2 3 (Rf.add_twice (QA HR) t _ l hrd h1 h2) (by decide))
         have Hnu:=QB (fun h2 h3=>QA Herr2 4 (Rf.add_number (QA HR) t _ l hrd hwf.1 h2 h3) (by decide))
         have Hog:=QB (fun h2 h3 h4 h5=>QA Herr2 5 (Rf.add_org (QA HR) t _ l hrd hwf.1 h2 h3 h4 h5) (by decide))
         have Hst:=QB (fun h2 h3 h4=>Rf.add_step (QA HR) t l hrd hwf.1 (by omega) hwf.2 h2 h3 h4)
         have Hwf:=QB hwf.1
         have ht8:=Rf.texts8 l hwf.1
         have hlens:=hwf.1.lens
         clear hrd hwf Herr2
         go_upto_region 9 with (go_at_call 72;refine(QA C72).mono ?_;rintro e w1 ⟨l',p,n,c,rfl,hl',hb1⟩;obtain⟨hll,hLA⟩:=hl' l rfl;have hll':=hll.symm;subst hll';clear hll;have hba:=QF w1 (.cells #[.int .i64 l.no,.string (bstr l.label),.string (bstr l.word),.int .i64 l.form,.slice p n c] 144);have HLA:=QB (hLA.below hba);have Hbx:=QB (QH w1 (.cells #[.int .i64 l.no,.string (bstr l.label),.string (bstr l.word),.int .i64 l.form,.slice p n c] 144));clear hLA hl')
         have HS3:=QB ((QA HS).below (QE hb1 hba))
         clear hba HS
         generalize w1.alloc (.cells #[.int .i64 l.no,.string (bstr l.label),.string (bstr l.word),.int .i64 l.form,.slice p n c] 144)=W3 at *
         generalize w1.heap.size=g8 at *
         clear hb1 hcp hbp
         have x1:=QC (QA Hbx) 1
         simp only[gA,gZ,gS]at x1
         have hxl:=QD (QA Hbx)
         go_upto_block 2 with fail
         go_cut [] (fun wq=>(l.label=[]∨∀x∈L,x.label≠l.label)∧Below W3.heap.size W3 wq)
         case first=>
          as_aux_lemma=>
           go_wp2_with fail
           go_loopw [10] (fun c10 wr=>∃k:Nat,k≤L.length∧c10=.int .i64 k∧(∀j (hj:j<L.length),j<k→¬(l.label≠[]∧L[j].label=l.label))∧Below W3.heap.size W3 wr) (fun c _=>L.length-(intOf c).toNat)
           case atStart=>exact⟨0,by omega,rfl,fun j hj h=>by omega,Below.refl _ _⟩
           case round=>
            obtain⟨k,hk,rfl,hall,hBr⟩:=hrel
            have hSr:=(QA HS3).below hBr
            have r1:=QC hSr.prg.box 1
            have z1:=QC (bbox hBr (QA Hbx)) 1
            simp only[gA,gZ,gS]at r1 z1
            have hgl:=QD hSr.prg.box
            have hzl:=QD (bbox hBr (QA Hbx))
            have Hall:=QB hall
            have HBw:=QB (hSr.low rfl)
            clear hall
            by_cases hlt2:k<L.length
            ·obtain⟨bl,q,hplx,_,hbl,y0,y1,y2,y3,y4,_⟩:=hSr.prg.lines.at k hlt2
             subst hplx
             have hltk:(k:Int)<(L.length:Int):=by omega
             have q2:IntKind.i64.wrap ((k:Int)+1)=(k:Int)+1:=IntWalk.i64_in _ (by omega)
             have hll:L[k].label.length≤2^20:=((QA HR).ok _ (List.getElem_mem hlt2)).wf.lens.1
             have Hmem:=QB (List.getElem_mem hlt2)
             by_cases hlab:l.label=[]
             ·
              as_aux_lemma=>
               have hb0:(!List.isEmpty l.label)=false:=by rw[hlab];rfl
               have Hn:Hid (∀j (hj:j<L.length),j<k+1→¬(l.label≠[]∧L[j].label=l.label)):=QB (fun j hj _ h=>h.1 hlab)
               clear hSr hlab
               go_upto_region 14 with fail
               go_quiet (fail)
               go_wp2
               go_roundw
               case rel=>exact⟨k+1,by omega,by go_num,QA Hn,Rf.below_dn hBr _⟩
               case measure=>simp[intOf];omega
             ·have hb0:(!List.isEmpty l.label)=true:=by cases hx:l.label with|nil=>exact(hlab hx).elim|cons x y=>rfl
              cases he:(L[k].label==l.label) with
              |true=>
               as_aux_lemma=>
                have HE:=QB (QA Htw hlab ⟨_,QA Hmem,by simpa using he⟩)
                generalize L[k].label=lk at *
                clear hSr hlab
                go_upto_region 14 with fail
                go_quiet (fail)
                go_upto_region 15 with fail
                go_cut [2,3,4] (fun c2 c3 c4 wq=>c2=.pointer none∧c3=.int .i64 ((i:Int)+1)∧c4=.int .i64 3∧Below w.heap.size w wq)
                case first=>
                 go_wp2
                 go_meet
                 exact⟨rfl,rfl,rfl,Rf.below_dn (QA HBw) _⟩
                case rest=>
                 obtain⟨rfl,rfl,rfl,hBq⟩:=hcut
                 rename_i hK
                 refine hK _ _ ?_
                 refine wp_ret ?_
                 try simp only[Exit.noGoto_ret,Exit.inBlock,Exit.then]
                 first|change bodyPost Tryz.prog Tryz.f42 _ _ _ _|(simp (config:={ zetaDelta:=true }) only[Exit.noGoto_ret,Exit.inBlock,Exit.then])
                 refine bodyPost_ret (v:=.tuple #[.pointer none,.int .i64 ((i:Int)+1),.int .i64 3]) (by simp[results,Tryz.results42]) rfl ?_
                 exact .inl ⟨i+1,3,by decide,QA HE,rfl,hBq⟩
              |false=>
               as_aux_lemma=>
                have Hn:Hid (∀j (hj:j<L.length),j<k+1→¬(l.label≠[]∧L[j].label=l.label)):=QB (fun j hj hjk h=>by
                 by_cases e:j=k
                 ·subst e
                  have:(L[j].label==l.label)=true:=by simpa using h.2
                  rw[he]at this;cases this
                 ·exact QA Hall j hj (by omega) h)
                generalize L[k].label=lk at *
                clear hSr hlab
                go_upto_region 14 with fail
                go_quiet (fail)
                go_wp2
                go_roundw
                case rel=>exact⟨k+1,by omega,by go_num,QA Hn,Rf.below_dn hBr _⟩
                case measure=>simp[intOf];omega
            ·have Hfin:Hid (l.label=[]∨∀x∈L,x.label≠l.label):=QB (by
              by_cases hlab:l.label=[]
              ·exact .inl hlab
              ·refine .inr (fun x hx e=>?_)
               obtain⟨j,hj,rfl⟩:=List.mem_iff_getElem.1 hx
               exact QA Hall j hj (by omega) ⟨hlab,e⟩)
             have hltk:¬(k:Int)<(L.length:Int):=by omega
             clear hSr
             go_wp2
             go_meet
             exact⟨QA Hfin,hBr⟩
         case rest=>
          as_aux_lemma=>
           obtain⟨hfresh,hBq⟩:=hcut
           obtain⟨wq,hwq⟩:∃x,x=wc:=⟨_,rfl⟩
           subst hwq
           have HS4:=QB ((QA HS3).below hBq)
           have HL4:=QB ((QA HLA).below hBq)
           have Hbx4:=QB (bbox hBq (QA Hbx))
           have Hfr:=QB hfresh
           have C73:Hid (∀V,Rf.LineAt V p n c l→Calls Tryz.prog 73 #[.agg #[.int .i64 l.no,.string (bstr l.label),.string (bstr l.word),.int .i64 l.form,.slice p n c]] V fun e w'=>e=.returned (.bool (Rf.numbers l))∧Below V.heap.size V w'):=QB (fun V h=>numbers_ref l p n c V h (QA Hwf) ht8)
           clear hfresh HS3 HLA Hbx x1 hxl hBq Htw
           go_upto_region 17 with (first|(refine wpList_load_row rfl 144 _ rfl g8 rfl 144 _ (0,0) _ (by exact QA Hbx4) Tryz.underlying144 rfl (by kernel_rfl) ?_)|(go_at_call 73;refine(QA C73 wq (QA HL4)).mono ?_;rintro e w5 ⟨rfl,hb5⟩))
           have HS5:=QB ((QA HS4).below hb5)
           have HL5:=QB ((QA HL4).below hb5)
           have Hbx5:=QB (bbox hb5 (QA Hbx4))
           clear HS4 HL4 Hbx4 hb5 C73
           cases hnum:Rf.numbers l with
           |false=>
            as_aux_lemma=>
             have HE:=QB (QA Hnu (QA Hfr) hnum)
             have HB:=QB ((QA HS5).low rfl)
             go_upto_region 18 with fail
             go_cut [2,3,4] (fun c2 c3 c4 wq=>c2=.pointer none∧c3=.int .i64 ((i:Int)+1)∧c4=.int .i64 4∧Below w.heap.size w wq)
             case first=>
              go_wp2
              go_meet
              exact⟨rfl,rfl,rfl,QA HB⟩
             case rest=>
              obtain⟨rfl,rfl,rfl,hBq⟩:=hcut
              rename_i hK
              refine hK _ _ ?_
              refine wp_ret ?_
              try simp only[Exit.noGoto_ret,Exit.inBlock,Exit.then]
              first|change bodyPost Tryz.prog Tryz.f42 _ _ _ _|(simp (config:={ zetaDelta:=true }) only[Exit.noGoto_ret,Exit.inBlock,Exit.then])
              refine bodyPost_ret (v:=.tuple #[.pointer none,.int .i64 ((i:Int)+1),.int .i64 4]) (by simp[results,Tryz.results42]) rfl ?_
              exact .inl ⟨i+1,4,by decide,QA HE,rfl,hBq⟩
           |true=>
            as_aux_lemma=>
             have b2:=QC (QA Hbx5) 2
             simp only[gA,gZ,gS]at b2
             have hb5l:=QD (QA Hbx5)
             have hor1:0≤(if l.word=[111,114,103] then Rf.orgOf l else r.org)∧(if l.word=[111,114,103] then Rf.orgOf l else r.org)≤2^24:=by
              by_cases e:l.word=[111,114,103]
              ·rw[if_pos e];exact Rf.org_ok l (QA Hwf) hnum e
              ·rw[if_neg e];exact hor
             go_upto_if 89 with fail
             go_cut [] (fun wq=>(l.word=[111,114,103]→L=[]∧l.label=[])∧Rf.LoopSt w.heap.size w.heap.size w wq (if l.word=[111,114,103] then Rf.orgOf l else r.org) L qs pl cl parts (some ⟨bp,0,none⟩) cp∧Rf.LineAt wq p n c l∧wq.heap[g8]? = some (.cells #[.int .i64 l.no,.string (bstr l.label),.string (bstr l.word),.int .i64 l.form,.slice p n c] 144 (0,0)))
             case first=>
              have g0:=QC (QA HS5).prg.box 0
              have g1:=QC (QA HS5).prg.box 1
              have f0:=ZC (QA HS5).prg.box 0
              have b1:=QC (QA Hbx5) 1
              have b4:=QC (QA Hbx5) 4
              simp only[gA,gZ,gS]at g0 g1 b1 b4
              have hgl:=QD (QA HS5).prg.box
              cases how:(l.word==[111,114,103]) with
              |false=>
               as_aux_lemma=>
                have hne:l.word≠[111,114,103]:=fun e=>by rw[e]at how;simp at how
                go_wp2
                go_meet
                exact⟨fun h=>(hne h).elim,by rw[if_neg hne];exact QA HS5,QA HL5,QA Hbx5⟩
              |true=>
               have hwo:l.word=[111,114,103]:=by simpa using how
               by_cases hL0:L=[]
               ·have hLz:(L.length:Int)=0:=by rw[hL0];rfl
                by_cases hlab:l.label=[]
                ·
                 as_aux_lemma=>
                  have hb0:(!List.isEmpty l.label)=false:=by rw[hlab];rfl
                  obtain⟨_,a,nn,hta,hna⟩:=Rf.org_num l (QA Hwf) hwo
                  have hoe:Rf.orgOf l=nn:=by unfold Rf.orgOf Rf.ZI;rw[hta];simp[hna]
                  have hnt:=(QA HL5).1
                  rw[hta]at hnt
                  simp only[List.length_singleton]at hnt
                  obtain⟨bt,hpt,hxx,hbt,t0⟩:=(QA HL5).2.at 0 (by rw[hta];simp)
                  clear hxx
                  have e0:l.texts[0]'(by rw[hta];simp)=a:=by simp[hta]
                  rw[e0]at t0
                  subst hpt
                  subst hnt
                  have C74:=QB (fun V=>number_ref a V (by have:=hlens.2.2 a (by rw[hta];simp);omega))
                  rw[hna]at C74
                  simp only[Option.getD_some,Option.isSome_some]at C74
                  have HF:Hid (Rf.LoopSt w.heap.size w.heap.size w (w5.setCell ⟨w.heap.size,0,none⟩ (.int .i64 nn)) nn L qs pl cl parts (some ⟨bp,0,none⟩) cp∧Rf.LineAt (w5.setCell ⟨w.heap.size,0,none⟩ (.int .i64 nn)) (some ⟨bt,0,none⟩) 1 c l∧(w5.setCell ⟨w.heap.size,0,none⟩ (.int .i64 nn)).heap[g8]? = some (.cells #[.int .i64 l.no,.string (bstr l.label),.string (bstr l.word),.int .i64 l.form,.slice (some ⟨bt,0,none⟩) 1 c] 144 (0,0))):=QB (by
                   have hbox:=(QA HS5).prg.box
                   refine⟨⟨(QA HS5).prg.setOrg nn,Rf.own_set (QA HS5).strs hbox (by decide),(QA HS5).kept.trans ((Rf.kept_box _ hbox (Nat.le_refl _)).mono (Nat.le_refl _) (fun o ho=>.inl ho))⟩,⟨(QA HL5).1,Rf.own_set (QA HL5).2 hbox (by decide)⟩,Rf.box_other (QA Hbx5) ?_⟩
                   rintro rfl
                   have:=QA Hbx5
                   rw[hbox]at this
                   simp only[Option.some.injEq,Obj.cells.injEq]at this
                   exact absurd this.2.1 (by decide))
                  clear hta hna e0 hlab
                  go_wp2_with (go_at_call 74;refine(QA C74 _).mono ?_;rintro e w6 ⟨rfl,hw6⟩;have hw6':=hw6.symm;subst hw6')
                  go_meet
                  refine⟨fun _=>⟨hL0,by simpa using hb0⟩,?_⟩
                  rw[if_pos hwo,hoe]
                  exact QA HF
                ·
                 as_aux_lemma=>
                  have hb0:(!List.isEmpty l.label)=true:=by cases hx:l.label with|nil=>exact(hlab hx).elim|cons x y=>rfl
                  have HE:=QB (QA Hog (QA Hfr) hnum hwo (.inr hlab))
                  have HB:=QB ((QA HS5).low rfl)
                  clear hlab
                  go_upto_region 21 with fail
                  go_cut [2,3,4] (fun c2 c3 c4 wq=>c2=.pointer none∧c3=.int .i64 ((i:Int)+1)∧c4=.int .i64 5∧Below w.heap.size w wq)
                  case first=>
                   go_wp2
                   go_meet
                   exact⟨rfl,rfl,rfl,QA HB⟩
                  case rest=>
                   obtain⟨rfl,rfl,rfl,hBq⟩:=hcut
                   rename_i hK
                   refine hK _ _ ?_
                   refine wp_ret ?_
                   try simp only[Exit.noGoto_ret,Exit.inBlock,Exit.then]
                   first|change bodyPost Tryz.prog Tryz.f42 _ _ _ _|(simp (config:={ zetaDelta:=true }) only[Exit.noGoto_ret,Exit.inBlock,Exit.then])
                   refine bodyPost_ret (v:=.tuple #[.pointer none,.int .i64 ((i:Int)+1),.int .i64 5]) (by simp[results,Tryz.results42]) rfl ?_
                   exact .inl ⟨i+1,5,by decide,QA HE,rfl,hBq⟩
               ·
                as_aux_lemma=>
                 have hLp:(0:Int)<(L.length:Int):=by
                  have:L.length≠0:=fun h=>hL0 (List.length_eq_zero_iff.1 h)
                  omega
                 have HE:=QB (QA Hog (QA Hfr) hnum hwo (.inl hL0))
                 have HB:=QB ((QA HS5).low rfl)
                 go_upto_region 21 with fail
                 go_cut [2,3,4] (fun c2 c3 c4 wq=>c2=.pointer none∧c3=.int .i64 ((i:Int)+1)∧c4=.int .i64 5∧Below w.heap.size w wq)
                 case first=>
                  go_wp2
                  go_meet
                  exact⟨rfl,rfl,rfl,QA HB⟩
                 case rest=>
                  obtain⟨rfl,rfl,rfl,hBq⟩:=hcut
                  rename_i hK
                  refine hK _ _ ?_
                  refine wp_ret ?_
                  try simp only[Exit.noGoto_ret,Exit.inBlock,Exit.then]
                  first|change bodyPost Tryz.prog Tryz.f42 _ _ _ _|(simp (config:={ zetaDelta:=true }) only[Exit.noGoto_ret,Exit.inBlock,Exit.then])
                  refine bodyPost_ret (v:=.tuple #[.pointer none,.int .i64 ((i:Int)+1),.int .i64 5]) (by simp[results,Tryz.results42]) rfl ?_
                  exact .inl ⟨i+1,5,by decide,QA HE,rfl,hBq⟩
             case rest=>
              as_aux_lemma=>
               obtain⟨ho4,hS6,hL6,hbx6⟩:=hcut
               obtain⟨w7,hw7⟩:∃x,x=wc:=⟨_,rfl⟩
               subst hw7
               obtain⟨ha1,ha2,ha3⟩:=QA Hst (QA Hfr) hnum ho4
               have HX6:=QB (QA Hnx2 ha1)
               have Ha3:=QB ha3
               rw[←ha2]at hS6 hor1
               have HS6:=QB hS6
               have HL6:=QB hL6
               have Hbx6:=QB hbx6
               have hql:=hS6.prg.lines.len
               generalize (Strd.add r t).1=r2 at *
               clear hS6 hL6 hbx6 ha1 ha2 ha3 Hst Hnx2 HS5 HL5 Hbx5 b2 hb5l ho4 hnum Hnu Hog Hfr
               have b0:=QC (QA Hbx6) 0
               have b1:=QC (QA Hbx6) 1
               have b2:=QC (QA Hbx6) 2
               have b3:=QC (QA Hbx6) 3
               have b4:=QC (QA Hbx6) 4
               have g1:=QC (QA HS6).prg.box 1
               simp only[gA,gZ,gS]at b0 b1 b2 b3 b4 g1
               have hb6l:=QD (QA Hbx6)
               have hgl:=QD (QA HS6).prg.box
               by_cases hkeep:Rf.keepL l=true
               ·
                as_aux_lemma=>
                 rw[if_pos hkeep]at Ha3
                 have hkb:(!List.isEmpty l.label)=true∨((!List.isEmpty l.label)=false∧(!List.isEmpty l.word)=true):=by
                  unfold Rf.keepL at hkeep
                  cases h1:l.label with
                  |cons x y=>exact .inl rfl
                  |nil=>
                   cases h2:l.word with
                   |cons x y=>exact .inr ⟨rfl,rfl⟩
                   |nil=>rw[h1,h2]at hkeep;exact absurd hkeep (by decide)
                 clear hkeep
                 go_upto_region 23 with fail
                 go_cut [121] (fun c121 wz=>c121=.bool true∧wz=w7)
                 case first=>
                  as_aux_lemma=>
                   rcases hkb with hb0|⟨hb0,hb1⟩
                   ·go_wp2
                    go_meet
                    exact⟨rfl,rfl⟩
                   ·go_wp2
                    go_meet
                    exact⟨rfl,rfl⟩
                 case rest=>
                  as_aux_lemma=>
                   obtain⟨rfl,hwz⟩:=hcut
                   have hwz':=hwz.symm
                   subst hwz'
                   clear hkb
                   have HRr:Hid (∀w6 p6 cap6,Kept w.heap.size (Tag 144) ((w7.alloc (.cells #[.int .i64 l.no,.string (bstr l.label),.string (bstr l.word),.int .i64 l.form,.slice p n c] 144)).drew) w6→w6.ownsRow w.heap.size 144 5 (.slice p6 (qs.length+1) cap6) (qs.length+1) (qs.flatMap Rf.encL++Rf.encL (l,(p,n,c)))→∃p9 cap9,Rf.LoopSt w.heap.size w.heap.size w (w6.setCell ⟨w.heap.size,1,none⟩ (.slice p6 (qs.length+1) cap6)) r2.org (L++[l]) (qs++[(l,(p,n,c))]) p9 cap9 parts (some ⟨bp,0,none⟩) cp):=QB (fun w6 p6 cap6 hk hown=>⟨p6,cap6,((QA HS6).below (QW (QF w7 (.cells #[.int .i64 l.no,.string (bstr l.label),.string (bstr l.word),.int .i64 l.form,.slice p n c] 144)))).add ((QA HL6).below (QW (QF w7 (.cells #[.int .i64 l.no,.string (bstr l.label),.string (bstr l.word),.int .i64 l.form,.slice p n c] 144)))) hk hown⟩)
                   have hBw7:w.heap.size≤w7.heap.size:=(QA HS6).kept.size
                   clear g1 b0 b1 b2 b3 b4
                   go_upto_region 24 with fail
                   refine Code.wp_mono ?_ (region24 w.heap.size w.heap.size g8 w7 L qs pl cl r2.org 0 l p n c _ (fun w9=>∃p9 cap9,Rf.LoopSt w.heap.size w.heap.size w w9 r2.org (L++[l]) (qs++[(l,(p,n,c))]) p9 cap9 parts (some ⟨bp,0,none⟩) cp) rfl rfl rfl (QA HS6).prg (QA Hbx6) hBw7 (by omega) (QA HRr))
                   intro e a w9 hh
                   cases e
                   case normal=>
                    obtain⟨hd,hs,hsame,p6,cap6,hSz⟩:=hh
                    obtain⟨tm,df⟩:=a
                    simp only at hd hs hsame
                    subst hd
                    obtain⟨x0,x1,x2,x3,x4,x5,x6,x7,x8,x9,rfl⟩:=Rf.frame24 hs (Nat.le_of_ble_eq_true rfl) hsame
                    simp only[List.take_succ_cons,List.take_zero,List.drop_succ_cons,List.drop_zero,List.cons_append,List.nil_append]
                    have HSz:=QB hSz
                    clear hSz hs hsame
                    go_wp2
                    go_roundw
                    case rel=>exact⟨i+1,r2,L++[l],_,p6,cap6,by omega,by go_num,QA HX6,QA Ha3,by rw[List.length_append,List.length_singleton];omega,hor1,QA HSz⟩
                    case measure=>simp[intOf];omega
                   all_goals exact hh.elim
               ·
                as_aux_lemma=>
                 rw[if_neg hkeep,List.append_nil]at Ha3
                 have hk2:l.label=[]∧l.word=[]:=by
                  unfold Rf.keepL at hkeep
                  simpa using hkeep
                 have hb0:(!List.isEmpty l.label)=false:=by rw[hk2.1];rfl
                 have hb1:(!List.isEmpty l.word)=false:=by rw[hk2.2];rfl
                 clear hk2 hkeep
                 go_wp2
                 go_roundw
                 case rel=>exact⟨i+1,r2,L,qs,pl,cl,by omega,by go_num,QA HX6,QA Ha3,by omega,hor1,QA HS6⟩
                 case measure=>simp[intOf];omega
     ·
      as_aux_lemma=>
       obtain rfl:i=parts.length:=by omega
       have HS:=QB hS
       have HR:=QB hR
       have HX:=QB (QA Hdrop r hX)
       clear hS hR hX
       go_wp2
       go_meet
       exact⟨_,r,L,qs,pl,cl,QA HX,QA HR,by omega,hor,(QA HS).prg,(QA HS).kept⟩
  case rest=>
   as_aux_lemma=>
    obtain⟨k0,r,L,qs,pl,cl,hX,hR,hLn,hor,hPw,hKw⟩:=hcut
    obtain⟨wq,hwq⟩:∃x,x=wc:=⟨_,rfl⟩
    subst hwq
    have hasm:=Rf.asm_ref s r L k0 hX hR
    have hok:=hR.ok
    have HPw:=QB hPw
    have Hok:=QB hok
    have Hasm:=QB hasm
    have HR:=QB hR
    have HX:=QB hX
    have hBw:Below w.heap.size w wq:=hKw.below (Nat.le_refl _)
    clear hPw hok hasm hR hX Hdrop Herr Hnxt HS2 HX0 hKw
    go_upto_block 4 with fail
    go_cut [] (fun wv=>(∀l∈L,Rf.badT L l=false)∧Below wq.heap.size wq wv)
    case first=>
     as_aux_lemma=>
      go_wp2_with fail
      go_loopw [12] (fun c12 wr=>∃i:Nat,i≤L.length∧c12=.int .i64 i∧(∀j (hj:j<L.length),j<i→Rf.badT L L[j]=false)∧Below wq.heap.size wq wr) (fun c _=>L.length-(intOf c).toNat)
      case atStart=>exact⟨0,by omega,rfl,fun j hj h=>by omega,Below.refl _ _⟩
      case round=>
       obtain⟨i,hi,rfl,hall,hBr⟩:=hrel
       have hPr:=(QA HPw).below hBr
       have r1:=QC hPr.box 1
       simp only[gA,gZ,gS]at r1
       have hgl:=QD hPr.box
       have Hall:=QB hall
       clear hall
       by_cases hlt:i<L.length
       ·
        as_aux_lemma=>
         obtain⟨bl,q,hplx,_,hbl,y0,y1,y2,y3,y4,hT⟩:=hPr.lines.at i hlt
         subst hplx
         obtain⟨pq,nq,cq⟩:=q
         obtain⟨hnq,hST⟩:=hT
         simp only at y4 hnq hST
         have hltI:(i:Int)<(L.length:Int):=by omega
         have q1:IntKind.i64.wrap ((i:Int)+1)=(i:Int)+1:=IntWalk.i64_in _ (by omega)
         have hokk:=QA Hok _ (List.getElem_mem hlt)
         have ht8:=Rf.texts8 L[i] hokk.wf
         have hlens:=hokk.wf.lens
         have hno:=hokk.no
         have Hbad:Hid (Rf.badT L L[i]=true→Strd.assemble s=((0,[]),L[i].no.toNat,2)):=QB (fun hb=>by
          have h1:Rf.badN L=L[i].no.toNat:=by
           unfold Rf.badN
           rw[Strd.firstN_at (Rf.badT L) _ L i hlt (by simpa using hlt) (fun j hj hji=>QA Hall j hj hji) hb]
           simp
          have h2:=QA Hasm
          rw[h1,if_pos (by omega)]at h2
          exact h2)
         have Hgood:Hid (Rf.badT L L[i]=false→∀j (hj:j<L.length),j<i+1→Rf.badT L L[j]=false):=QB (fun hb j hj hji=>by
          by_cases e:j=i
          ·subst e;exact hb
          ·exact QA Hall j hj (by omega))
         have HbT:Hid (Rf.badT L L[i]=((Rf.QN L[i].word||Rf.dcOp L[i].word)&&L[i].texts.any fun t=>!Rf.knownT L t)):=QB rfl
         have hba:=QF wr (.cells #[.int .i64 L[i].no,.string (bstr L[i].label),.string (bstr L[i].word),.int .i64 L[i].form,.slice pq nq cq] 144)
         have Hxb:=QB (QH wr (.cells #[.int .i64 L[i].no,.string (bstr L[i].label),.string (bstr L[i].word),.int .i64 L[i].form,.slice pq nq cq] 144))
         have xb2:=QC (QA Hxb) 2
         simp only[gA,gZ,gS]at xb2
         have hxbl:=QD (QA Hxb)
         have CJ:=QB (fun V=>isJump_ref L[i].word V (by omega))
         have HST:=QB hST
         have hdc:Rf.dcOp L[i].word=(L[i].word==[100,99,46,119]||L[i].word==[100,99,46,98]):=rfl
         generalize L[i]=l at *
         generalize Rf.badT L l=BT at *
         subst hnq
         clear hST hPr hokk
         go_upto_region 30 with (go_at_call 75;refine(QA CJ _).mono ?_;rintro e wj ⟨rfl,hbj⟩;have hBX:=QE hba hbj)
         have HBX:=QB (QE hBr hBX)
         have HSj:=QB (ZR.below (QA HST) hBX)
         have Hbj:=QB (bbox hbj (QA Hxb))
         clear y0 y1 y2 y3 y4 xb2 hxbl hba hbj HST Hxb hBX hBr r1 hgl hbl CJ
         generalize wr.heap.size=g13 at *
         generalize Rf.QN l.word=IJ at *
         have Hend:Hid (((IJ||Rf.dcOp l.word)=true→∀t∈l.texts,Rf.knownT L t=true)→BT=false):=QB (fun h=>by
          rw[QA HbT]
          cases hp:(IJ||Rf.dcOp l.word) with
          |false=>rfl
          |true=>
           rw[Bool.true_and,List.any_eq_false]
           intro t ht
           rw[h hp t ht];decide)
         have Hbad2:Hid (∀j (hj:j<l.texts.length),(IJ||Rf.dcOp l.word)=true→Rf.knownT L l.texts[j]=false→BT=true):=QB (fun j hj hp h=>by
          rw[QA HbT,hp,Bool.true_and,List.any_eq_true]
          exact⟨_,List.getElem_mem hj,by rw[h];rfl⟩)
         have HPj:=QB ((QA HPw).below (QA HBX))
         have HBw:=QB (QE hBw (QA HBX))
         generalize hPL:(IJ||Rf.dcOp l.word)=PL at *
         rw[hdc]at hPL
         clear HbT hdc
         go_wp2_with fail
         go_loopw [15] (fun c15 wr=>∃k:Nat,k≤l.texts.length∧c15=.int .i64 k∧(PL=true→∀j (hj:j<l.texts.length),j<k→Rf.knownT L l.texts[j]=true)∧Below wj.heap.size wj wr) (fun c _=>l.texts.length-(intOf c).toNat)
         case atStart=>exact⟨0,by omega,rfl,fun _ j hj h=>by omega,Below.refl _ _⟩
         case round=>
          obtain⟨k,hk,rfl,hkn,hBk⟩:=hrel
          have Hkn:=QB hkn
          have hbk:=bbox hBk (QA Hbj)
          have z2:=QC hbk 2
          have z4:=QC hbk 4
          simp only[gA,gZ,gS]at z2 z4
          have hzl:=QD hbk
          have HPL:=QB hPL
          clear hkn hbk hPL
          go_upto_region 31 with fail
          go_cut [168] (fun c168 wz=>c168=.bool (decide (k<l.texts.length)&&PL)∧wz=wr)
          case first=>
           as_aux_lemma=>
            by_cases hkl:k<l.texts.length
            ·have hkI:(k:Int)<(l.texts.length:Int):=by omega
             have Hdk:Hid (decide (k<l.texts.length)=true):=QB (decide_eq_true hkl)
             cases IJ with
             |true=>
              have HP:Hid (PL=true):=QB (by rw[←QA HPL];rfl)
              clear HPL
              go_wp2
              go_meet
              exact⟨by rw[QA Hdk,QA HP];rfl,rfl⟩
             |false=>
              cases e1:(l.word==[100,99,46,119]) with
              |true=>
               have HP:Hid (PL=true):=QB (by rw[←QA HPL,e1];rfl)
               clear HPL
               go_wp2
               go_meet
               exact⟨by rw[QA Hdk,QA HP];rfl,rfl⟩
              |false=>
               cases e2:(l.word==[100,99,46,98]) with
               |true=>
                have HP:Hid (PL=true):=QB (by rw[←QA HPL,e1,e2];rfl)
                clear HPL
                go_wp2
                go_meet
                exact⟨by rw[QA Hdk,QA HP];rfl,rfl⟩
               |false=>
                have HP:Hid (PL=false):=QB (by rw[←QA HPL,e1,e2];rfl)
                clear HPL
                go_wp2
                go_meet
                exact⟨by rw[QA Hdk,QA HP];rfl,rfl⟩
            ·have hkI:¬(k:Int)<(l.texts.length:Int):=by omega
             have Hdk:Hid (decide (k<l.texts.length)=false):=QB (decide_eq_false hkl)
             clear HPL
             go_wp2
             go_meet
             exact⟨by rw[QA Hdk];rfl,rfl⟩
          case rest=>
           obtain⟨rfl,hwz⟩:=hcut
           have hwz':=hwz.symm
           subst hwz'
           cases hgo:(decide (k<l.texts.length)&&PL) with
           |true=>
            as_aux_lemma=>
             rw[Bool.and_eq_true,decide_eq_true_eq]at hgo
             obtain⟨hkl,hpl⟩:=hgo
             have hkI:(k:Int)<(l.texts.length:Int):=by omega
             have q3:IntKind.i64.wrap ((k:Int)+1)=(k:Int)+1:=IntWalk.i64_in _ (by omega)
             obtain⟨bt,hpt,hxx,hbt,t0⟩:=(ZR.below (QA HSj) hBk).at k hkl
             clear hxx
             subst hpt
             have htl:=hlens.2.2 _ (List.getElem_mem hkl)
             have C74:=QB (fun V=>number_ref l.texts[k] V (by omega))
             have HE:Hid (Rf.knownT L l.texts[k]=false→Strd.assemble s=((0,[]),l.no.toNat,2)):=QB (fun h=>QA Hbad (QA Hbad2 k hkl hpl h))
             have Hnx:Hid (Rf.knownT L l.texts[k]=true→(PL=true→∀j (hj:j<l.texts.length),j<k+1→Rf.knownT L l.texts[j]=true)):=QB (fun h hp j hj hjk=>by
              by_cases e:j=k
              ·subst e;exact h
              ·exact QA Hkn hp j hj (by omega))
             have hKT:Rf.knownT L l.texts[k]=((Strd.number l.texts[k]).isSome||(L.take L.length).any fun x=>x.label==l.texts[k]):=by rw[List.take_length];rfl
             generalize l.texts[k]=tx at *
             generalize Rf.knownT L tx=KT at *
             have HKT:=QB hKT
             clear hKT
             go_upto_block 8 with (go_at_call 74;refine(QA C74 _).mono ?_;rintro e w3 ⟨rfl,hw3⟩;have hw3':=hw3.symm;subst hw3')
             generalize (Strd.number tx).isSome=NS at *
             go_cut [17] (fun c17 wz=>c17=.bool KT∧Below wj.heap.size wj wz)
             case first=>
              as_aux_lemma=>
               go_wp2_with fail
               go_loopw [17,18] (fun c17 c18 wv=>∃h:Nat,h≤L.length∧c18=.int .i64 h∧c17=.bool (NS||(L.take h).any fun x=>x.label==tx)∧Below wj.heap.size wj wv) (fun _ c _=>L.length-(intOf c).toNat)
               case atStart=>exact⟨0,by omega,rfl,by simp,hBk⟩
               case round=>
                obtain⟨h,hh,rfl,rfl,hBh⟩:=hrel
                have hPh:=(QA HPj).below hBh
                have r1:=QC hPh.box 1
                have y4:=QC (bbox hBh (QA Hbj)) 4
                simp only[gA,gZ,gS]at r1 y4
                have hgl:=QD hPh.box
                have hyl:=QD (bbox hBh (QA Hbj))
                have t0h:wr.cell? ⟨bt,k,none⟩=some (.string (bstr tx)):=by
                 obtain⟨bt',hpt',_,_,tt⟩:=(ZR.below (QA HSj) hBh).at k hkl
                 cases hpt'
                 rw[tt]
                 obtain⟨bt2,hpt2,_,_,tt2⟩:=(ZR.below (QA HSj) hBk).at k hkl
                 cases hpt2
                 rw[tt2]at t0
                 exact t0
                have hbth:bt<wr.heap.size:=by
                 obtain⟨bt',hpt',_,hlt',_⟩:=(ZR.below (QA HSj) hBh).at k hkl
                 cases hpt'
                 exact hlt'
                by_cases hlh:h<L.length
                ·obtain⟨bl,q,hplx,_,hbl,_,y1,_,_,_,_⟩:=hPh.lines.at h hlh
                 cases hplx
                 have hhI:(h:Int)<(L.length:Int):=by omega
                 have q4:IntKind.i64.wrap ((h:Int)+1)=(h:Int)+1:=IntWalk.i64_in _ (by omega)
                 have Hsc:Hid ((NS||(L.take (h+1)).any fun x=>x.label==tx)=((NS||(L.take h).any fun x=>x.label==tx)||(L[h].label==tx))):=QB (by
                  rw[List.take_add_one,gE hlh,List.any_append]
                  simp[Bool.or_assoc])
                 have hll:L[h].label.length≤2^20:=(QA Hok _ (List.getElem_mem hlh)).wf.lens.1
                 generalize (NS||(L.take h).any fun x=>x.label==tx)=OKH at *
                 generalize L[h].label=lh at *
                 clear hPh t0 z2 z4 hzl hbt
                 cases OKH with
                 |true=>
                  go_upto_region 37 with fail
                  go_quiet (fail)
                  go_wp2
                  go_roundw
                  case rel=>exact⟨h+1,by omega,by go_num,by rw[QA Hsc];rfl,Rf.below_dn hBh _⟩
                  case measure=>simp[intOf];omega
                 |false=>
                  go_upto_region 37 with fail
                  go_quiet (fail)
                  go_wp2
                  go_roundw
                  case rel=>exact⟨h+1,by omega,by go_num,by rw[QA Hsc];rfl,Rf.below_dn hBh _⟩
                  case measure=>simp[intOf];omega
                ·obtain rfl:h=L.length:=by omega
                 have hhI:¬(L.length:Int)<(L.length:Int):=by omega
                 clear hPh
                 rw[←QA HKT]
                 go_wp2
                 go_meet
                 exact⟨by rw[QA HKT],hBh⟩
             case rest=>
              as_aux_lemma=>
               obtain⟨rfl,hBz⟩:=hcut
               have z0:=QC (bbox hBz (QA Hbj)) 0
               simp only[gA,gZ,gS]at z0
               have hz0l:=QD (bbox hBz (QA Hbj))
               have HBq:=QB (QE (QA HBw) hBz)
               cases KT with
               |true=>
                have HN:=QB (QA Hnx rfl)
                go_wp2
                go_roundw
                case rel=>exact⟨k+1,by omega,by go_num,QA HN,hBz⟩
                case measure=>simp[intOf];omega
               |false=>
                have HEE:=QB (QA HE rfl)
                have hnn:((l.no.toNat:Nat):Int)=l.no:=by omega
                go_upto_region 39 with fail
                go_cut [2,3,4] (fun c2 c3 c4 wq=>c2=.pointer none∧c3=.int .i64 l.no∧c4=.int .i64 2∧Below w.heap.size w wq)
                case first=>
                 go_quiet (fail)
                 go_wp2
                 go_meet
                 exact⟨rfl,rfl,rfl,Rf.below_dn (QA HBq) _⟩
                case rest=>
                 obtain⟨rfl,rfl,rfl,hBq⟩:=hcut
                 rename_i hK
                 refine hK _ _ ?_
                 refine wp_ret ?_
                 try simp only[Exit.noGoto_ret,Exit.inBlock,Exit.then]
                 first|change bodyPost Tryz.prog Tryz.f42 _ _ _ _|(simp (config:={ zetaDelta:=true }) only[Exit.noGoto_ret,Exit.inBlock,Exit.then])
                 refine bodyPost_ret (v:=.tuple #[.pointer none,.int .i64 l.no,.int .i64 2]) (by simp[results,Tryz.results42]) rfl ?_
                 exact .inl ⟨l.no.toNat,2,by decide,QA HEE,by rw[hnn],hBq⟩
           |false=>
            as_aux_lemma=>
             have Hn:=QB (QA Hgood (QA Hend (fun hp t ht=>by
              have hkl:¬k<l.texts.length:=fun h=>by rw[decide_eq_true h,hp]at hgo;cases hgo
              obtain⟨j,hj,rfl⟩:=List.mem_iff_getElem.1 ht
              exact QA Hkn hp j hj (by omega))))
             go_wp2
             go_roundw
             case rel=>exact⟨i+1,by omega,by go_num,QA Hn,QE (QA HBX) hBk⟩
             case measure=>simp[intOf];omega
       ·
        as_aux_lemma=>
         have hltI:¬(i:Int)<(L.length:Int):=by omega
         clear hPr
         go_wp2
         go_meet
         refine⟨fun l hl=>?_,hBr⟩
         obtain⟨j,hj,rfl⟩:=List.mem_iff_getElem.1 hl
         exact QA Hall j hj (by omega)
    case rest=>
     as_aux_lemma=>
      obtain⟨hbad,hBv⟩:=hcut
      obtain⟨wv,hwv⟩:∃x,x=wc:=⟨_,rfl⟩
      subst hwv
      have hbn:Rf.badN L=0:=Strd.firstN_none _ _ _ (fun i h=>hbad _ (List.getElem_mem h))
      have hknown:∀l∈L,∀o∈(Rf.ins l).oprs,Strd.known (L.map Rf.strd) o.name=true:=fun l hl o ho=>by
       have hb2:=hbad l hl
       rw[←Rf.bad_tie L l (QA Hok l hl).wf]at hb2
       unfold Strd.badL at hb2
       rw[List.any_eq_false]at hb2
       have:=hb2 o ho
       simpa using this
      have hasm:=QA Hasm
      rw[hbn,if_neg (by decide)]at hasm
      have Hasm2:=QB hasm
      have Hbn:=QB hbn
      have C76:=QB (solve_ref w.heap.size w.heap.size r.org 0 L qs pl cl wv ((QA HPw).below hBv) (Nat.le_trans hBw.size hBv.size) (QA Hok) hLn hor hknown)
      have hBwv:=QE hBw hBv
      have hstp:=(Rf.lay_in r.org L (QA Hok)).1
      have hmr:=Rf.bad_rng L (Strd.QJ r.org (L.map Rf.strd)) (Rf.stL r.org L) (QA Hok) L.length (Nat.le_refl _)
      have Hlr:Hid (∀p∈Rf.labsTo L (Rf.stL r.org L) L.length,0≤p.2∧p.2≤2^31):=QB (Rf.labs_rng r.org L _ hstp (QA Hok) hor hLn)
      have hst:=Rf.st_rng r.org L _ hstp (QA Hok) hor.1 L.length (Nat.le_refl _)
      have hmr':0≤Rf.missN r.org L∧Rf.missN r.org L≤4001:=hmr
      have hst':0≤(Rf.stL r.org L).getD L.length 0∧(Rf.stL r.org L).getD L.length 0≤2^31:=by
       have h1:r.org≤(Rf.stL r.org L).getD L.length 0:=hst.1
       have h2:(Rf.stL r.org L).getD L.length 0≤r.org+1024*L.length:=hst.2
       omega
      generalize hE6:(if 0<Rf.missN r.org L then (6:Int) else 0)=E6 at *
      have HE6:=QB hE6
      have hll:=Rf.labsTo_len L (Rf.stL r.org L) L.length
      clear hbad hbn hknown hasm hE6 hBv HPw Hasm hmr hst hstp
      generalize hMN:Rf.missN r.org L=MN at *
      generalize hEN:(Rf.stL r.org L).getD L.length 0=EN at *
      generalize hLB:Rf.labsTo L (Rf.stL r.org L) L.length=LB at *
      have HMN:=QB hMN
      have HEN:=QB hEN
      have HLB:=QB hLB
      clear hMN hEN hLB
      go_upto_region 41 with (go_at_call 76;refine(QA C76).mono ?_;rintro e w4 ⟨rfl,⟨pf,cf,pa,ca,pb,cb,hP4⟩,hK4⟩;have HP4:=QB hP4;have hB4:Below w.heap.size w w4:=hBwv.trans (hK4.below hBwv.size);clear hP4 hK4)
      clear C76
      by_cases hm:0<MN
      ·
       as_aux_lemma=>
        have h6:E6=6:=by rw[←QA HE6,if_pos hm]
        subst h6
        have HA:Hid (Strd.assemble s=((0,[]),MN.toNat,6)):=QB (by rw[QA Hasm2,if_pos hm])
        have hnn:((MN.toNat:Nat):Int)=MN:=by omega
        clear Hasm2
        go_upto_region 42 with fail
        go_cut [2,3,4] (fun c2 c3 c4 wq=>c2=.pointer none∧c3=.int .i64 MN∧c4=.int .i64 6∧Below w.heap.size w wq)
        case first=>
         go_wp2
         go_meet
         exact⟨rfl,rfl,rfl,hB4⟩
        case rest=>
         obtain⟨rfl,rfl,rfl,hBq⟩:=hcut
         rename_i hK
         refine hK _ _ ?_
         refine wp_ret ?_
         try simp only[Exit.noGoto_ret,Exit.inBlock,Exit.then]
         first|change bodyPost Tryz.prog Tryz.f42 _ _ _ _|(simp (config:={ zetaDelta:=true }) only[Exit.noGoto_ret,Exit.inBlock,Exit.then])
         refine bodyPost_ret (v:=.tuple #[.pointer none,.int .i64 MN,.int .i64 6]) (by simp[results,Tryz.results42]) rfl ?_
         exact .inl ⟨MN.toNat,6,by decide,QA HA,by rw[hnn],hBq⟩
      ·have h6:E6=0:=by rw[←QA HE6,if_neg hm]
       subst h6
       have hasm2:=QA Hasm2
       rw[if_neg hm]at hasm2
       have Hasm3:=QB hasm2
       clear hasm2 Hasm2 HE6
       go_upto_block 10 with fail
       go_cut [] (fun wz=>(∀l∈L,Rf.overT LB l=false)∧Below w4.heap.size w4 wz)
       case first=>
        as_aux_lemma=>
         go_wp2_with fail
         go_loopw [21] (fun c21 wr=>∃i:Nat,i≤L.length∧c21=.int .i64 i∧(∀j (hj:j<L.length),j<i→Rf.overT LB L[j]=false)∧Below w4.heap.size w4 wr) (fun c _=>L.length-(intOf c).toNat)
         case atStart=>exact⟨0,by omega,rfl,fun j hj h=>by omega,Below.refl _ _⟩
         case round=>
          obtain⟨i,hi,rfl,hall,hBr⟩:=hrel
          have hPr:=(QA HP4).below hBr
          have r1:=QC hPr.box 1
          simp only[gA,gZ,gS]at r1
          have hgl:=QD hPr.box
          have Hall:=QB hall
          clear hall
          by_cases hlt:i<L.length
          ·
           as_aux_lemma=>
            obtain⟨bl,q,hplx,_,hbl,y0,y1,y2,y3,y4,hT⟩:=hPr.lines.at i hlt
            subst hplx
            obtain⟨pq,nq,cq⟩:=q
            obtain⟨hnq,hST⟩:=hT
            simp only at y4 hnq hST
            have hltI:(i:Int)<(L.length:Int):=by omega
            have q1:IntKind.i64.wrap ((i:Int)+1)=(i:Int)+1:=IntWalk.i64_in _ (by omega)
            have hokk:=QA Hok _ (List.getElem_mem hlt)
            have ht8:=Rf.texts8 L[i] hokk.wf
            have hlens:=hokk.wf.lens
            have hno:=hokk.no
            have Hbad:Hid (Rf.overT LB L[i]=true→Strd.assemble s=((0,[]),L[i].no.toNat,4)):=QB (fun hb=>by
             have h1:Rf.overN r.org L=L[i].no.toNat:=by
              unfold Rf.overN
              rw[QA HLB,Strd.firstN_at (Rf.overT LB) _ L i hlt (by simpa using hlt) (fun j hj hji=>QA Hall j hj hji) hb]
              simp
             have h2:=QA Hasm3
             rw[h1,if_pos (by omega)]at h2
             exact h2)
            have Hgood:Hid (Rf.overT LB L[i]=false→∀j (hj:j<L.length),j<i+1→Rf.overT LB L[j]=false):=QB (fun hb j hj hji=>by
             by_cases e:j=i
             ·subst e;exact hb
             ·exact QA Hall j hj (by omega))
            have HbT:Hid (Rf.overT LB L[i]=(Rf.dcOp L[i].word&&L[i].texts.any fun t=>!Rf.holds L[i].word (Rf.toN LB t))):=QB rfl
            have hba:=QF wr (.cells #[.int .i64 L[i].no,.string (bstr L[i].label),.string (bstr L[i].word),.int .i64 L[i].form,.slice pq nq cq] 144)
            have Hxb:=QB (QH wr (.cells #[.int .i64 L[i].no,.string (bstr L[i].label),.string (bstr L[i].word),.int .i64 L[i].form,.slice pq nq cq] 144))
            have HST:=QB hST
            have hdc:Rf.dcOp L[i].word=(L[i].word==[100,99,46,119]||L[i].word==[100,99,46,98]):=rfl
            generalize L[i]=l at *
            generalize Rf.overT LB l=BT at *
            subst hnq
            clear hST hPr hokk
            go_upto_region 47 with fail
            have HSj:=QB (ZR.below (QA HST) hba)
            have HBX:=QB (QE hBr hba)
            have Hbj:=QB (QA Hxb)
            clear y0 y1 y2 y3 y4 HST Hxb hBr r1 hgl hbl hba
            generalize wr.alloc (.cells #[.int .i64 l.no,.string (bstr l.label),.string (bstr l.word),.int .i64 l.form,.slice pq l.texts.length cq] 144)=wj at *
            generalize wr.heap.size=g22 at *
            have Hend:Hid ((Rf.dcOp l.word=true→∀t∈l.texts,Rf.holds l.word (Rf.toN LB t)=true)→BT=false):=QB (fun h=>by
             rw[QA HbT]
             cases hp:Rf.dcOp l.word with
             |false=>rfl
             |true=>
              rw[Bool.true_and,List.any_eq_false]
              intro t ht
              rw[h hp t ht];decide)
            have Hbad2:Hid (∀j (hj:j<l.texts.length),Rf.dcOp l.word=true→Rf.holds l.word (Rf.toN LB l.texts[j])=false→BT=true):=QB (fun j hj hp h=>by
             rw[QA HbT,hp,Bool.true_and,List.any_eq_true]
             exact⟨_,List.getElem_mem hj,by rw[h];rfl⟩)
            have HPj:=QB ((QA HP4).below (QA HBX))
            have HBw:=QB (hB4.trans ((QA HBX).mono hB4.size))
            generalize Rf.dcOp l.word=PL at *
            have hPL:=hdc.symm
            clear HbT hdc
            go_wp2_with fail
            go_loopw [23] (fun c23 wr=>∃k:Nat,k≤l.texts.length∧c23=.int .i64 k∧(PL=true→∀j (hj:j<l.texts.length),j<k→Rf.holds l.word (Rf.toN LB l.texts[j])=true)∧Below wj.heap.size wj wr) (fun c _=>l.texts.length-(intOf c).toNat)
            case atStart=>exact⟨0,by omega,rfl,fun _ j hj h=>by omega,Below.refl _ _⟩
            case round=>
             obtain⟨k,hk,rfl,hkn,hBk⟩:=hrel
             have Hkn:=QB hkn
             have hbk:=bbox hBk (QA Hbj)
             have z0:=QC hbk 0
             have z2:=QC hbk 2
             have z4:=QC hbk 4
             simp only[gA,gZ,gS]at z0 z2 z4
             have hzl:=QD hbk
             have HPL:=QB hPL
             clear hkn hbk hPL
             go_upto_region 48 with fail
             go_cut [249] (fun c249 wz=>c249=.bool (decide (k<l.texts.length)&&PL)∧wz=wr)
             case first=>
              as_aux_lemma=>
               by_cases hkl:k<l.texts.length
               ·have hkI:(k:Int)<(l.texts.length:Int):=by omega
                have Hdk:Hid (decide (k<l.texts.length)=true):=QB (decide_eq_true hkl)
                cases e1:(l.word==[100,99,46,119]) with
                |true=>
                 have HP:Hid (PL=true):=QB (by rw[←QA HPL,e1];rfl)
                 clear HPL
                 go_wp2
                 go_meet
                 exact⟨by rw[QA Hdk,QA HP];rfl,rfl⟩
                |false=>
                 cases e2:(l.word==[100,99,46,98]) with
                 |true=>
                  have HP:Hid (PL=true):=QB (by rw[←QA HPL,e1,e2];rfl)
                  clear HPL
                  go_wp2
                  go_meet
                  exact⟨by rw[QA Hdk,QA HP];rfl,rfl⟩
                 |false=>
                  have HP:Hid (PL=false):=QB (by rw[←QA HPL,e1,e2];rfl)
                  clear HPL
                  go_wp2
                  go_meet
                  exact⟨by rw[QA Hdk,QA HP];rfl,rfl⟩
               ·have hkI:¬(k:Int)<(l.texts.length:Int):=by omega
                have Hdk:Hid (decide (k<l.texts.length)=false):=QB (decide_eq_false hkl)
                clear HPL
                go_wp2
                go_meet
                exact⟨by rw[QA Hdk];rfl,rfl⟩
             case rest=>
              obtain⟨rfl,hwz⟩:=hcut
              have hwz':=hwz.symm
              subst hwz'
              cases hgo:(decide (k<l.texts.length)&&PL) with
              |true=>
               as_aux_lemma=>
                rw[Bool.and_eq_true,decide_eq_true_eq]at hgo
                obtain⟨hkl,hpl⟩:=hgo
                have hkI:(k:Int)<(l.texts.length:Int):=by omega
                have q3:IntKind.i64.wrap ((k:Int)+1)=(k:Int)+1:=IntWalk.i64_in _ (by omega)
                obtain⟨bt,hpt,hxx,hbt,t0⟩:=(ZR.below (QA HSj) hBk).at k hkl
                clear hxx
                subst hpt
                have htl:=hlens.2.2 _ (List.getElem_mem hkl)
                have hPk:=(QA HPj).below hBk
                have g5:=QC hPk.box 5
                simp only[gA,gZ,gS]at g5
                have hgl:=QD hPk.box
                have HLk:=QB hPk.labs
                have C77:=QB (fun V h1 h2 h3=>to_ref LB l.texts[k] w.heap.size w.heap.size pb cb V h1 h2 h3 (by omega) (by omega))
                have HE:Hid (Rf.holds l.word (Rf.toN LB l.texts[k])=false→Strd.assemble s=((0,[]),l.no.toNat,4)):=QB (fun h=>QA Hbad (QA Hbad2 k hkl hpl h))
                have Hnx:Hid (Rf.holds l.word (Rf.toN LB l.texts[k])=true→(PL=true→∀j (hj:j<l.texts.length),j<k+1→Rf.holds l.word (Rf.toN LB l.texts[j])=true)):=QB (fun h hp j hj hjk=>by
                 by_cases e:j=k
                 ·subst e;exact h
                 ·exact QA Hkn hp j hj (by omega))
                unfold Rf.toN at HE Hnx
                generalize (Rf.place LB l.texts[k]).getD 0=TO at *
                generalize (Rf.place LB l.texts[k]).isSome=TB at *
                have C78:=QB (fun V=>holds_ref l.word TO V)
                generalize Rf.holds l.word TO=HT at *
                generalize l.texts[k]=tx at *
                have HBq:=QB ((QA HBw).trans (hBk.mono (QA HBw).size))
                clear hPk Hkn
                go_upto_region 52 with (first
                 |(go_at_call 77;refine(QA C77 _ g5 hgl (QA HLk)).mono ?_;rintro e w5 ⟨rfl,hw5⟩;have hw5':=hw5.symm;subst hw5')
                 |(go_at_call 78;refine(QA C78 _).mono ?_;rintro e w6 ⟨rfl,hw6⟩;have hw6':=hw6.symm;subst hw6'))
                cases HT with
                |true=>
                 have HN:=QB (QA Hnx rfl)
                 clear Hnx HE
                 go_wp2
                 go_roundw
                 case rel=>exact⟨k+1,by omega,by go_num,QA HN,hBk⟩
                 case measure=>simp[intOf];omega
                |false=>
                 have HEE:=QB (QA HE rfl)
                 have hnn:((l.no.toNat:Nat):Int)=l.no:=by omega
                 clear Hnx HE
                 go_upto_region 53 with fail
                 go_cut [2,3,4] (fun c2 c3 c4 wq=>c2=.pointer none∧c3=.int .i64 l.no∧c4=.int .i64 4∧Below w.heap.size w wq)
                 case first=>
                  go_quiet (fail)
                  go_wp2
                  go_meet
                  exact⟨rfl,rfl,rfl,Rf.below_dn (QA HBq) _⟩
                 case rest=>
                  obtain⟨rfl,rfl,rfl,hBq⟩:=hcut
                  rename_i hK
                  refine hK _ _ ?_
                  refine wp_ret ?_
                  try simp only[Exit.noGoto_ret,Exit.inBlock,Exit.then]
                  first|change bodyPost Tryz.prog Tryz.f42 _ _ _ _|(simp (config:={ zetaDelta:=true }) only[Exit.noGoto_ret,Exit.inBlock,Exit.then])
                  refine bodyPost_ret (v:=.tuple #[.pointer none,.int .i64 l.no,.int .i64 4]) (by simp[results,Tryz.results42]) rfl ?_
                  exact .inl ⟨l.no.toNat,4,by decide,QA HEE,by rw[hnn],hBq⟩
              |false=>
               as_aux_lemma=>
                have Hn:=QB (QA Hgood (QA Hend (fun hp t ht=>by
                 have hkl:¬k<l.texts.length:=fun h=>by rw[decide_eq_true h,hp]at hgo;cases hgo
                 obtain⟨j,hj,rfl⟩:=List.mem_iff_getElem.1 ht
                 exact QA Hkn hp j hj (by omega))))
                go_wp2
                go_roundw
                case rel=>exact⟨i+1,by omega,by go_num,QA Hn,QE (QA HBX) hBk⟩
                case measure=>simp[intOf];omega
          ·
           as_aux_lemma=>
            have hltI:¬(i:Int)<(L.length:Int):=by omega
            clear hPr
            go_wp2
            go_meet
            refine⟨fun l hl=>?_,hBr⟩
            obtain⟨j,hj,rfl⟩:=List.mem_iff_getElem.1 hl
            exact QA Hall j hj (by omega)
       case rest=>
        as_aux_lemma=>
         obtain⟨hov,hBz⟩:=hcut
         obtain⟨wz,hwz⟩:∃x,x=wc:=⟨_,rfl⟩
         subst hwz
         have hon:Rf.overN r.org L=0:=by
          unfold Rf.overN
          rw[QA HLB]
          exact Strd.firstN_none _ _ _ (fun i h=>hov _ (List.getElem_mem h))
         have hPz:=(QA HP4).below hBz
         have g4:=QC hPz.box 4
         simp only[gA,gZ,gS]at g4
         have hgl:=QD hPz.box
         have HPz:=QB hPz
         have hBq:=hB4.trans (hBz.mono hB4.size)
         have hasm4:=QA Hasm3
         rw[hon,if_neg (by decide)]at hasm4
         have Hon:=QB hon
         have q9:IntKind.i64.wrap (EN-1)=EN-1:=IntWalk.i64_in _ (by omega)
         clear hov hBz HP4 hPz Hasm3 hon
         by_cases hbig:EN-1 > 0xfffffe
         ·have HA:Hid (Strd.assemble s=((0,[]),0,7)):=QB (by rw[hasm4,if_pos hbig])
          have hb':(16777214:Int)<EN-1:=hbig
          clear hasm4 hbig
          go_wp2
          refine bodyPost_ret (v:=.tuple #[.pointer none,.int .i64 0,.int .i64 7]) (by simp[results,Tryz.results42]) rfl ?_
          exact .inl ⟨0,7,by decide,QA HA,rfl,hBq⟩
         ·have hb':¬(16777214:Int)<EN-1:=hbig
          have Hbig:=QB hbig
          clear hasm4 hbig
          go_wp2
          refine bodyPost_ret (v:=.tuple #[.pointer (some ⟨w.heap.size,0,none⟩),.int .i64 0,.int .i64 0]) (by simp[results,Tryz.results42]) rfl ?_
          refine .inr ⟨w.heap.size,k0,r,L,qs,EN,pl,cl,pf,cf,pa,ca,pb,cb,rfl,QA HX,QA HR,hLn,hor,QA Hbn,by rw[QA HMN];omega,QA Hon,by rw[QA HEN];have:=QA Hbig;omega,?_,hBq⟩
          rw[QA HLB]
          exact QA HPz
end Go.Proofs.YtegiloiojloaoaaGreatDoor
