/- Contracts of package code: words, forms, marks. -/
import Derived.Test.YtegiloiojloaoaaGreatDoorCSpec
import Derived.Test.YtegiloiojloaoaaGreatDoorCTabs
import Derived.Test.YtegiloiojloaoaaGreatDoorCCode6
set_option linter.unusedVariables false
set_option linter.unusedSimpArgs false
set_option maxHeartbeats 2000000
namespace Go.Proofs.YtegiloiojloaoaaGreatDoor
open Go.RowKit Go.Shelf
theorem jumpOp_c (n f l:Int) (w:World) (h:0≤n∧n≤100) :
  Calls Tryz.prog 128 #[.int .i64 n,.int .i64 f,.int .i64 l] w fun e w'=>e=.returned (.agg #[.int .i64 5,.int .i64 (0x6000+0x100*n),.int .i64 n,.int .i64 f,.int .i64 l])∧Below w.heap.size w w':=by
 go_enter Tryz.func128,Tryz.ntmps128
 go_wp2
 refine bodyPost_ret (v:=.agg #[.int .i64 5,.int .i64 (0x6000+0x100*n),.int .i64 n,.int .i64 f,.int .i64 l]) (by simp[results,Tryz.results128,go_sem]) rfl ⟨rfl,QF _ _⟩
theorem farJumpOp_c (b f l:Int) (w:World) :
  Calls Tryz.prog 129 #[.int .i64 b,.int .i64 f,.int .i64 l] w fun e w'=>e=.returned (.agg #[.int .i64 6,.int .i64 b,.int .i64 0,.int .i64 f,.int .i64 l])∧Below w.heap.size w w':=by
 go_enter Tryz.func129,Tryz.ntmps129
 go_wp2
 refine bodyPost_ret (v:=.agg #[.int .i64 6,.int .i64 b,.int .i64 0,.int .i64 f,.int .i64 l]) (by simp[results,Tryz.results129,go_sem]) rfl ⟨rfl,QF _ _⟩
theorem mark_cell {w:World} {tu:Bool} (hT:TabsX tu w) (r:Nat) (h:r<4):w.cell? ⟨3,r,none⟩=some (.string (bstr (Strd.mark r))):=by
 obtain⟨t,fr,hm⟩:=hT.mark
 have:w.cell? ⟨3,r,none⟩=markCells[r]?:=by simp[World.cell?,hm]
 rw[this]
 match r,h with
 |0,_=>rfl
 |1,_=>rfl
 |2,_=>rfl
 |3,_=>rfl
theorem Mark_c (r:Int) (w:World) (h0:0≤r) (h1:r<4) {tu:Bool} (hT:TabsX tu w) :
  Calls Tryz.prog 88 #[.int .i64 r] w fun e w'=>e=.returned (.string (bstr (Strd.mark r)))∧w'=w:=by
 obtain⟨n,rfl⟩:=Int.eq_ofNat_of_zero_le h0
 have hc:=mark_cell hT n (by omega)
 generalize Strd.mark (n:Int)=m at hc
 clear hT
 go_enter Tryz.func88,Tryz.ntmps88
 go_wp2
 go_ret
 exact⟨rfl,rfl⟩
theorem end_index (k:Nat) (h:k<3) (w:World):(Instr.index 213 (.agg endCells) (.int .i64 (k:Int))).run Tryz.prog w=.ok (.string (bstr (endings.getD k []))) w:=
 match k,h with
 |0,_=>by kernel_rfl
 |1,_=>by kernel_rfl
 |2,_=>by kernel_rfl
def cutFrom (s:Strd.Bs):Nat→Strd.Bs×Int×Int
 |0=>(s,0,2)
 |n+1=>if Lib.hasSuffix s (endings.getD (2-n) []) then (Lib.trimSuffix s (endings.getD (2-n) []),(2-n:Nat),(2-n:Nat)) else cutFrom s n
theorem cutForm_eq (s:Strd.Bs):cutFrom s 3=Strd.cutForm s:=by
 simp only[cutFrom,endings,List.getD_cons_zero,List.getD_cons_succ,Strd.cutForm,Strd.endsWith,Lib.hasSuffix,Lib.trimSuffix,Nat.sub_self,Nat.reduceSub]
 repeat' split
 all_goals simp_all
theorem cut_hit (s:Strd.Bs) (k:Nat) (h:k<3) (hs:Lib.hasSuffix s (endings.getD k [])=true):cutFrom s (3-k)=(Lib.trimSuffix s (endings.getD k []),(k:Int),(k:Int)):=by
 obtain⟨n,hn⟩:∃n,3-k=n+1:=⟨2-k,by omega⟩
 have e:2-n=k:=by omega
 rw[hn,cutFrom,e,if_pos hs]
theorem cut_miss (s:Strd.Bs) (k:Nat) (h:k<3) (hs:Lib.hasSuffix s (endings.getD k [])=false):cutFrom s (3-k)=cutFrom s (3-(k+1)):=by
 obtain⟨n,hn⟩:∃n,3-k=n+1:=⟨2-k,by omega⟩
 have e:2-n=k:=by omega
 have e2:3-(k+1)=n:=by omega
 rw[hn,cutFrom,e,hs,e2];rfl
theorem cutForm_c (s:ByteArray) (w:World) (hs:s.size≤2^47) {tu:Bool} (hT:TabsX tu w) :
  Calls Tryz.prog 127 #[.string s] w fun e w'=>e=.returned (.tuple #[.string (bstr (Strd.cutForm s.data.toList).1),.int .i64 (Strd.cutForm s.data.toList).2.1,.int .i64 (Strd.cutForm s.data.toList).2.2])∧Below w.heap.size w w':=by
 obtain⟨tt,fr,hg⟩:=hT.ends
 rw[←cutForm_eq]
 clear hT
 go_enter Tryz.func127,Tryz.ntmps127
 go_wp2_with (refine wpList_load_row rfl 213 _ rfl 4 rfl tt _ fr _ hg Tryz.underlying213 rfl (by kernel_rfl) ?_)
 go_loopw [10] (fun c wr=>∃k:Nat,k≤3∧c=.int .i64 k∧cutFrom s.data.toList (3-k)=cutFrom s.data.toList 3∧Below w.heap.size w wr) (fun c _=>3-(intOf c).toNat)
 case atStart=>exact⟨0,by omega,rfl,rfl,Below.refl _ _⟩
 case round=>
  obtain⟨k,hk,rfl,hcut,hbl⟩:=hrel
  have Hcut:=QB hcut
  clear hcut
  by_cases hlt:k<3
  ·have hix:=end_index k hlt
   have hh:=cut_hit s.data.toList k hlt
   have hm:=cut_miss s.data.toList k hlt
   generalize endings.getD k []=en at hix hh hm
   have Hh:=QB hh
   have Hm:=QB hm
   clear hh hm
   go_wp2_with (go_at_call 153;refine(Tryz.strings_CutSuffix _ _ _ (by omega)).mono ?_;rintro e w' ⟨rfl,rfl⟩)
   ·go_ret3
    have hsf:Lib.hasSuffix s.data.toList en=true:=by assumption
    refine⟨?_,hbl⟩
    rw[←QA Hcut,QA Hh hsf]
    rfl
   ·have hsf:Lib.hasSuffix s.data.toList en=false:=by assumption
    go_roundw
    case rel=>exact⟨k+1,by omega,by go_num,by rw[←QA Hm hsf,QA Hcut],hbl⟩
    case measure=>simp[intOf];omega
  ·obtain rfl:k=3:=by omega
   go_wp2
   go_ret3
   refine⟨?_,hbl⟩
   rw[←QA Hcut]
   simp[cutFrom,bstr_of]
theorem fixed_index (k:Nat) (h:k<13) (w:World):(Instr.index 189 (.agg fixedCells) (.int .i64 (k:Int))).run Tryz.prog w=.ok (.agg #[.string (bstr (Strd.fixedWords.getD k ([],0,0)).1),.int .i64 (Strd.fixedWords.getD k ([],0,0)).2.1,.int .i64 (Strd.fixedWords.getD k ([],0,0)).2.2]) w:=
 match k,h with
 |0,_=>by kernel_rfl
 |1,_=>by kernel_rfl
 |2,_=>by kernel_rfl
 |3,_=>by kernel_rfl
 |4,_=>by kernel_rfl
 |5,_=>by kernel_rfl
 |6,_=>by kernel_rfl
 |7,_=>by kernel_rfl
 |8,_=>by kernel_rfl
 |9,_=>by kernel_rfl
 |10,_=>by kernel_rfl
 |11,_=>by kernel_rfl
 |12,_=>by kernel_rfl
theorem jump_index (k:Nat) (h:k<16) (w:World):(Instr.index 185 (.agg jumpCells) (.int .i64 (k:Int))).run Tryz.prog w=.ok (.string (bstr (Strd.jumpWords.getD k []))) w:=
 match k,h with
 |0,_=>by kernel_rfl
 |1,_=>by kernel_rfl
 |2,_=>by kernel_rfl
 |3,_=>by kernel_rfl
 |4,_=>by kernel_rfl
 |5,_=>by kernel_rfl
 |6,_=>by kernel_rfl
 |7,_=>by kernel_rfl
 |8,_=>by kernel_rfl
 |9,_=>by kernel_rfl
 |10,_=>by kernel_rfl
 |11,_=>by kernel_rfl
 |12,_=>by kernel_rfl
 |13,_=>by kernel_rfl
 |14,_=>by kernel_rfl
 |15,_=>by kernel_rfl
 |k+16,h=>absurd h (by omega)
theorem far_index (k:Nat) (h:k<2) (w:World):(Instr.index 187 (.agg farCells) (.int .i64 (k:Int))).run Tryz.prog w=.ok (.agg #[.string (bstr (Strd.farWords.getD k ([],0)).1),.int .i64 (Strd.farWords.getD k ([],0)).2]) w:=
 match k,h with
 |0,_=>by kernel_rfl
 |1,_=>by kernel_rfl
theorem find_at {α:Type} (l:List α) (p:α→Bool) (d:α) (k:Nat) (hk:k<l.length) (hp:p (l.getD k d)=true) (hno:∀j,j<k→p (l.getD j d)=false):l.find? p=some (l.getD k d):=by
 rw[List.find?_eq_some_iff_getElem]
 refine⟨hp,k,hk,?_,?_⟩
 ·rw[gD,gE hk];rfl
 ·intro j hj
  have:=hno j hj
  rw[gD,gE (by omega)]at this
  simpa using this
theorem find_no {α:Type} (l:List α) (p:α→Bool) (d:α) (hno:∀j,j<l.length→p (l.getD j d)=false):l.find? p=none:=by
 rw[List.find?_eq_none]
 intro x hx
 obtain⟨j,hj,rfl⟩:=List.mem_iff_getElem.1 hx
 have:=hno j hj
 rw[gD,gE hj]at this
 simpa using this
theorem findIdx_at {α:Type} (l:List α) (p:α→Bool) (d:α) (k:Nat) (hk:k<l.length) (hp:p (l.getD k d)=true) (hno:∀j,j<k→p (l.getD j d)=false):l.findIdx? p=some k:=by
 rw[List.findIdx?_eq_some_iff_getElem]
 have e:∀j (hj:j<l.length),l.getD j d=l[j]:=fun j hj=>by rw[gD,gE hj];rfl
 refine⟨hk,by rw[←e k hk];exact hp,fun j hj=>?_⟩
 rw[←e j (by omega),hno j hj];simp
theorem findIdx_no {α:Type} (l:List α) (p:α→Bool) (d:α) (hno:∀j,j<l.length→p (l.getD j d)=false):l.findIdx? p=none:=by
 rw[List.findIdx?_eq_none_iff]
 intro x hx
 obtain⟨j,hj,rfl⟩:=List.mem_iff_getElem.1 hx
 have:=hno j hj
 rw[gD,gE hj]at this
 simpa using this
theorem find_fixed (W wd:Strd.Bs) (kd bs:Int) (k:Nat) (hk:k<13) (hno:∀j,j<k→(Strd.fixedWords.getD j ([],0,0)).1≠W) (hrow:Strd.fixedWords.getD k ([],0,0)=(wd,kd,bs)) (hw:wd=W):Strd.find W=some ⟨kd,bs,0,0,0⟩:=by
 unfold Strd.find
 rw[find_at Strd.fixedWords (fun r=>r.1==W) ([],0,0) k hk (by rw[hrow];simpa using hw) (fun j hj=>by simpa using hno j hj),hrow]
theorem find_else (W:Strd.Bs) (hno:∀j,j<13→(Strd.fixedWords.getD j ([],0,0)).1≠W):Strd.fixedWords.find? (fun r=>r.1==W)=none:=
 find_no Strd.fixedWords (fun r=>r.1==W) ([],0,0) (fun j hj=>by simpa using hno j hj)
theorem find_jump (W st:Strd.Bs) (f l:Int) (k:Nat) (hk:k<16) (hno1:∀j,j<13→(Strd.fixedWords.getD j ([],0,0)).1≠W) (hcf:Strd.cutForm W=(st,f,l)) (hno:∀j,j<k→Strd.jumpWords.getD j []≠st) (hw:Strd.jumpWords.getD k []=st):Strd.find W=some ⟨5,0x6000+0x100*k,k,f,l⟩:=by
 unfold Strd.find
 rw[find_else W hno1]
 simp only[hcf,Strd.findIdx]
 rw[findIdx_at Strd.jumpWords (·==st) [] k hk (by simpa using hw) (fun j hj=>by simpa using hno j hj)]
 rfl
theorem find_far (W st:Strd.Bs) (f l:Int) (k:Nat) (hk:k<2) (hno1:∀j,j<13→(Strd.fixedWords.getD j ([],0,0)).1≠W) (hcf:Strd.cutForm W=(st,f,l)) (hno2:∀j,j<16→Strd.jumpWords.getD j []≠st)
  (hl:l≠0) (hno:∀j,j<k→(Strd.farWords.getD j ([],0)).1≠st) (hw:(Strd.farWords.getD k ([],0)).1=st):Strd.find W=some ⟨6,(Strd.farWords.getD k ([],0)).2,0,max f 1,l⟩:=by
 unfold Strd.find
 rw[find_else W hno1]
 simp only[hcf,Strd.findIdx]
 rw[findIdx_no Strd.jumpWords (·==st) [] (fun j hj=>by simpa using hno2 j hj)]
 simp only[if_neg hl]
 rw[find_at Strd.farWords (fun r=>r.1==st) ([],0) k hk (by simpa using hw) (fun j hj=>by simpa using hno j hj)]
 rfl
theorem find_none (W st:Strd.Bs) (f l:Int) (hno1:∀j,j<13→(Strd.fixedWords.getD j ([],0,0)).1≠W) (hcf:Strd.cutForm W=(st,f,l)) (hno2:∀j,j<16→Strd.jumpWords.getD j []≠st)
  (hno:l=0∨∀j,j<2→(Strd.farWords.getD j ([],0)).1≠st):Strd.find W=none:=by
 unfold Strd.find
 rw[find_else W hno1]
 simp only[hcf,Strd.findIdx]
 rw[findIdx_no Strd.jumpWords (·==st) [] (fun j hj=>by simpa using hno2 j hj)]
 by_cases hl:l=0
 ·simp only[if_pos hl]
 ·simp only[if_neg hl]
  rw[find_no Strd.farWords (fun r=>r.1==st) ([],0) (fun j hj=>by simpa using (hno.resolve_left hl) j hj)]
theorem Find_c (s:ByteArray) (w:World) (hs:s.size≤2^47) {tu:Bool} (hT:TabsX tu w) :
  Calls Tryz.prog 91 #[.string s] w fun e w'=>∃o:Strd.Op,e=.returned (.tuple #[.agg #[.int .i64 o.kind,.int .i64 o.base,.int .i64 o.number,.int .i64 o.first,.int .i64 o.last],.bool (Strd.find s.data.toList).isSome])∧(∀o',Strd.find s.data.toList=some o'→o'=o)∧Below w.heap.size w w':=by
 obtain⟨tf,ff,hgf⟩:=hT.fixed
 have hgf1:(w.alloc (.cells #[.int .i64 0,.int .i64 0,.int .i64 0,.int .i64 0,.int .i64 0] 94)).heap[2]? = some (.cells fixedCells tf ff):=bbox (QF _ _) hgf
 have HT:=QB hT
 clear hT hgf
 go_enter Tryz.func91,Tryz.ntmps91
 go_wp2_with (refine wpList_load_row rfl 189 _ rfl 2 rfl tf _ ff _ hgf1 Tryz.underlying189 rfl (by kernel_rfl) ?_)
 go_loopw [14] (fun c wr=>∃k:Nat,k≤13∧c=.int .i64 k∧(∀j,j<k→(Strd.fixedWords.getD j ([],0,0)).1≠s.data.toList)∧Below w.heap.size w wr∧wr.heap[w.heap.size]? = some (.cells #[.int .i64 0,.int .i64 0,.int .i64 0,.int .i64 0,.int .i64 0] 94 (0,0))) (fun c _=>13-(intOf c).toNat)
 case atStart=>exact⟨0,by omega,rfl,fun j hj=>by omega,QF _ _,QH _ _⟩
 case round=>
  obtain⟨k,hk,rfl,hno,hbl,hbx⟩:=hrel
  have Hno:=QB hno
  clear hno
  by_cases hlt:k<13
  ·have hix:=fixed_index k hlt
   obtain⟨wd,kd,bs,hrow⟩:∃wd kd bs,Strd.fixedWords.getD k ([],0,0)=(wd,kd,bs):=⟨_,_,_,rfl⟩
   rw[hrow]at hix
   have Hrow:=QB hrow
   clear hrow
   have hlt2:w.heap.size<wr.heap.size:=(Array.getElem?_eq_some_iff.1 hbx).1
   have Hbx:=QB hbx
   clear hbx
   by_cases hw:wd=s.data.toList
   ·have hwb:(wd==s.toList)=true:=by rw[tolist_data];simpa using hw
    have Hw:=QB hw
    clear hw
    go_wp2_with (refine wpList_store_row rfl 94 (.tmp 2) (.tmp 25) rfl w.heap.size #[.int .i64 kd,.int .i64 bs,.int .i64 0,.int .i64 0,.int .i64 0] rfl rfl 94 #[.int .i64 0,.int .i64 0,.int .i64 0,.int .i64 0,.int .i64 0] (by exact bbox (QF _ _) (QA Hbx)) (by kernel_rfl) rfl (op_one _ _ _ _ _) ?_)
    refine bodyPost_ret (v:=.tuple #[.agg #[.int .i64 kd,.int .i64 bs,.int .i64 0,.int .i64 0,.int .i64 0],.bool true]) (by exact QP Tryz.results91 _ _ w.heap.size 94 _ _ _ rfl (by exact ZJ (bbox (QF _ _) (QA Hbx))) Tryz.underlying94 rfl (by kernel_rfl)) rfl ?_
    refine⟨⟨kd,bs,0,0,0⟩,?_,?_,?_⟩
    ·rw[find_fixed _ wd kd bs k hlt (QA Hno) (QA Hrow) (QA Hw)];rfl
    ·intro o' ho'
     rw[find_fixed _ wd kd bs k hlt (QA Hno) (QA Hrow) (QA Hw)]at ho'
     exact(Option.some.inj ho').symm
    ·exact QT (QE hbl (QF _ _)) (Nat.le_refl _) _
   ·have hwb:(wd==s.toList)=false:=by rw[tolist_data];simpa using hw
    have Hw:=QB hw
    clear hw
    go_wp2
    go_roundw
    case rel=>
     refine⟨k+1,by omega,by go_num,?_,QE hbl (QF _ _),bbox (QF _ _) (QA Hbx)⟩
     intro j hj
     by_cases e:j=k
     ·subst e;rw[QA Hrow];exact QA Hw
     ·exact QA Hno j (by omega)
    case measure=>simp[intOf];omega
  ·obtain rfl:k=13:=by omega
   have hT1:=(QA HT).below hbl
   go_wp2_with fail
   refine(cutForm_c s wr hs hT1).mono ?_
   rintro e w1 ⟨rfl,hb1⟩
   obtain⟨st,f,l,hcf⟩:∃st f l,Strd.cutForm s.data.toList=(st,f,l):=⟨_,_,_,rfl⟩
   rw[hcf]
   have Hcf:=QB hcf
   clear hcf
   have hbl1:Below w.heap.size w w1:=QE hbl hb1
   have hbx1:=bbox hb1 hbx
   have HT1:=QB (hT1.below hb1)
   obtain⟨tj,fj,hgj⟩:=(hT1.below hb1).jump
   clear hbx hT1 hb1 hbl
   go_wp2_with (refine wpList_load_row rfl 185 _ rfl 0 rfl tj _ fj _ hgj Tryz.underlying185 rfl (by kernel_rfl) ?_)
   go_loopw [34] (fun c wr=>∃k:Nat,k≤16∧c=.int .i64 k∧(∀j,j<k→Strd.jumpWords.getD j []≠st)∧Below w1.heap.size w1 wr) (fun c _=>16-(intOf c).toNat)
   case atStart=>exact⟨0,by omega,rfl,fun j hj=>by omega,Below.refl _ _⟩
   case round=>
    obtain⟨k,hk,rfl,hno,hb2⟩:=hrel
    have Hno2:=QB hno
    clear hno hk
    have hbl2:Below w.heap.size w wr:=QE hbl1 hb2
    have Hbx2:=QB (bbox hb2 hbx1)
    by_cases hlt:k<16
    ·have hix:=jump_index k hlt
     generalize hjw:Strd.jumpWords.getD k []=jw at hix
     have Hjw:=QB hjw
     clear hjw
     by_cases hw:jw=st
     ·have hwb:(jw==st)=true:=by simpa using hw
      have Hw:=QB hw
      clear hw
      go_wp2_with (first|(go_at_call 128;refine(jumpOp_c _ _ _ _ (by omega)).mono ?_;rintro e w3 ⟨rfl,hb3⟩)|(refine wpList_store_row rfl 94 (.tmp 2) (.tmp 44) rfl w.heap.size #[.int .i64 5,.int .i64 (24576+256*(k:Int)),.int .i64 k,.int .i64 f,.int .i64 l] rfl rfl 94 #[.int .i64 0,.int .i64 0,.int .i64 0,.int .i64 0,.int .i64 0] (by exact bbox (by assumption) (QA Hbx2)) (by kernel_rfl) rfl (op_one _ _ _ _ _) ?_))
      refine bodyPost_ret (v:=.tuple #[.agg #[.int .i64 5,.int .i64 (24576+256*(k:Int)),.int .i64 k,.int .i64 f,.int .i64 l],.bool true]) (by exact QP Tryz.results91 _ _ w.heap.size 94 _ _ _ rfl (by exact ZJ (bbox hb3 (QA Hbx2))) Tryz.underlying94 rfl (by kernel_rfl)) rfl ?_
      have hfin:=find_jump s.data.toList st f l k hlt (QA Hno) (QA Hcf) (QA Hno2) (by rw[QA Hjw];exact QA Hw)
      refine⟨⟨5,24576+256*(k:Int),k,f,l⟩,by rw[hfin];rfl,fun o' ho'=>?_,QT (QE hbl2 hb3) (Nat.le_refl _) _⟩
      rw[hfin]at ho'
      exact(Option.some.inj ho').symm
     ·have hwb:(jw==st)=false:=by simpa using hw
      have Hw:=QB hw
      clear hw
      go_wp2
      go_roundw
      case rel=>
       refine⟨k+1,by omega,by go_num,?_,hb2⟩
       intro j hj
       by_cases e:j=k
       ·subst e;rw[QA Hjw];exact QA Hw
       ·exact QA Hno2 j (by omega)
      case measure=>simp[intOf];omega
    ·have Hno2':Hid (∀j,j<16→Strd.jumpWords.getD j []≠st):=fun j hj=>QA Hno2 j (by omega)
     obtain⟨tk,fk,hgk⟩:=((QA HT1).below hb2).far
     clear hbx1 hbl1
     generalize hwq:wr=wq at *
     clear hwq
     go_wp2_with (refine wpList_load_row rfl 187 _ rfl 1 rfl tk _ fk _ hgk Tryz.underlying187 rfl (by kernel_rfl) ?_)
     go_loopw [47] (fun c wr=>∃k:Nat,k≤2∧c=.int .i64 k∧(l=0∨∀j,j<k→(Strd.farWords.getD j ([],0)).1≠st)∧Below wq.heap.size wq wr) (fun c _=>2-(intOf c).toNat)
     case atStart=>exact⟨0,by omega,rfl,.inr fun j hj=>by omega,Below.refl _ _⟩
     case round=>
      obtain⟨k,hk,rfl,hno,hb3⟩:=hrel
      have Hno3:=QB hno
      clear hno hk
      have hbl3:Below w.heap.size w wr:=QE hbl2 hb3
      have Hbx3:=QB (bbox hb3 (QA Hbx2))
      have hlt3:w.heap.size<wr.heap.size:=QD (QA Hbx3)
      by_cases hlt:k<2
      ·have hix:=far_index k hlt
       obtain⟨fw,fb,hrow⟩:∃fw fb,Strd.farWords.getD k ([],0)=(fw,fb):=⟨_,_,rfl⟩
       rw[hrow]at hix
       have Hrow:=QB hrow
       clear hrow
       by_cases hw:fw=st
       ·have hwb:(fw==st)=true:=by simpa using hw
        have Hw:=QB hw
        clear hw
        by_cases hl0:l=0
        ·subst hl0
         go_wp2
         go_roundw
         case rel=>exact⟨k+1,by omega,by go_num,.inl (by trivial),QE hb3 (QF _ _)⟩
         case measure=>simp[intOf];omega
        ·have hl1:(l != 0)=true:=by simpa using hl0
         have Hl:=QB hl0
         clear hl0
         have hno':∀j,j<k→(Strd.farWords.getD j ([],0)).1≠st:=(QA Hno3).resolve_left (QA Hl)
         have Hno':=QB hno'
         clear hno'
         go_wp2_with (first|(go_at_call 129;refine(farJumpOp_c _ _ _ _).mono ?_;rintro e w4 ⟨rfl,hb4⟩)|(refine wpList_store_row rfl 94 (.tmp 2) (.tmp 63) rfl w.heap.size #[.int .i64 6,.int .i64 fb,.int .i64 0,.int .i64 (max f 1),.int .i64 l] rfl rfl 94 #[.int .i64 0,.int .i64 0,.int .i64 0,.int .i64 0,.int .i64 0] (by exact bbox (by assumption) (bbox (QF _ _) (QA Hbx3))) (by kernel_rfl) rfl (op_one _ _ _ _ _) ?_))
         refine bodyPost_ret (v:=.tuple #[.agg #[.int .i64 6,.int .i64 fb,.int .i64 0,.int .i64 (max f 1),.int .i64 l],.bool true]) (by exact QP Tryz.results91 _ _ w.heap.size 94 _ _ _ rfl (by exact ZJ (bbox hb4 (bbox (QF _ _) (QA Hbx3)))) Tryz.underlying94 rfl (by kernel_rfl)) rfl ?_
         have hfin:=find_far s.data.toList st f l k hlt (QA Hno) (QA Hcf) (QA Hno2') (QA Hl) (QA Hno') (by rw[QA Hrow];exact QA Hw)
         rw[QA Hrow]at hfin
         refine⟨⟨6,fb,0,max f 1,l⟩,by rw[hfin];rfl,fun o' ho'=>?_,QT (QE hbl3 (below_at hb4)) (Nat.le_refl _) _⟩
         rw[hfin]at ho'
         exact(Option.some.inj ho').symm
       ·have hwb:(fw==st)=false:=by simpa using hw
        have Hw:=QB hw
        clear hw
        go_wp2
        go_roundw
        case rel=>
         refine⟨k+1,by omega,by go_num,?_,QE hb3 (QF _ _)⟩
         rcases QA Hno3 with h|h
         ·exact .inl h
         ·refine .inr fun j hj=>?_
          by_cases e:j=k
          ·subst e;rw[QA Hrow];exact QA Hw
          ·exact h j (by omega)
        case measure=>simp[intOf];omega
      ·have hno':l=0∨∀j,j<2→(Strd.farWords.getD j ([],0)).1≠st:=(QA Hno3).imp id (fun h j hj=>h j (by omega))
       have hfin:=find_none s.data.toList st f l (QA Hno) (QA Hcf) (QA Hno2') hno'
       have Hfin:=QB hfin
       clear hfin hno'
       go_wp2_with (refine wpList_store_row rfl 94 (.tmp 2) (.tmp 65) rfl w.heap.size #[.int .i64 0,.int .i64 0,.int .i64 0,.int .i64 0,.int .i64 0] rfl rfl 94 #[.int .i64 0,.int .i64 0,.int .i64 0,.int .i64 0,.int .i64 0] (by exact(QA Hbx3)) (by kernel_rfl) rfl (op_one _ _ _ _ _) ?_)
       refine bodyPost_ret (v:=.tuple #[.agg #[.int .i64 0,.int .i64 0,.int .i64 0,.int .i64 0,.int .i64 0],.bool false]) (by exact QP Tryz.results91 _ _ w.heap.size 94 _ _ _ rfl (by exact ZJ (QA Hbx3)) Tryz.underlying94 rfl (by kernel_rfl)) rfl ?_
       refine⟨⟨0,0,0,0,0⟩,by rw[QA Hfin];rfl,fun o' ho'=>?_,QT hbl3 (Nat.le_refl _) _⟩
       rw[QA Hfin]at ho'
       cases ho'
end Go.Proofs.YtegiloiojloaoaaGreatDoor
