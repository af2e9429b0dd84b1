/- Arguments: a slice of strings, a slice of images. -/
import Derived.Test.YtegiloiojloaoaaGreatDoorCSpec
import Derived.Test.YtegiloiojloaoaaGreatDoorCTabsL
import Derived.Test.YtegiloiojloaoaaGreatDoorCRef36
import Derived.Test.YtegiloiojloaoaaGreatDoorCRef44
import Derived.Deep.DeepCutAuto
import Derived.Deep.CutRange
import Derived.Deep.CutBlock
set_option linter.unusedVariables false
set_option linter.unusedSimpArgs false
set_option maxHeartbeats 8000000
set_option maxRecDepth 1000000
namespace Go.Proofs.YtegiloiojloaoaaGreatDoor
open Go.ChangeShapes Go.WideShapes Go.ChangeAt Go.RowKit Go.Shelf Go.Sort Go.Maps
def StrsIn (w:World) (v:Value) (xs:List Strd.Bs):Prop:=(xs=[]∧∃p cap,v=.slice p 0 cap)∨∃b off cap,v=.slice (some ⟨b,off,none⟩) xs.length cap∧b<w.heap.size∧∀i (h:i<xs.length),w.cell? ⟨b,off+i,none⟩=some (.string (bstr xs[i]))∧xs[i].length≤9223372036854775807
def ImgsIn (w:World) (v:Value) (xs:List (Int×Strd.Bs)):Prop:=(xs=[]∧∃p cap,v=.slice p 0 cap)∨∃b off cap,v=.slice (some ⟨b,off,none⟩) xs.length cap∧b<w.heap.size∧∀i (h:i<xs.length),w.cell? ⟨b,off+i*2,none⟩=some (.int .i64 xs[i].1)∧w.cell? ⟨b,off+i*2+1,none⟩=some (.string (bstr xs[i].2))∧xs[i].2.length≤9223372036854775807
theorem StrsIn.shape {w:World} {v:Value} {xs:List Strd.Bs} (h:StrsIn w v xs):∃p cap,v=.slice p xs.length cap:=by
 rcases h with ⟨rfl,p,cap,rfl⟩|⟨b,off,cap,rfl,_⟩
 ·exact⟨p,cap,rfl⟩
 ·exact⟨_,_,rfl⟩
theorem ImgsIn.shape {w:World} {v:Value} {xs:List (Int×Strd.Bs)} (h:ImgsIn w v xs):∃p cap,v=.slice p xs.length cap:=by
 rcases h with ⟨rfl,p,cap,rfl⟩|⟨b,off,cap,rfl,_⟩
 ·exact⟨p,cap,rfl⟩
 ·exact⟨_,_,rfl⟩
theorem StrsIn.below {w w':World} {v:Value} {xs:List Strd.Bs} (h:StrsIn w v xs) (hb:Below w.heap.size w w'):StrsIn w' v xs:=by
 rcases h with h|⟨b,off,cap,rfl,hbl,h⟩
 ·exact .inl h
 ·exact .inr ⟨b,off,cap,rfl,Nat.lt_of_lt_of_le hbl hb.size,fun i hi=>⟨(hb.cell (p:=⟨b,off+i,none⟩) hbl).trans (h i hi).1,(h i hi).2⟩⟩
theorem ImgsIn.below {w w':World} {v:Value} {xs:List (Int×Strd.Bs)} (h:ImgsIn w v xs) (hb:Below w.heap.size w w'):ImgsIn w' v xs:=by
 rcases h with h|⟨b,off,cap,rfl,hbl,h⟩
 ·exact .inl h
 ·exact .inr ⟨b,off,cap,rfl,Nat.lt_of_lt_of_le hbl hb.size,fun i hi=>⟨(hb.cell (p:=⟨b,off+i*2,none⟩) hbl).trans (h i hi).1,(hb.cell (p:=⟨b,off+i*2+1,none⟩) hbl).trans (h i hi).2.1,(h i hi).2.2⟩⟩
theorem StrsIn.at {w:World} {v:Value} {xs:List Strd.Bs} (h:StrsIn w v xs) (p:Option Addr) (c:Nat) (hv:v=.slice p xs.length c) (i:Nat) (hi:i<xs.length):∃b off,p=some ⟨b,off,none⟩∧b<w.heap.size∧∃s:Strd.Bs,w.cell? ⟨b,off+i,none⟩=some (.string (bstr s))∧s.length≤9223372036854775807:=by
 rcases h with ⟨h,_⟩|⟨b,off,cap,e,hbl,h⟩
 ·subst h;simp at hi
 ·rw[hv]at e
  simp only[Value.slice.injEq]at e
  exact⟨b,off,e.1,hbl,xs[i],h i hi⟩
theorem ImgsIn.at {w:World} {v:Value} {xs:List (Int×Strd.Bs)} (h:ImgsIn w v xs) (p:Option Addr) (c:Nat) (hv:v=.slice p xs.length c) (i:Nat) (hi:i<xs.length):∃b off,p=some ⟨b,off,none⟩∧b<w.heap.size∧∃(o:Int) (s:Strd.Bs),w.cell? ⟨b,off+i*2,none⟩=some (.int .i64 o)∧w.cell? ⟨b,off+i*2+1,none⟩=some (.string (bstr s))∧s.length≤9223372036854775807:=by
 rcases h with ⟨h,_⟩|⟨b,off,cap,e,hbl,h⟩
 ·subst h;simp at hi
 ·rw[hv]at e
  simp only[Value.slice.injEq]at e
  exact⟨b,off,e.1,hbl,xs[i].1,xs[i].2,h i hi⟩
theorem bstr_self (s:ByteArray):bstr s.data.toList=s:=QZ (by simp)
theorem strs_of {H:Type} {enc:TypeId×Value→H} {W:World} {base:Nat} {sp:Nat→Bool} {held:Bool} {v:Value} {d:DataW H} {ps:List MemPlace} {r:Reach} {b0:Nat} (hval:Value.okWide Tryz.prog W r b0 38 v) (h:DataW.Trod enc Tryz.prog W base sp held 38 v d ps):∃xs,StrsIn W v xs∧(xs.length=0∨∃el spr,d=.slice el spr∧el.length=xs.length):=by
 obtain⟨a0,len0,cap0,rfl⟩:=okWide_slice Tryz.underlying38 hval
 obtain⟨fuel,h⟩:=h
 rcases Deep.open_slice Tryz.underlying38 h with ⟨hcs,_⟩|⟨a,len,cap,m,n,D,Pl,hcs,_,hlc,hcm,hm,hx,hel⟩
 ·simp[Value.cells]at hcs
  obtain⟨rfl,rfl,rfl⟩:=hcs
  exact⟨[],.inl ⟨rfl,_,_,rfl⟩,.inl rfl⟩
 ·simp[Value.cells]at hcs
  obtain⟨rfl,rfl,rfl⟩:=hcs
  have hlm:len0≤m:=by rw[hm];split <;> omega
  by_cases h0:len0=0
  ·subst h0
   exact⟨[],.inl ⟨rfl,_,_,rfl⟩,.inl rfl⟩
  ·have hc1:Tryz.prog.cellsOf 9=1:=by kernel_rfl
   have each:∀i,i<len0→∃s:Strd.Bs,W.cell? (a.add i)=some (.string (bstr s))∧s.length≤9223372036854775807:=by
    intro i hi
    obtain⟨cs',h1,h2⟩:=hel i (by omega)
    rw[hc1,Nat.mul_one]at h1
    obtain⟨_,_,hcell⟩:=World.cells?_some h1
    obtain⟨s,rfl,_,hs⟩:=DataW.trod_string Tryz.underlying9 h2
    have c0:=hcell 0 (by omega)
    rw[Deep.add_add]at c0
    refine⟨s.data.toList,?_,?_⟩
    ·rw[bstr_self];simpa using c0
    ·have e:s.data.toList.length=s.size:=by simp
     unfold maxLen at hs
     omega
   obtain⟨q,hq⟩:=@Deep.choose_lt Strd.Bs ⟨[]⟩ _ _ each
   obtain⟨b,off,spot⟩:=a
   have hspot:spot=none:=by
    have:=World.cell?_spot (hq 0 (by omega)).1
    simpa [Addr.add] using this
   subst hspot
   have hadd:∀k,(⟨b,off,none⟩:Addr).add k=⟨b,off+k,none⟩:=fun k=>by unfold Addr.add;split <;> simp_all
   refine⟨(List.range len0).map q,.inr ⟨b,off,cap0,by rw[List.length_map,List.length_range],?_,fun i hi=>?_⟩,.inr ⟨_,_,(Prod.mk.inj hx).1,by simp⟩⟩
   ·exact World.block_lt_of_cell? W _ (hq 0 (by omega)).1
   ·rw[List.length_map,List.length_range]at hi
    simp only[List.getElem_map,List.getElem_range]
    have:=hq i hi
    simp only[hadd]at this
    exact this
theorem pair_cs {α:Type} {cs:List α} (h:cs.length=2):∃a b,cs=[a,b]:=by
 match cs,h with
 |[a,b],_=>exact⟨a,b,rfl⟩
theorem img_cells {H:Type} {enc:TypeId×Value→H} {W:World} {base:Nat} {sp:Nat→Bool} {held:Bool} {fuel:Nat} {cs:List Value} {x:DataW H×List MemPlace} (h:DataW.trod enc Tryz.prog W base sp held fuel 23 cs=some x) :
  ∃it:Int×Strd.Bs,cs=[.int .i64 it.1,.string (bstr it.2)]∧it.2.length≤9223372036854775807:=by
 obtain⟨xs,n,rfl,hx,hl,hxl,hall⟩:=DataW.trod_struct Tryz.underlying23 h
 rw[show Tryz.prog.cellsOf 23=2 by kernel_rfl]at hl
 have hc:Tryz.prog.cellsOf 3=1:=by kernel_rfl
 have hc9:Tryz.prog.cellsOf 9=1:=by kernel_rfl
 have hxl2:xs.length=2:=hxl
 clear hxl
 obtain⟨y0,y1,rfl⟩:=pair_cs hxl2
 have h0:DataW.trod enc Tryz.prog W base sp held n 3 ((cs.drop 0).take (Tryz.prog.cellsOf 3))=some y0:=hall 0 _ rfl
 have h1:DataW.trod enc Tryz.prog W base sp held n 9 ((cs.drop 1).take (Tryz.prog.cellsOf 9))=some y1:=hall 1 _ rfl
 clear hall hx h
 rw[hc]at h0
 rw[hc9]at h1
 obtain⟨z0,e0,-,w0⟩:=DataW.trod_int Tryz.underlying3 h0
 obtain⟨s1,e1,-,w1⟩:=DataW.trod_string Tryz.underlying9 h1
 clear h0 h1
 obtain⟨u0,u1,rfl⟩:=pair_cs hl
 simp only[List.drop_zero,List.drop_succ_cons,List.take_succ_cons,List.take_zero,List.cons.injEq,and_true]at e0 e1
 refine⟨⟨z0,s1.data.toList⟩,by rw[e0,e1,bstr_self],?_⟩
 have e:s1.data.toList.length=s1.size:=by simp
 unfold maxLen at w1
 simp only
 omega
theorem imgs_of {H:Type} {enc:TypeId×Value→H} {W:World} {base:Nat} {sp:Nat→Bool} {held:Bool} {v:Value} {d:DataW H} {ps:List MemPlace} {r:Reach} {b0:Nat} (hval:Value.okWide Tryz.prog W r b0 59 v) (h:DataW.Trod enc Tryz.prog W base sp held 59 v d ps):∃xs,ImgsIn W v xs∧xs.length≤9223372036854775807:=by
 obtain⟨a0,len0,cap0,rfl⟩:=okWide_slice Tryz.underlying59 hval
 obtain⟨fuel,h⟩:=h
 rcases Deep.open_slice Tryz.underlying59 h with ⟨hcs,_⟩|⟨a,len,cap,m,n,D,Pl,hcs,_,hlc,hcm,hm,_,hel⟩
 ·simp[Value.cells]at hcs
  obtain⟨rfl,rfl,rfl⟩:=hcs
  exact⟨[],.inl ⟨rfl,_,_,rfl⟩,by simp⟩
 ·simp[Value.cells]at hcs
  obtain⟨rfl,rfl,rfl⟩:=hcs
  have hlm:len0≤m:=by rw[hm];split <;> omega
  have hmx:len0≤9223372036854775807:=by unfold maxLen at hcm;omega
  by_cases h0:len0=0
  ·subst h0
   exact⟨[],.inl ⟨rfl,_,_,rfl⟩,by simp⟩
  ·have hc2:Tryz.prog.cellsOf 23=2:=by kernel_rfl
   have each:∀i,i<len0→∃it:Int×Strd.Bs,(W.cell? (a.add (i*2))=some (.int .i64 it.1)∧W.cell? (a.add (i*2+1))=some (.string (bstr it.2)))∧it.2.length≤9223372036854775807:=by
    intro i hi
    obtain⟨cs',h1,h2⟩:=hel i (by omega)
    rw[hc2]at h1
    obtain⟨_,_,hcell⟩:=World.cells?_some h1
    obtain⟨it,rfl,hr⟩:=img_cells h2
    have c0:=hcell 0 (by omega)
    have c1:=hcell 1 (by omega)
    rw[Deep.add_add]at c0 c1
    exact⟨it,⟨by simpa using c0,by simpa using c1⟩,hr⟩
   obtain⟨q,hq⟩:=@Deep.choose_lt (Int×Strd.Bs) ⟨(0,[])⟩ _ _ each
   obtain⟨b,off,spot⟩:=a
   have hspot:spot=none:=by
    have:=World.cell?_spot (hq 0 (by omega)).1.1
    simpa [Addr.add] using this
   subst hspot
   have hadd:∀k,(⟨b,off,none⟩:Addr).add k=⟨b,off+k,none⟩:=fun k=>by unfold Addr.add;split <;> simp_all
   refine⟨(List.range len0).map q,.inr ⟨b,off,cap0,by rw[List.length_map,List.length_range],?_,fun i hi=>?_⟩,by simpa using hmx⟩
   ·exact World.block_lt_of_cell? W _ (hq 0 (by omega)).1.1
   ·rw[List.length_map,List.length_range]at hi
    simp only[List.getElem_map,List.getElem_range]
    have:=hq i hi
    simp only[hadd]at this
    exact⟨this.1.1,this.1.2,this.2⟩
end Go.Proofs.YtegiloiojloaoaaGreatDoor
namespace Go.Proofs.YtegiloiojloaoaaGreatDoor
open Go.RowKit Go.Shelf Go.Sort Go.Maps
theorem image_small (r:Strd.Rd) (hW:WfR r) (hQ:∀l∈r.lines,WfQ l) (st:List Int) (hst:∀a∈st,0≤a∧a≤2^31):∀(ls:List Strd.Line) (fs bs:List Int),(∀l∈ls,l∈r.lines)→(Strd.image r.lines st ls fs bs).length≤1024*ls.length
 |[],_,_,_=>by simp[Strd.image]
 |_::_,[],_,_=>by simp[Strd.image]
 |_::_,_::_,[],_=>by simp[Strd.image]
 |l::ls,f::fs,b::bs,h=>by
  have h1:=bytes_small (Strd.placed r.lines st l.ins) f b (placed_wfA r hW st hst l (h l (by simp)) (hQ l (h l (by simp))))
  have h2:=image_small r hW hQ st hst ls fs bs (fun x hx=>h x (by simp[hx]))
  rw[Strd.image,List.length_append,List.length_cons]
  omega
theorem asm_img (s:Strd.Bs):(Strd.assemble s).1.2.length≤9223372036854775807:=by
 have hok:=layOut_ok s
 have hWr:=source_wfR s
 have hQr:=source_wfQ s
 rw[asm_eq s]
 by_cases he:(ZM s).2.2=0
 ·rw[if_neg (by simp[he]),hok he]
  generalize (Strd.QM s).1=r at *
  have hfl:(Strd.QJ r.org r.lines).length=r.lines.length:=by unfold Strd.QJ;exact settle_len _ _ _ _ (by simp[Strd.Q5])
  have hst:∀a∈Strd.starts r.org r.lines (Strd.QJ r.org r.lines),0≤a∧a≤2^31:=by
   intro a ha
   obtain⟨k,hk,rfl⟩:=List.getElem_of_mem ha
   rw[starts_len _ _ _ hfl]at hk
   have h1:=starts_small r hWr (Strd.QJ r.org r.lines) hfl k (by omega)
   rw[gD,gE (by rw[starts_len _ _ _ hfl];exact hk)]at h1
   simp only[Option.getD_some]at h1
   have:=hWr.len
   omega
  have h2:=image_small r hWr hQr _ hst r.lines (Strd.QJ r.org r.lines) (Strd.starts r.org r.lines (Strd.QJ r.org r.lines)) (fun _ h=>h)
  have h3:=hWr.len
  show (Strd.image r.lines (Strd.starts r.org r.lines (Strd.QJ r.org r.lines)) r.lines (Strd.QJ r.org r.lines) (Strd.starts r.org r.lines (Strd.QJ r.org r.lines))).length≤9223372036854775807
  omega
 ·rw[if_pos he]
  exact Nat.zero_le _
theorem dis_len (org:Int) (s:Strd.Bs):(Strd.disassemble org s).1.length≤9223372036854775807:=by
 cases hM:Strd.mayBe org s with
 |false=>
  unfold Strd.disassemble
  rw[hM,if_neg (by decide)]
  exact Nat.zero_le _
 |true=>
  unfold Strd.disassemble
  rw[if_pos hM]
  have hM':=hM
  unfold Strd.mayBe at hM'
  simp only[Bool.and_eq_true,decide_eq_true_eq]at hM'
  have hpl:Strd.isPlace org=true:=hM'.1.1
  have hs:s.length≤400:=hM'.1.2
  have h1:=(Strd.org_read org hpl).2.2.2
  have h2:=Strd.chain_len _ _ _ (Strd.dis_chain s.length org s (Nat.le_refl _))
  show (Strd.disText (Strd.QQ Strd.orgOp [org]::Strd.disFrom s.length org s)).length≤9223372036854775807
  rw[Strd.disText_cons]
  simp only[List.length_append,List.length_singleton]
  omega
def AllSt (w V:World) (n:Nat):Prop:=∃(E:List (Sl×Int)) (pa:Option Addr) (ca:Nat),E.length=4*n∧(∀e∈E,e.1.2.1≤3000000)∧Rf.BookAt w.heap.size V w.heap.size E (n:Int) pa ca∧Below w.heap.size w V
theorem AllSt.bel {w V:World} {n:Nat} (h:AllSt w V n):Below w.heap.size w V:=by
 obtain⟨_,_,_,_,_,_,h⟩:=h
 exact h
theorem AllSt.below {w V V':World} {n:Nat} (h:AllSt w V n) (hb:Below V.heap.size V V'):AllSt w V' n:=by
 obtain⟨E,pa,ca,h1,h2,h3,h4⟩:=h
 exact⟨E,pa,ca,h1,h2,h3.below hb,QE h4 hb⟩
theorem AllSt.start (w:World):AllSt w (w.alloc (.cells #[.slice none 0 0,.int .i64 0] 31)) 0:=
 ⟨[],none,0,rfl,(fun e he=>by cases he),Rf.BookAt.start w,QF w _⟩
theorem st_assembles {w V:World} {n:Nat} (s:Strd.Bs) (hsl:s.length≤9223372036854775807) (h11:11≤w.heap.size) (hT:Tabs w) (h:AllSt w V n) :
  Calls Tryz.prog 3 #[.string (bstr s)] V fun e V'=>e=.returned (.bool true)∧AllSt w V' n:=
 (Assembles_c s V hsl (Nat.le_trans h11 h.bel.size) (hT.below h.bel)).mono fun _ _ ⟨he,hb⟩=>⟨he,h.below hb⟩
theorem st_assembled {w V:World} {n:Nat} (s:Strd.Bs) (hsl:s.length≤9223372036854775807) (h11:11≤w.heap.size) (hT:Tabs w) (h:AllSt w V n) :
  Calls Tryz.prog 11 #[.string (bstr s)] V fun e V'=>e=.returned (.bool true)∧AllSt w V' n:=
 (assembled_c s V hsl (Nat.le_trans h11 h.bel.size) (hT.below h.bel)).mono fun _ _ ⟨he,hb⟩=>⟨he,h.below hb⟩
theorem st_listed {w V:World} {n:Nat} (s:Strd.Bs) (hsl:s.length≤9223372036854775807) (h11:11≤w.heap.size) (hT:Tabs w) (hn:n≤2097152) (h:AllSt w V n) :
  Calls Tryz.prog 12 #[.string (bstr s),.pointer (some ⟨w.heap.size,0,none⟩)] V fun e V'=>e=.returned (.bool true)∧AllSt w V' (n+1):=by
 obtain⟨E,pa,ca,h1,h2,h3,h4⟩:=h
 refine(listed_c w.heap.size w.heap.size s V E (n:Int) pa ca h3 hsl (Nat.le_trans h11 h4.size) (hT.below h4) h4.size (by omega) (by omega) h2).mono ?_
 rintro e V' ⟨rfl,⟨E',pa',ca',hbk,hl,hn'⟩,hk⟩
 exact⟨rfl,E',pa',ca',by omega,hn',hbk,h4.trans (hk.below h4.size)⟩
theorem st_asm {w V:World} {n:Nat} (s:Strd.Bs) (hsl:s.length≤9223372036854775807) (h11:11≤w.heap.size) (hT:Tabs w) (h:AllSt w V n) :
  Calls Tryz.prog 10 #[.string (bstr s)] V fun e V'=>e=.returned (.tuple #[.agg #[.int .i64 (Strd.assemble s).1.1,.string (bstr (Strd.assemble s).1.2)],.int .i64 (Strd.assemble s).2.1,.int .i64 (Strd.assemble s).2.2])∧AllSt w V' n:=
 (Assemble_any s V hsl (Nat.le_trans h11 h.bel.size) (hT.below h.bel)).mono fun _ _ ⟨he,hb⟩=>⟨he,h.below hb⟩
theorem st_back {w V:World} {n:Nat} (org:Int) (s:Strd.Bs) (hsl:s.length≤9223372036854775807) (h11:11≤w.heap.size) (hT:Tabs w) (hP:P10 w) (h:AllSt w V n) :
  Calls Tryz.prog 24 #[.agg #[.int .i64 org,.string (bstr s)]] V fun e V'=>e=.returned (.bool true)∧AllSt w V' n:=
 (back_l org s V hsl (hT.below h.bel) (hP.below h.bel h11) (Nat.le_trans h11 h.bel.size)).mono fun _ _ ⟨he,hb⟩=>⟨he,h.below hb⟩
theorem st_dis {w V:World} {n:Nat} (org:Int) (s:Strd.Bs) (hsl:s.length≤9223372036854775807) (h11:11≤w.heap.size) (hT:Tabs w) (hP:P10 w) (h:AllSt w V n) :
  Calls Tryz.prog 23 #[.agg #[.int .i64 org,.string (bstr s)]] V fun e V'=>e=.returned (.tuple #[.string (bstr (Strd.disassemble org s).1),.int .i64 (Strd.disassemble org s).2])∧AllSt w V' n:=
 (Dis_c org s V hsl (hT.below h.bel) (hP.below h.bel h11) (Nat.le_trans h11 h.bel.size)).mono fun _ _ ⟨he,hb⟩=>⟨he,h.below hb⟩
theorem All_c (vs vi:Value) (xs:List Strd.Bs) (ys:List (Int×Strd.Bs)) (w:World) (hX:StrsIn w vs xs) (hY:ImgsIn w vi ys) (hx:xs.length≤1048576) (hy:ys.length≤9223372036854775807) (h11:11≤w.heap.size) (hT:Tabs w) (hP:P10 w) :
  Calls Tryz.prog 9 #[vs,vi] w fun e w'=>e=.returned (.bool true)∧Below w.heap.size w w':=by
 have HX:=QB hX
 have HY:=QB hY
 obtain⟨pv,cv,rfl⟩:=hX.shape
 obtain⟨pi,ci,rfl⟩:=hY.shape
 have C3:=QB (fun (V:World) n (h:AllSt w V n)=>st_assembles [] (Nat.zero_le _) h11 hT h)
 have C11:=QB (fun s hs (V:World) n (h:AllSt w V n)=>st_assembled s hs h11 hT h)
 have C12:=QB (fun s hs (V:World) n hn (h:AllSt w V n)=>st_listed s hs h11 hT hn h)
 have C10:=QB (fun s hs (V:World) n (h:AllSt w V n)=>st_asm s hs h11 hT h)
 have C24:=QB (fun org s hs (V:World) n (h:AllSt w V n)=>st_back org s hs h11 hT hP h)
 have C23:=QB (fun org s hs (V:World) n (h:AllSt w V n)=>st_dis org s hs h11 hT hP h)
 have HS:=QB (AllSt.start w)
 clear hX hY hT hP
 go_enter Tryz.func9,Tryz.ntmps9
 go_upto_region 2 with fail
 generalize w.alloc (.cells #[.slice none 0 0,.int .i64 0] 31)=W0 at *
 go_wp2_with (go_at_call 3;refine(QA C3 _ _ (QA HS)).mono ?_;rintro e w1 ⟨rfl,hs1⟩;have Hs1:=QB hs1;clear hs1)
 go_loopw [6,7] (fun c6 c7 wr=>∃a:Nat,a≤2∧c6=.bool true∧c7=.int .i64 a∧AllSt w wr (a*xs.length)) (fun _ c _=>2-(intOf c).toNat)
 case atStart=>exact⟨0,by omega,rfl,rfl,by rw[Nat.zero_mul];exact QA Hs1⟩
 case round=>
  obtain⟨a,ha,rfl,rfl,hS⟩:=hrel
  have HSr:=QB hS
  clear hS
  by_cases hlt:a<2
  ·have hltI:(a:Int)<2:=by omega
   have q1:IntKind.i64.wrap ((a:Int)+1)=(a:Int)+1:=IntWalk.i64_in _ (by omega)
   have hna:a*xs.length≤xs.length:=by
    have:=Nat.mul_le_mul_right xs.length (show a≤1 by omega)
    omega
   go_upto_block 2 with fail
   go_cut [6] (fun c6 wz=>c6=.bool true∧AllSt w wz (a*xs.length+xs.length))
   case first=>
    as_aux_lemma=>
     go_wp2_with fail
     go_loopw [6,8] (fun c6 c8 wr=>∃i:Nat,i≤xs.length∧c6=.bool true∧c8=.int .i64 i∧AllSt w wr (a*xs.length+i)) (fun _ c _=>xs.length-(intOf c).toNat)
     case atStart=>exact⟨0,by omega,rfl,rfl,QA HSr⟩
     case round=>
      obtain⟨i,hi,rfl,rfl,hSi⟩:=hrel
      have HSi:=QB hSi
      by_cases hil:i<xs.length
      ·have hilI:(i:Int)<(xs.length:Int):=by omega
       have q2:IntKind.i64.wrap ((i:Int)+1)=(i:Int)+1:=IntWalk.i64_in _ (by omega)
       obtain⟨b,off,hpv,hbl,s,hxc,hsl⟩:=(QA HX).at pv cv rfl i hil
       subst hpv
       have x0:wr.cell? ⟨b,off+i,none⟩=some (.string (bstr s)):=(hSi.bel.cell (p:=⟨b,off+i,none⟩) hbl).trans hxc
       have hb0:b<wr.heap.size:=Nat.lt_of_lt_of_le hbl hSi.bel.size
       clear hSi
       go_upto_region 10 with (go_at_call 11;refine(QA C11 s hsl _ _ (QA HSi)).mono ?_;rintro e w2 ⟨rfl,hs2⟩)
       have x2:w2.cell? ⟨b,off+i,none⟩=some (.string (bstr s)):=(hs2.bel.cell (p:=⟨b,off+i,none⟩) hbl).trans hxc
       have hb2:b<w2.heap.size:=Nat.lt_of_lt_of_le hbl hs2.bel.size
       have Hs2:=QB hs2
       clear hs2 x0 hb0
       go_upto_region 11 with (go_at_call 12;refine(QA C12 s hsl _ _ (by omega) (QA Hs2)).mono ?_;rintro e w3 ⟨rfl,hs3⟩)
       have x3:w3.cell? ⟨b,off+i,none⟩=some (.string (bstr s)):=(hs3.bel.cell (p:=⟨b,off+i,none⟩) hbl).trans hxc
       have hb3:b<w3.heap.size:=Nat.lt_of_lt_of_le hbl hs3.bel.size
       have Hs3:=QB hs3
       clear hs3 x2 hb2
       have C10':=QB (QA C10 s hsl _ _ (QA Hs3))
       have him:=asm_img s
       generalize Strd.assemble s=R at *
       obtain⟨⟨ro,rb⟩,rl,re⟩:=R
       simp only at C10' him
       go_upto_region 12 with (go_at_call 10;refine(QA C10').mono ?_;rintro e w4 ⟨rfl,hs4⟩)
       have Hs5:=QB (hs4.below (QF w4 (.cells #[.int .i64 ro,.string (bstr rb)] 23)))
       have Hx5:=QB (QH w4 (.cells #[.int .i64 ro,.string (bstr rb)] 23))
       generalize w4.alloc (.cells #[.int .i64 ro,.string (bstr rb)] 23)=w5 at *
       generalize w4.heap.size=g4 at *
       have y0:=QC (QA Hx5) 0
       have y1:=QC (QA Hx5) 1
       simp only[gA,gZ,gS]at y0 y1
       have hl5:=QD (QA Hx5)
       clear hs4 x3 hb3 C10' Hs2 Hs3
       go_wp2_with (go_at_call 24;refine(QA C24 ro rb him _ _ (QA Hs5)).mono ?_;rintro e w6 ⟨rfl,hs6⟩;have Hs6:=QB hs6;clear hs6)
       go_roundw
       case rel=>exact⟨i+1,by omega,rfl,by go_num,QA Hs6⟩
       case measure=>simp[intOf];omega
      ·have hilI:¬(i:Int)<(xs.length:Int):=by omega
       clear hSi
       go_wp2
       go_meet
       have e:i=xs.length:=by omega
       have h:=QA HSi
       rw[e]at h
       exact⟨rfl,h⟩
   case rest=>
    as_aux_lemma=>
     obtain⟨rfl,hSz⟩:=hcut
     obtain⟨wz,hwz⟩:∃x,x=wc:=⟨_,rfl⟩
     subst hwz
     have HSz:=QB hSz
     clear hSz
     go_wp2_with fail
     go_loopw [6,15] (fun c6 c15 wr=>∃i:Nat,i≤ys.length∧c6=.bool true∧c15=.int .i64 i∧AllSt w wr (a*xs.length+xs.length)) (fun _ c _=>ys.length-(intOf c).toNat)
     case atStart=>exact⟨0,by omega,rfl,rfl,QA HSz⟩
     case round=>
      obtain⟨i,hi,rfl,rfl,hSi⟩:=hrel
      have HSi:=QB hSi
      by_cases hil:i<ys.length
      ·have hilI:(i:Int)<(ys.length:Int):=by omega
       have q2:IntKind.i64.wrap ((i:Int)+1)=(i:Int)+1:=IntWalk.i64_in _ (by omega)
       obtain⟨b,off,hpv,hbl,o,s,hoc,hxc,hsl⟩:=(QA HY).at pi ci rfl i hil
       subst hpv
       have x0:wr.cell? ⟨b,off+i*2,none⟩=some (.int .i64 o):=(hSi.bel.cell (p:=⟨b,off+i*2,none⟩) hbl).trans hoc
       have x1:wr.cell? ⟨b,off+i*2+1,none⟩=some (.string (bstr s)):=(hSi.bel.cell (p:=⟨b,off+i*2+1,none⟩) hbl).trans hxc
       have hb0:b<wr.heap.size:=Nat.lt_of_lt_of_le hbl hSi.bel.size
       clear hSi
       go_upto_region 18 with (go_at_call 24;refine(QA C24 o s hsl _ _ (QA HSi)).mono ?_;rintro e w2 ⟨rfl,hs2⟩)
       have y0:w2.cell? ⟨b,off+i*2,none⟩=some (.int .i64 o):=(hs2.bel.cell (p:=⟨b,off+i*2,none⟩) hbl).trans hoc
       have y1:w2.cell? ⟨b,off+i*2+1,none⟩=some (.string (bstr s)):=(hs2.bel.cell (p:=⟨b,off+i*2+1,none⟩) hbl).trans hxc
       have hb2:b<w2.heap.size:=Nat.lt_of_lt_of_le hbl hs2.bel.size
       have C23':=QB (QA C23 o s hsl _ _ hs2)
       have hds:=dis_len o s
       generalize Strd.disassemble o s=D at *
       obtain⟨db,de⟩:=D
       simp only at C23' hds
       clear hs2 x0 x1 hb0
       go_upto_region 19 with (go_at_call 23;refine(QA C23').mono ?_;rintro e w3 ⟨rfl,hs3⟩)
       have Hs3:=QB hs3
       clear hs3 y0 y1 hb2 C23'
       go_wp2_with (go_at_call 11;refine(QA C11 db hds _ _ (QA Hs3)).mono ?_;rintro e w4 ⟨rfl,hs4⟩;have Hs4:=QB hs4;clear hs4)
       go_roundw
       case rel=>exact⟨i+1,by omega,rfl,by go_num,QA Hs4⟩
       case measure=>simp[intOf];omega
      ·have hilI:¬(i:Int)<(ys.length:Int):=by omega
       clear hSi
       go_wp2
       go_roundw
       case rel=>
        have h:=QA HSi
        rw[←Nat.succ_mul]at h
        exact⟨a+1,by omega,rfl,by go_num,h⟩
       case measure=>simp[intOf];omega
  ·have hltI:¬(a:Int)<2:=by omega
   go_wp2
   go_ret
   exact⟨rfl,(QA HSr).bel⟩
end Go.Proofs.YtegiloiojloaoaaGreatDoor
