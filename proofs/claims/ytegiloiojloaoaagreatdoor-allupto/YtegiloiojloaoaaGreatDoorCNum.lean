/- Contracts of package read: numbers, digits, the word of an instruction. -/
import Derived.Test.YtegiloiojloaoaaGreatDoorCSpec
import Derived.Test.YtegiloiojloaoaaGreatDoorCRune
set_option linter.unusedVariables false
set_option linter.unusedSimpArgs false
set_option maxHeartbeats 2000000
namespace Go.Proofs.YtegiloiojloaoaaGreatDoor
open Go.RowKit Go.Shelf
def runeIdx (l:Strd.Bs) (r:Nat):Int:=if r<128 then Lib.indexByte l r.toUInt8 else -1
theorem IndexRune_c (s:ByteArray) (r:Nat) (w:World) (hs0:4≤s.size) (hs:s.size≤1000) (hascii:∀b∈s.data.toList,b.toNat<128) (hr2:r≤0x10FFFF) (hv:r<128∨Utf8.valid (r:Int)=true) :
  Calls Tryz.prog 198 #[.string s,.int .i32 (r:Int)] w fun e w'=>e=.returned (.int .i64 (runeIdx s.data.toList r))∧Below w.heap.size w w':=by
 unfold runeIdx
 by_cases h:r<128
 ·rw[if_pos h]
  refine(Tryz.strings_IndexRune_ascii s (r:Int) w (by omega) (by omega)).mono ?_
  rintro e w' ⟨rfl,rfl⟩
  exact⟨by rw[Int.toNat_natCast],Below.refl _ _⟩
 ·rw[if_neg h]
  by_cases h2:r=65533
  ·subst h2
   exact IndexRune_error s w hs hascii
  ·exact IndexRune_valid s r w hs0 hs hascii (by omega) hr2 h2 (hv.resolve_left h)
def digs:Strd.Bs:=[48,49,50,51,52,53,54,55,56,57,97,98,99,100,101,102]
def dIdx (b:Nat) (c:UInt8):Int:=if Strd.digitVal c<b then (Strd.digitVal c:Int) else -1
theorem dig_all:∀n:Fin 128,Lib.indexByte (digs.take 10) (UInt8.ofNat n.val)=dIdx 10 (UInt8.ofNat n.val)∧Lib.indexByte (digs.take 16) (UInt8.ofNat n.val)=dIdx 16 (UInt8.ofNat n.val):=by decide +kernel
theorem dig_idx (b:Nat) (hb:b=10∨b=16) (a:UInt8) (r d:Nat) (hcase:(a.toNat<128∧r=a.toNat∧d=1)∨(128≤a.toNat∧128≤r)):runeIdx (digs.take b) r=dIdx b a:=by
 unfold runeIdx
 rcases hcase with ⟨h1,rfl,_⟩|⟨h1,h2⟩
 ·rw[if_pos h1]
  have e:(a.toNat).toUInt8=a:=by simp[Nat.toUInt8]
  have e2:UInt8.ofNat a.toNat=a:=by simp
  have:=dig_all ⟨a.toNat,h1⟩
  simp only[e2]at this
  rw[e]
  rcases hb with rfl|rfl
  ·exact this.1
  ·exact this.2
 ·rw[if_neg (by omega)]
  have hd:Strd.digitVal a=99:=by
   unfold Strd.digitVal
   rw[if_neg (by rw[digit_nat];simp;omega),if_neg (by simp only[Bool.and_eq_true,decide_eq_true_eq,UInt8.le_iff_toNat_le];intro h;have:a.toNat≤102:=h.2;omega)]
  unfold dIdx
  rw[hd,if_neg (by omega)]
theorem cutHead_eq (c:UInt8) (l:Strd.Bs):Strd.ZB c l=(Lib.trimPrefix l [c],Lib.hasPrefix l [c]):=by
 cases l with
 |nil=>rfl
 |cons d t=>
  unfold Strd.ZB Lib.trimPrefix Lib.hasPrefix
  by_cases h:d=c
  ·subst h;simp
  ·have:(c==d)=false:=by simpa using fun e=>h e.symm
   have h2:([c]:Strd.Bs).isPrefixOf (d::t)=false:=by simp only[List.isPrefixOf,this,Bool.false_and]
   rw[h2]
   simp only[if_neg h]
   rfl
theorem digits_step (b acc:Nat) (c:UInt8) (t:Strd.Bs) (h:0≤dIdx b c):Strd.QY b acc (c::t)=Strd.QY b (acc*b+(dIdx b c).toNat) t∧dIdx b c<b:=by
 unfold dIdx at *
 by_cases hd:Strd.digitVal c<b
 ·rw[if_pos hd,Strd.QY,if_pos hd];exact⟨by rw[Int.toNat_natCast],by omega⟩
 ·rw[if_neg hd]at h;omega
theorem digits_bad (b acc:Nat) (c:UInt8) (t:Strd.Bs) (h:dIdx b c<0):Strd.QY b acc (c::t)=none:=by
 unfold dIdx at *
 by_cases hd:Strd.digitVal c<b
 ·rw[if_pos hd]at h;omega
 ·rw[Strd.QY,if_neg hd]
theorem digits_high (b:Nat) (c:UInt8) (hb:b≤16) (h:0≤dIdx b c):c.toNat<128:=by
 unfold dIdx at h
 by_cases hd:Strd.digitVal c<b
 ·unfold Strd.digitVal at hd
  split at hd
  ·rename_i h1;rw[digit_nat]at h1;simp at h1;omega
  ·split at hd
   ·rename_i h2;simp only[Bool.and_eq_true,decide_eq_true_eq,UInt8.le_iff_toNat_le]at h2;have:c.toNat≤102:=h2.2;omega
   ·omega
 ·rw[if_neg hd]at h;omega
theorem isDigit_c (s:ByteArray) (w:World) (hs:s.size≤2^40) :
  Calls Tryz.prog 190 #[.string s] w fun e w'=>e=.returned (.bool (Strd.isDigit1 s.data.toList))∧w'=w:=by
 have hl:s.size=s.data.toList.length:=ZY s
 by_cases h1:s.size=1
 ·obtain⟨c,hc⟩:∃c,s.data.toList=[c]:=by
   rw[hl]at h1
   exact List.length_eq_one_iff.1 h1
  obtain rfl:s=⟨#[c]⟩:=by apply QZ;rw[hc]
  clear hl h1 hc
  have hfin:Strd.isDigit1 [c]=(decide ((48:Int)≤c.toNat)&&decide ((c.toNat:Int)≤57)):=by
   show Strd.digit c=_
   rw[digit_nat,Bool.eq_iff_iff];simp only[Bool.and_eq_true,decide_eq_true_eq];omega
  have Hfin:=QB hfin
  clear hfin
  go_enter Tryz.func190,Tryz.ntmps190
  go_wp2
  all_goals go_ret
  all_goals refine⟨ret_bool ?_,rfl⟩
  all_goals (show _=Strd.isDigit1 [c];rw[QA Hfin,Bool.eq_iff_iff])
  all_goals have ec:∀h,((⟨#[c]⟩:ByteArray)[0]'h).toNat=c.toNat:=fun _=>rfl
  all_goals simp only[ec]at *
  all_goals simp only[Bool.and_eq_true,decide_eq_true_eq,Bool.false_eq_true,false_iff]
  all_goals omega
 ·have h1':((s.size:Int)==1)=false:=by rw[beq_eq_false_iff_ne];omega
  have hfin:Strd.isDigit1 s.data.toList=false:=by
   unfold Strd.isDigit1
   split
   ·rename_i c h;rw[hl,h]at h1;simp at h1
   ·rfl
  rw[hfin]
  clear hfin hl h1
  go_enter Tryz.func190,Tryz.ntmps190
  go_wp2
  go_ret
  exact⟨rfl,rfl⟩
theorem digs_extract (b:Nat):((⟨#[48,49,50,51,52,53,54,55,56,57,97,98,99,100,101,102]⟩:ByteArray).extract 0 b).data.toList=digs.take b:=by
 rw[ZV];rfl
theorem digs_ascii (b:Nat):∀c∈digs.take b,c.toNat<128:=by
 intro c hc
 have:=List.mem_of_mem_take hc
 revert this
 have h:∀c∈digs,c.toNat<128:=by decide
 exact h c
theorem pow_step (b v d pos:Nat) (hb:b≤16) (hv:v<16^pos) (hd:d<b):v*b+d<16^(pos+1):=by
 have h1:v*b≤v*16:=Nat.mul_le_mul_left _ hb
 have h2:(v+1)*16≤16^pos*16:=Nat.mul_le_mul_right _ hv
 rw[Nat.pow_succ]
 omega
theorem pow_le8 (pos:Nat) (h:pos≤8):16^pos≤4294967296:=by
 have:=Nat.pow_le_pow_right (n:=16) (by omega) h
 simpa using this
def numOf (neg:Bool) (o:Option Nat):Option Int:=o.map fun v=>if neg then -(v:Int) else v
theorem number_eq (l:Strd.Bs):Strd.number l=if 1≤(Lib.trimPrefix (Lib.trimPrefix l [45]) [36]).length∧(Lib.trimPrefix (Lib.trimPrefix l [45]) [36]).length≤8 then numOf (Lib.hasPrefix l [45]) (Strd.QY (if Lib.hasPrefix (Lib.trimPrefix l [45]) [36] then 16 else 10) 0 (Lib.trimPrefix (Lib.trimPrefix l [45]) [36])) else none:=by
 unfold Strd.number numOf
 simp only[cutHead_eq]
theorem digs_size (b:Nat) (hb:b=10∨b=16):((⟨#[48,49,50,51,52,53,54,55,56,57,97,98,99,100,101,102]⟩:ByteArray).extract 0 b).size=b:=by
 rw[ZY,digs_extract]
 rcases hb with rfl|rfl <;> rfl
theorem sign_valid (s:ByteArray) (pos r d:Nat) (h:pos<s.size) (hd:Utf8.decode s pos=(r,d)):r<128∨Utf8.valid (r:Int)=true:=by
 obtain⟨a,_,he⟩:=drop_ex s pos h
 rw[decode_dec s pos h,he]at hd
 by_cases h1:a.toNat<128
 ·rw[dec_ascii _ _ h1]at hd;cases hd;exact .inl h1
 ·rw[dec_high _ _ h1]at hd
  right
  have:=dec3_valid a.toNat (s.data.toList.drop (pos+1))
  rw[hd]at this
  exact this
theorem number_r (s:ByteArray) (w:World) (hs:s.size≤2^40) :
  Calls Tryz.prog 191 #[.string s] w fun e w'=>e=.returned (.tuple #[.int .i64 ((Strd.number s.data.toList).getD 0),.bool (Strd.number s.data.toList).isSome])∧Below w.heap.size w w':=by
 have hnum:=number_eq s.data.toList
 generalize hn:Lib.hasPrefix s.data.toList [45]=neg at hnum
 generalize ht:Lib.trimPrefix s.data.toList [45]=t1 at hnum
 generalize hx:Lib.hasPrefix t1 [36]=sx at hnum
 generalize hy:Lib.trimPrefix t1 [36]=D at hnum
 generalize Strd.number s.data.toList=N at hnum
 have Hn:=QB hn
 have Ht:=QB ht
 have Hx:=QB hx
 have Hy:=QB hy
 have HN:=QB hnum
 clear hn ht hx hy hnum
 go_enter Tryz.func191,Tryz.ntmps191
 go_wp2_with fail
 refine(Tryz.strings_CutPrefix _ _ _).mono ?_
 rintro e w' ⟨rfl,rfl⟩
 rw[show (⟨#[45]⟩:ByteArray).data.toList=[45] from rfl,QA Hn,QA Ht]
 go_wp2_with fail
 refine(Tryz.strings_CutPrefix _ _ _).mono ?_
 rintro e w' ⟨rfl,rfl⟩
 rw[show (⟨#[36]⟩:ByteArray).data.toList=[36] from rfl,show (⟨t1.toArray⟩:ByteArray).data.toList=t1 from Q4 t1,QA Hx,QA Hy]
 obtain⟨B,hB⟩:∃B:ByteArray,B=bstr D:=⟨_,rfl⟩
 have hBl:B.data.toList=D:=by rw[hB]
 have hBs:B.size=D.length:=by rw[hB];exact ZA D
 rw[show (⟨D.toArray⟩:ByteArray)=B from hB.symm]
 have HBl:=QB hBl
 clear hB hBl
 by_cases hlen:1≤D.length∧D.length≤8
 ·have hNg:N=numOf neg (Strd.QY (if sx then 16 else 10) 0 D):=by rw[QA HN,if_pos hlen]
  have HNg:=QB hNg
  clear hNg HN
  have hb1:1≤B.size:=by omega
  have hb8:B.size≤8:=by omega
  have HBs:=QB hBs
  clear hlen hBs
  cases sx
  ·go_wp2
   go_loopw [8] (fun v wr=>∃(pos val:Nat),pos≤B.size∧v=.int .i64 val∧val<16^pos∧wr.heap[w'.heap.size]? = some (.stringIter B pos)∧Below w'.heap.size w' wr∧Strd.QY 10 0 D=Strd.QY 10 val (D.drop pos)) (fun _ wr=>B.size-wr.iterPos w'.heap.size)
   case atStart=>exact⟨0,0,by omega,rfl,by decide,World.iter_heap _ _ _,QF _ _,by rw[List.drop_zero]⟩
   case round=>
    obtain⟨pos,val,hpos,rfl,hval,hit,hbl,hsp⟩:=hrel
    have hp8:=pow_le8 pos (by omega)
    have hv32:val<4294967296:=by omega
    have Hval:=QB hval
    have Hsp:=QB hsp
    have Hit:=QB hit
    have hip:=iterPos_of hit
    clear hsp hval hp8
    by_cases hlt:pos<B.size
    ·obtain⟨a,r,d,ha,he,hdec,hd1,hd2,hr,hcase⟩:=sign_step B pos hlt
     have hvl:=sign_valid B pos r d hlt hdec
     have hnx:=fun ty=>Lib.run_next_any_at (P:=Tryz.prog) wr w'.heap.size B pos ty hit hlt
     rw[hdec]at hnx
     dsimp only at hnx
     rw[QA HBl]at he
     have hdi:=dig_idx 10 (by omega) a r d (hcase.imp id (fun h=>⟨h.1,h.2.1⟩))
     have Hdi:=QB hdi
     have Hcase:=QB hcase
     have He:=QB he
     clear hit hcase ha hdec hdi he
     go_wp2_with fail
     refine(IndexRune_c _ r _ (by rw[digs_size 10 (by omega)];omega) (by rw[digs_size 10 (by omega)];omega) (by rw[digs_extract];exact digs_ascii 10) hr hvl).mono ?_
     rintro e w2 ⟨rfl,hb2⟩
     rw[digs_extract,QA Hdi]
     have hsz2:w'.heap.size<wr.heap.size:=QD (QA Hit)
     have Hit2:=QB (bbox hb2 (Lib.iterAt_heap _ _ _ _ _ (QA Hit)))
     have hbl2:Below w'.heap.size w' w2:=(Lib.below_iterAt hbl (Nat.le_refl _) _ _).trans (hb2.mono (by rw[Lib.iterAt_size];omega))
     clear hnx hb2
     by_cases hneg:dIdx 10 a<0
     ·have hbad:N=none:=by rw[QA HNg];simp only[Bool.false_eq_true,if_false,if_true];rw[QA Hsp,QA He,digits_bad _ _ _ _ hneg];rfl
      subst hbad
      go_wp2
      go_ret2
      exact⟨rfl,hbl2⟩
     ·obtain⟨k,hk⟩:=Int.eq_ofNat_of_zero_le (show 0≤dIdx 10 a by omega)
      have hst:=digits_step 10 val a (D.drop (pos+1)) (by omega)
      have ha1:=digits_high 10 a (by omega) (by omega)
      obtain⟨_,_,hd3⟩:a.toNat<128∧r=a.toNat∧d=1:=(QA Hcase).resolve_right (fun h=>by omega)
      rw[hk]at hst ⊢
      rw[Int.toNat_natCast]at hst
      have hkb:k<10:=by omega
      have Hst:=QB hst.1
      clear hst hk hneg
      subst hd3
      go_wp2
      go_roundw
      case rel=>
       refine⟨pos+1,val*10+k,hd2,by go_num,pow_step 10 val k pos (by omega) (QA Hval) hkb,QA Hit2,hbl2,?_⟩
       rw[QA Hsp,QA He,QA Hst]
      case measure=>rw[iterPos_of (QA Hit2),hip];omega
    ·have hnx:=fun ty=>Lib.run_next_end_at (P:=Tryz.prog) wr w'.heap.size B pos ty hit hlt
     clear hit
     have hfin:N=some (if neg then -(val:Int) else val):=by
      rw[QA HNg]
      simp only[Bool.false_eq_true,if_false,if_true]
      rw[QA Hsp,List.drop_eq_nil_of_le (by rw[←QA HBs];omega)]
      rfl
     subst hfin
     cases neg
     all_goals go_wp2
     all_goals go_ret2
     all_goals exact⟨rfl,hbl⟩
  ·go_wp2
   go_loopw [8] (fun v wr=>∃(pos val:Nat),pos≤B.size∧v=.int .i64 val∧val<16^pos∧wr.heap[w'.heap.size]? = some (.stringIter B pos)∧Below w'.heap.size w' wr∧Strd.QY 16 0 D=Strd.QY 16 val (D.drop pos)) (fun _ wr=>B.size-wr.iterPos w'.heap.size)
   case atStart=>exact⟨0,0,by omega,rfl,by decide,World.iter_heap _ _ _,QF _ _,by rw[List.drop_zero]⟩
   case round=>
    obtain⟨pos,val,hpos,rfl,hval,hit,hbl,hsp⟩:=hrel
    have hp8:=pow_le8 pos (by omega)
    have hv32:val<4294967296:=by omega
    have Hval:=QB hval
    have Hsp:=QB hsp
    have Hit:=QB hit
    have hip:=iterPos_of hit
    clear hsp hval hp8
    by_cases hlt:pos<B.size
    ·obtain⟨a,r,d,ha,he,hdec,hd1,hd2,hr,hcase⟩:=sign_step B pos hlt
     have hvl:=sign_valid B pos r d hlt hdec
     have hnx:=fun ty=>Lib.run_next_any_at (P:=Tryz.prog) wr w'.heap.size B pos ty hit hlt
     rw[hdec]at hnx
     dsimp only at hnx
     rw[QA HBl]at he
     have hdi:=dig_idx 16 (by omega) a r d (hcase.imp id (fun h=>⟨h.1,h.2.1⟩))
     have Hdi:=QB hdi
     have Hcase:=QB hcase
     have He:=QB he
     clear hit hcase ha hdec hdi he
     go_wp2_with fail
     refine(IndexRune_c _ r _ (by rw[digs_size 16 (by omega)];omega) (by rw[digs_size 16 (by omega)];omega) (by rw[digs_extract];exact digs_ascii 16) hr hvl).mono ?_
     rintro e w2 ⟨rfl,hb2⟩
     rw[digs_extract,QA Hdi]
     have hsz2:w'.heap.size<wr.heap.size:=QD (QA Hit)
     have Hit2:=QB (bbox hb2 (Lib.iterAt_heap _ _ _ _ _ (QA Hit)))
     have hbl2:Below w'.heap.size w' w2:=(Lib.below_iterAt hbl (Nat.le_refl _) _ _).trans (hb2.mono (by rw[Lib.iterAt_size];omega))
     clear hnx hb2
     by_cases hneg:dIdx 16 a<0
     ·have hbad:N=none:=by rw[QA HNg];simp only[Bool.false_eq_true,if_false,if_true];rw[QA Hsp,QA He,digits_bad _ _ _ _ hneg];rfl
      subst hbad
      go_wp2
      go_ret2
      exact⟨rfl,hbl2⟩
     ·obtain⟨k,hk⟩:=Int.eq_ofNat_of_zero_le (show 0≤dIdx 16 a by omega)
      have hst:=digits_step 16 val a (D.drop (pos+1)) (by omega)
      have ha1:=digits_high 16 a (by omega) (by omega)
      obtain⟨_,_,hd3⟩:a.toNat<128∧r=a.toNat∧d=1:=(QA Hcase).resolve_right (fun h=>by omega)
      rw[hk]at hst ⊢
      rw[Int.toNat_natCast]at hst
      have hkb:k<16:=by omega
      have Hst:=QB hst.1
      clear hst hk hneg
      subst hd3
      go_wp2
      go_roundw
      case rel=>
       refine⟨pos+1,val*16+k,hd2,by go_num,pow_step 16 val k pos (by omega) (QA Hval) hkb,QA Hit2,hbl2,?_⟩
       rw[QA Hsp,QA He,QA Hst]
      case measure=>rw[iterPos_of (QA Hit2),hip];omega
    ·have hnx:=fun ty=>Lib.run_next_end_at (P:=Tryz.prog) wr w'.heap.size B pos ty hit hlt
     clear hit
     have hfin:N=some (if neg then -(val:Int) else val):=by
      rw[QA HNg]
      simp only[Bool.false_eq_true,if_false,if_true]
      rw[QA Hsp,List.drop_eq_nil_of_le (by rw[←QA HBs];omega)]
      rfl
     subst hfin
     cases neg
     all_goals go_wp2
     all_goals go_ret2
     all_goals exact⟨rfl,hbl⟩
 ·have hNb:N=none:=by rw[QA HN,if_neg hlen]
  subst hNb
  have hl:(B.size:Int)<1∨(8:Int)<(B.size:Int):=by omega
  clear HN hlen hBs
  cases sx <;> rcases hl with hl|hl
  all_goals go_wp2
  all_goals go_ret2
  all_goals exact⟨rfl,Below.refl _ _⟩
theorem cutWord_skip:∀(x y:Strd.Bs),(∀b∈x,Strd.blank b=false)→Strd.ZU (x++y)=(x++(Strd.ZU y).1,(Strd.ZU y).2)
 |[],y,_=>by simp
 |c::t,y,h=>by
  rw[List.cons_append,Strd.ZU,h c (by simp),cutWord_skip t y (fun b hb=>h b (by simp[hb]))]
  simp
theorem cutWord_hit (x:Strd.Bs) (c:UInt8) (t:Strd.Bs) (h:∀b∈x,Strd.blank b=false) (hc:Strd.blank c=true):Strd.ZU (x++c::t)=(x,Strd.trim (c::t)):=by
 rw[cutWord_skip _ _ h,Strd.ZU,hc];simp
theorem cutWord_end (x:Strd.Bs) (h:∀b∈x,Strd.blank b=false):Strd.ZU x=(x,[]):=by
 have:=cutWord_skip x [] h
 simpa [Strd.ZU] using this
theorem blankR_case (a:UInt8) (r d:Nat) (hcase:(a.toNat<128∧r=a.toNat∧d=1)∨(128≤a.toNat∧128≤r)):blankR r=Strd.blank a:=by
 rcases hcase with ⟨_,rfl,_⟩|⟨h1,h2⟩
 ·exact blankR_ascii a
 ·rw[blankR_high r h2,blank_high a h1]
theorem cutWord_c (s:ByteArray) (w:World) (hs:s.size≤2^40) (hT:Tabs w) :
  Calls Tryz.prog 158 #[.string s] w fun e w'=>e=.returned (.tuple #[.string (bstr (Strd.ZU s.data.toList).1),.string (bstr (Strd.ZU s.data.toList).2)])∧Below w.heap.size w w':=by
 have hl:s.size=s.data.toList.length:=ZY s
 have Hl:=QB hl
 have HT:=QB hT
 generalize hCW:Strd.ZU s.data.toList=CW
 have HCW:=QB hCW
 clear hl hT hCW
 go_enter Tryz.func158,Tryz.ntmps158
 go_wp2
 go_loopw [] (fun wr=>∃(pos:Nat),pos≤s.size∧wr.heap[w.heap.size]? = some (.stringIter s pos)∧Below w.heap.size w wr∧(∀b∈s.data.toList.take pos,Strd.blank b=false)) (fun wr=>s.size-wr.iterPos w.heap.size)
 case atStart=>exact⟨0,by omega,World.iter_heap _ _ _,QF _ _,by simp⟩
 case round=>
  obtain⟨pos,hpos,hit,hbl,hno⟩:=hrel
  have Hno:=QB hno
  have Hit:=QB hit
  have hip:=iterPos_of hit
  clear hno
  by_cases hlt:pos<s.size
  ·obtain⟨a,r,d,ha,he,hdec,hd1,hd2,hr,hcase⟩:=sign_step s pos hlt
   have hnx:=fun ty=>Lib.run_next_any_at (P:=Tryz.prog) wr w.heap.size s pos ty hit hlt
   rw[hdec]at hnx
   dsimp only at hnx
   have hbr:=blankR_case a r d (hcase.imp id (fun h=>⟨h.1,h.2.1⟩))
   have hsz2:w.heap.size<wr.heap.size:=QD hit
   have Hcase:=QB hcase
   have He:=QB he
   clear hit hcase ha hdec he
   cases hba:Strd.blank a
   ·rw[hba]at hbr
    have Hbr:=QB hbr
    have Hba:=QB hba
    clear hbr hba
    go_wp2_with fail
    refine(isBlank_c r _).mono ?_
    rintro e w' ⟨rfl,rfl⟩
    rw[QA Hbr]
    go_wp2
    go_roundw
    case rel=>
     refine⟨pos+d,hd2,Lib.iterAt_heap _ _ _ _ _ (QA Hit),Lib.below_iterAt hbl (Nat.le_refl _) _ _,?_⟩
     intro b hb
     rw[List.take_add]at hb
     rcases List.mem_append.1 hb with hb|hb
     ·exact QA Hno b hb
     ·rcases QA Hcase with ⟨_,_,h3⟩|⟨_,_,h3⟩
      ·subst h3;rw[QA He]at hb;simp at hb;rw[hb];exact QA Hba
      ·exact blank_high b (h3 b hb)
    case measure=>rw[iterPos_of (Lib.iterAt_heap _ _ _ _ _ (QA Hit)),hip];omega
   ·rw[hba]at hbr
    have Hbr:=QB hbr
    have Hba:=QB hba
    clear hbr hba
    have hfin:CW=(s.data.toList.take pos,Strd.trim (s.data.toList.drop pos)):=by
     have e:s.data.toList=s.data.toList.take pos++a::s.data.toList.drop (pos+1):=by rw[←QA He,List.take_append_drop]
     have h:=cutWord_hit (s.data.toList.take pos) a (s.data.toList.drop (pos+1)) (QA Hno) (QA Hba)
     rw[←e]at h
     rw[←QA HCW,h,←QA He]
    have Hfin:=QB hfin
    clear hfin
    have b1:(0:Int)≤(pos:Int):=by omega
    have b2:(pos:Int)≤(s.size:Int):=by omega
    go_wp2_with fail
    refine(isBlank_c r _).mono ?_
    rintro e w' ⟨rfl,rfl⟩
    rw[QA Hbr]
    go_wp2
    go_region_with (go_at_call 159;refine(trimBlanks_c _ _ ?_ ?_).mono ?_;(rw[ZY,ZV,List.length_drop,List.length_take];omega);exact(QA HT).below (Below.drew (Lib.below_iterAt hbl (Nat.le_refl _) _ _));rintro e w3 ⟨rfl,hb3⟩)
    all_goals go_wp2
    all_goals go_ret2
    all_goals refine⟨?_,QE (Below.drew (Lib.below_iterAt hbl (Nat.le_refl _) s (pos+d))) hb3⟩
    all_goals rw[QA Hfin]
    all_goals have x1:s.extract 0 pos=bstr (s.data.toList.take pos):=QZ (by rw[ZV];simp)
    all_goals have x2:List.take (s.size-pos) (s.data.toList.drop pos)=s.data.toList.drop pos:=List.take_of_length_le (by rw[List.length_drop,←QA Hl];omega)
    all_goals rw[←x1,x2]
    all_goals rfl
  ·have hnx:=fun ty=>Lib.run_next_end_at (P:=Tryz.prog) wr w.heap.size s pos ty hit hlt
   have hfin:CW=(s.data.toList,[]):=by
    rw[←QA HCW]
    have:=QA Hno
    rw[List.take_of_length_le (by rw[←QA Hl];omega)]at this
    exact cutWord_end _ this
   subst hfin
   clear hit
   go_wp2
   go_ret2
   exact⟨by simp only[bstr_of];rfl,hbl⟩
end Go.Proofs.YtegiloiojloaoaaGreatDoor
