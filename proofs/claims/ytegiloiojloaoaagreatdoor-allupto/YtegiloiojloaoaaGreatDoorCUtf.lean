/- Plain facts on UTF-8: the model's decoder against the bytes of a sign. -/
import Derived.Test.YtegiloiojloaoaaGreatDoorCSpec
import Derived.Laws.RangeAny
import Derived.Shelf.GgClosure.StringsRunes
set_option linter.unusedVariables false
set_option linter.unusedSimpArgs false
namespace Go.Proofs.YtegiloiojloaoaaGreatDoor
open Go.RowKit
def dec (l:Strd.Bs):Nat×Nat:=Utf8.decode ⟨l.toArray⟩ 0
theorem get_bang (s:ByteArray) (i:Nat):s.get! i=s.data.toList.getD i 0:=by
 cases s with|mk a=>simp[ByteArray.get!,gD,getElem!_def];cases a[i]? <;> rfl
theorem decode_dec (s:ByteArray) (pos:Nat) (h:pos<s.size):Utf8.decode s pos=dec (s.data.toList.drop pos):=by
 have e:∀k,s.get! (pos+k)=(⟨(s.data.toList.drop pos).toArray⟩:ByteArray).get! (0+k):=by
  intro k
  rw[get_bang,get_bang,gD,gD,Nat.zero_add]
  show _=((s.data.toList.drop pos)[k]?).getD 0
  rw[List.getElem?_drop]
 have c:∀k,(decide (pos+k<s.size))=decide (0+k<(⟨(s.data.toList.drop pos).toArray⟩:ByteArray).size):=by
  intro k
  have:(⟨(s.data.toList.drop pos).toArray⟩:ByteArray).size=s.size-pos:=by
   show (s.data.toList.drop pos).toArray.size=s.data.size-pos
   rw[List.size_toArray,List.length_drop,Array.length_toList]
  rw[this,decide_eq_decide];omega
 unfold dec Utf8.decode
 simp only[e,c]
theorem dec_ascii (a:UInt8) (t:Strd.Bs) (h:a.toNat<128):dec (a::t)=(a.toNat,1):=by
 unfold dec Utf8.decode
 simp only[get_bang]
 simp[h]
theorem u8lt (b:UInt8):b.toNat<256:=b.toNat_lt
def dec3 (a:Nat) (t:Strd.Bs):Nat×Nat:=
 let at' (k:Nat):Nat:=(t.getD k 0).toNat
 let cont (k:Nat):Bool:=decide (k<t.length)&&at' k / 64==2
 if a / 32==6&&cont 0 then
  let c:=(a % 32)*64+at' 0 % 64
  if c≥0x80 then (c,2) else (0xFFFD,1)
 else if a / 16==14&&cont 0&&cont 1 then
  let c:=(a % 16)*4096+(at' 0 % 64)*64+at' 1 % 64
  if c≥0x800&&Utf8.valid c then (c,3) else (0xFFFD,1)
 else if a / 8==30&&cont 0&&cont 1&&cont 2 then
  let c:=(a % 8)*262144+(at' 0 % 64)*4096+(at' 1 % 64)*64+at' 2 % 64
  if c≥0x10000&&Utf8.valid c then (c,4) else (0xFFFD,1)
 else (0xFFFD,1)
theorem dec_high (a:UInt8) (t:Strd.Bs) (h:¬a.toNat<128):dec (a::t)=dec3 a.toNat t:=by
 unfold dec Utf8.decode dec3
 simp only[get_bang]
 have hs:(⟨(a::t).toArray⟩:ByteArray).size=t.length+1:=by simp[ByteArray.size]
 have e2:(2<t.length+1)=(1<t.length):=by simp;omega
 have e3:(3<t.length+1)=(2<t.length):=by simp;omega
 simp[h,hs,Utf8.runeError,e2,e3]
theorem valid_iff (c:Nat):Utf8.valid (c:Int)=true↔c<0xD800∨(0xE000≤c∧c≤0x10FFFF):=by
 simp[Utf8.valid];omega
theorem dec3_facts (a:Nat) (t:Strd.Bs) (_h:128≤a) (_h2:a<256):128≤(dec3 a t).1∧(dec3 a t).1≤0x10FFFF∧1≤(dec3 a t).2∧(dec3 a t).2≤t.length+1∧∀j,j+1<(dec3 a t).2→128≤(t.getD j 0).toNat:=by
 unfold dec3
 simp only[Bool.and_eq_true,beq_iff_eq,decide_eq_true_eq,valid_iff,ge_iff_le]
 split
 ·split
  ·refine⟨by dsimp only;omega,by dsimp only;omega,by simp,by dsimp only;omega,?_⟩
   intro j hj;simp at hj;have:j=0:=by omega
   subst this;omega
  ·exact⟨by simp,by simp,by simp,by simp,fun j hj=>by simp at hj⟩
 ·split
  ·split
   ·refine⟨by dsimp only;omega,by dsimp only;omega,by simp,by dsimp only;omega,?_⟩
    intro j hj;simp at hj
    have:j=0∨j=1:=by omega
    rcases this with rfl|rfl <;> omega
   ·exact⟨by simp,by simp,by simp,by simp,fun j hj=>by simp at hj⟩
  ·split
   ·split
    ·refine⟨by dsimp only;omega,by dsimp only;omega,by simp,by dsimp only;omega,?_⟩
     intro j hj;simp at hj
     have:j=0∨j=1∨j=2:=by omega
     rcases this with rfl|rfl|rfl <;> omega
    ·exact⟨by simp,by simp,by simp,by simp,fun j hj=>by simp at hj⟩
   ·exact⟨by simp,by simp,by simp,by simp,fun j hj=>by simp at hj⟩
theorem contB_iff (b:UInt8):Strd.contB b=true↔b.toNat / 64=2:=by simp[Strd.contB];omega
theorem u8_eq (a:UInt8) (n:Nat) (hn:n<256):(UInt8.ofNat n==a)=true↔a.toNat=n:=by
 rw[beq_iff_eq,←UInt8.toNat_inj,UInt8.toNat_ofNat']
 omega
theorem pre_iff (a b c:UInt8) (r:Strd.Bs):([239,191,189]:Strd.Bs).isPrefixOf (a::b::c::r)=true↔a.toNat=239∧b.toNat=191∧c.toNat=189:=by
 simp only[List.isPrefixOf,Bool.and_true,Bool.and_eq_true]
 exact and_congr (u8_eq a 239 (by decide)) (and_congr (u8_eq b 191 (by decide)) (u8_eq c 189 (by decide)))
theorem pre_iff' (a b c:UInt8) (r:Strd.Bs):([239,191,189]:Strd.Bs).isPrefixOf (a::b::c::r)=false↔¬(a.toNat=239∧b.toNat=191∧c.toNat=189):=by
 rw[Bool.eq_false_iff,Ne,pre_iff]
theorem pre_1 (a:UInt8):([239,191,189]:Strd.Bs).isPrefixOf [a]=false:=by simp[List.isPrefixOf]
theorem pre_2 (a b:UInt8):([239,191,189]:Strd.Bs).isPrefixOf [a,b]=false:=by simp[List.isPrefixOf]
theorem signLen_dec (a:UInt8) (t:Strd.Bs) (h:128≤a.toNat) :
  (Strd.QU (a::t)=0∧dec3 a.toNat t=(0xFFFD,1)∧([239,191,189]:Strd.Bs).isPrefixOf (a::t)=false) ∨
  (Strd.QU (a::t)=(dec3 a.toNat t).2∧2≤(dec3 a.toNat t).2∧((dec3 a.toNat t).1=0xFFFD→([239,191,189]:Strd.Bs).isPrefixOf (a::t)=true)):=by
 have ha:=u8lt a
 rcases t with _|⟨b,_|⟨c,_|⟨d,r⟩⟩⟩
 ·left
  refine⟨?_,by simp[dec3],pre_1 a⟩
  unfold Strd.QU
  simp only
  rw[if_neg (by omega)]
  repeat' split
  all_goals rfl
 ·have hb:=u8lt b
  rw[pre_2]
  unfold Strd.QU dec3
  simp only[Bool.and_eq_true,beq_iff_eq,decide_eq_true_eq,valid_iff,ge_iff_le,contB_iff,List.length_cons,List.length_nil,List.getD_cons_zero]
  rw[if_neg (by omega)]
  repeat' split
  all_goals first|(left;exact⟨rfl,rfl,rfl⟩)|(left;exact⟨rfl,rfl,trivial⟩)|(right;refine⟨rfl,by simp,?_⟩;simp;omega)|(exfalso;omega)|trace_state
 ·have hb:=u8lt b
  have hc:=u8lt c
  rw[pre_iff',pre_iff]
  unfold Strd.QU dec3
  simp only[Bool.and_eq_true,Bool.or_eq_true,bne_iff_ne,beq_iff_eq,decide_eq_true_eq,valid_iff,ge_iff_le,contB_iff,List.length_cons,List.length_nil,List.getD_cons_zero,List.getD_cons_succ]
  rw[if_neg (by omega)]
  repeat' split
  all_goals first|(left;refine⟨rfl,rfl,?_⟩;omega)|(right;refine⟨rfl,by simp,?_⟩;simp;omega)|(exfalso;omega)
 ·have hb:=u8lt b
  have hc:=u8lt c
  have hd:=u8lt d
  rw[pre_iff',pre_iff]
  unfold Strd.QU dec3
  simp only[Bool.and_eq_true,Bool.or_eq_true,bne_iff_ne,beq_iff_eq,decide_eq_true_eq,valid_iff,ge_iff_le,contB_iff,List.length_cons,List.getD_cons_zero,List.getD_cons_succ]
  rw[if_neg (by omega)]
  repeat' split
  all_goals first|(left;refine⟨rfl,rfl,?_⟩;omega)|(right;refine⟨rfl,by simp,?_⟩;simp;omega)|(exfalso;omega)
end Go.Proofs.YtegiloiojloaoaaGreatDoor
namespace Go.Proofs.YtegiloiojloaoaaGreatDoor
open Go.RowKit Go.Lib
abbrev bstrT (l:Strd.Bs):ByteArray:=⟨l.toArray⟩
def blankR (x:Nat):Bool:=x==32||x==9
theorem blankR_ascii (a:UInt8):blankR a.toNat=Strd.blank a:=by
 unfold blankR Strd.blank
 rw[Bool.eq_iff_iff]
 simp only[Bool.or_eq_true,beq_iff_eq,←UInt8.toNat_inj]
 rfl
theorem blankR_high (x:Nat) (h:128≤x):blankR x=false:=by simp[blankR];omega
theorem blank_high (a:UInt8) (h:128≤a.toNat):Strd.blank a=false:=by rw[←blankR_ascii];exact blankR_high _ h
theorem blank_low (a:UInt8) (h:Strd.blank a=true):a.toNat<128:=by
 by_cases h1:a.toNat<128
 ·exact h1
 ·rw[blank_high a (by omega)]at h;cases h
theorem ZY (s:ByteArray):s.size=s.data.toList.length:=Lib.size_eq s
theorem drop_ex (s:ByteArray) (pos:Nat) (h:pos<s.size):∃a,s.data.toList[pos]? = some a∧s.data.toList.drop pos=a::s.data.toList.drop (pos+1):=by
 rw[ZY]at h
 exact⟨_,gE h,List.drop_eq_getElem_cons h⟩
theorem idx_left (s:ByteArray):∀(f pos:Nat),s.size≤pos+f →
  (idxFuncFrom blankR false s f pos=-1∧(s.data.toList.drop pos).dropWhile Strd.blank=[])∨(∃q:Nat,idxFuncFrom blankR false s f pos=(q:Int)∧q<s.size∧s.data.toList.drop q=(s.data.toList.drop pos).dropWhile Strd.blank)
 |0,pos,h=>by
  left
  refine⟨rfl,?_⟩
  rw[List.drop_eq_nil_of_le (by rw[←ZY];omega)];rfl
 |f+1,pos,h=>by
  unfold idxFuncFrom
  by_cases hp:pos<s.size
  ·obtain⟨a,_,he⟩:=drop_ex s pos hp
   rw[if_pos hp,decode_dec s pos hp]
   by_cases ha:a.toNat<128
   ·have hd:dec (s.data.toList.drop pos)=(a.toNat,1):=by rw[he];exact dec_ascii _ _ ha
    rw[hd,blankR_ascii]
    cases hb:Strd.blank a
    ·right
     refine⟨pos,by simp,hp,?_⟩
     rw[he,List.dropWhile_cons,hb];rfl
    ·have hw:(s.data.toList.drop pos).dropWhile Strd.blank=(s.data.toList.drop (pos+1)).dropWhile Strd.blank:=by rw[he,List.dropWhile_cons,hb];rfl
     rw[hw]
     exact idx_left s f (pos+1) (by omega)
   ·have hd:dec (s.data.toList.drop pos)=dec3 a.toNat (s.data.toList.drop (pos+1)):=by rw[he];exact dec_high _ _ ha
    have hf:=dec3_facts a.toNat (s.data.toList.drop (pos+1)) (by omega) (u8lt a)
    right
    refine⟨pos,?_,hp,?_⟩
    ·rw[hd,blankR_high _ hf.1];simp
    ·rw[he,List.dropWhile_cons,blank_high a (by omega)];rfl
  ·left
   rw[if_neg hp,List.drop_eq_nil_of_le (by rw[←ZY];omega)]
   exact⟨rfl,rfl⟩
theorem ZV (s:ByteArray) (a b:Nat):(s.extract a b).data.toList=(s.data.toList.take b).drop a:=by
 rw[Lib.extract_data];exact List.drop_take.symm
theorem QZ {s t:ByteArray} (h:s.data.toList=t.data.toList):s=t:=by
 cases s;cases t;simp at h;rw[h]
theorem trimLeft_eq (s:ByteArray):(trimLeftF blankR s).data.toList=Strd.trimL s.data.toList:=by
 unfold trimLeftF idxFunc
 rcases idx_left s s.size 0 (by omega) with ⟨h1,h2⟩|⟨q,h1,h2,h3⟩
 ·rw[h1,if_pos rfl]
  rw[List.drop_zero]at h2
  exact h2.symm
 ·rw[h1,if_neg (by omega),Int.toNat_natCast,ZV,ZY,List.take_length,h3,List.drop_zero]
  rfl
theorem dec3_app (a:Nat) (t u:Strd.Bs) (hu:(u.getD 0 0).toNat<128) (h:(dec3 a t).2=t.length+1):(dec3 a (t++u)).2=t.length+1:=by
 rcases t with _|⟨b,_|⟨c,_|⟨d,_|⟨e,r⟩⟩⟩⟩
 ·have h0:¬((u.getD 0 0).toNat / 64=2):=by omega
  unfold dec3
  simp only[List.nil_append,Bool.and_eq_true,beq_iff_eq,decide_eq_true_eq]
  rw[if_neg (by omega),if_neg (by omega),if_neg (by omega)]
  rfl
 all_goals
  unfold dec3 at h ⊢
  simp only[List.cons_append,List.nil_append,List.length_cons,List.length_nil,List.getD_cons_zero,List.getD_cons_succ,Bool.and_eq_true,beq_iff_eq,decide_eq_true_eq]at h ⊢
  revert h
  repeat' split
  all_goals (intro h;first|rfl|(exfalso;simp only at h;omega)|(exfalso;simp only[List.length_append,List.length_cons]at *;omega))
theorem lastStart_lt (l:Strd.Bs) (h:l≠[]):lastStart l<l.length:=by
 have:0<l.length:=List.length_pos_iff.2 h
 unfold lastStart
 simp only
 repeat' split
 all_goals omega
theorem last_high (l u:Strd.Bs) (b:UInt8) (hl:l.getLast? = some b) (hb:128≤b.toNat) (hu:(u.getD 0 0).toNat<128) :
  128≤(decodeLastL l).1∧1≤(decodeLastL l).2∧(decodeLastL l).2≤l.length∧(dec ((l++u).drop (l.length-(decodeLastL l).2))).2=(decodeLastL l).2:=by
 have hne:l≠[]:=by rintro rfl;simp at hl
 have hpos:0<l.length:=List.length_pos_iff.2 hne
 have hlast:l[l.length-1]? = some b:=by rw[←hl,List.getLast?_eq_getElem?]
 have hgd:l.getD (l.length-1) 0=b:=by rw[gD,hlast];rfl
 have hone:(dec ((l++u).drop (l.length-1))).2=1:=by
  have e:(l++u).drop (l.length-1)=b::u:=by
   rw[List.drop_append_of_le_length (by omega)]
   have:l.drop (l.length-1)=[b]:=by
    rw[List.drop_eq_getElem_cons (by omega)]
    rw[gE (by omega)]at hlast
    rw[Option.some.inj hlast,List.drop_eq_nil_of_le (by omega)]
   rw[this];rfl
  rw[e,dec_high _ _ (by omega)]
  exact dec3_app b.toNat [] u hu (by simp[dec3])
 unfold decodeLastL
 rw[if_neg hne,hgd,if_neg (by omega)]
 simp only
 have hlt:=lastStart_lt l hne
 generalize lastStart l=ls at *
 split
 ·rename_i hd
  obtain⟨a,ha⟩:∃a,l[ls]? = some a:=⟨_,gE hlt⟩
  have hdr:l.drop ls=a::l.drop (ls+1):=by
   rw[gE hlt]at ha
   rw[List.drop_eq_getElem_cons hlt,Option.some.inj ha]
  have hdec:decodeL (l.drop ls)=dec (l.drop ls):=rfl
  rw[hdec,hdr]at hd ⊢
  by_cases ha1:a.toNat<128
  ·rw[dec_ascii _ _ ha1]at hd
   simp only at hd
   have:ls=l.length-1:=by omega
   subst this
   rw[hlast]at ha
   cases ha
   omega
  ·rw[dec_high _ _ ha1]at hd ⊢
   have hf:=dec3_facts a.toNat (l.drop (ls+1)) (by omega) (u8lt a)
   have hlen:(l.drop (ls+1)).length=l.length-(ls+1):=List.length_drop
   refine⟨hf.1,hf.2.2.1,by omega,?_⟩
   have e1:l.length-(dec3 a.toNat (l.drop (ls+1))).2=ls:=by omega
   rw[e1,List.drop_append_of_le_length (by omega),hdr,List.cons_append,dec_high _ _ ha1]
   rw[dec3_app a.toNat (l.drop (ls+1)) u hu (by omega)]
   omega
 ·exact⟨by decide,by decide,by simp only;omega,hone⟩
def trimR (l:Strd.Bs):Strd.Bs:=(Strd.trimL l.reverse).reverse
theorem trimR_snoc (l:Strd.Bs) (b:UInt8):trimR (l++[b])=if Strd.blank b then trimR l else l++[b]:=by
 unfold trimR Strd.trimL
 rw[List.reverse_append,List.reverse_singleton,List.singleton_append,List.dropWhile_cons]
 split <;> simp
theorem take_snoc' (l:Strd.Bs) (i:Nat) (h:i<l.length):l.take (i+1)=l.take i++[l[i]]:=List.take_succ_eq_append_getElem h
theorem right_end (s:ByteArray):∀(f i:Nat),i≤f→i≤s.size→(∀j (hj:j<s.data.toList.length),i≤j→Strd.blank (s.data.toList[j])=true) →
  (if 0≤lastIdxFuncFrom blankR false s f i then (lastIdxFuncFrom blankR false s f i).toNat+(decodeGoB (s.extract (lastIdxFuncFrom blankR false s f i).toNat s.size)).2 else 0)=(trimR (s.data.toList.take i)).length∧trimR (s.data.toList.take i)=s.data.toList.take (trimR (s.data.toList.take i)).length
 |0,i,h,_,_=>by
  obtain rfl:i=0:=by omega
  simp[lastIdxFuncFrom,trimR,Strd.trimL]
 |f+1,i,h,hi,hbl=>by
  unfold lastIdxFuncFrom
  by_cases h0:0<i
  ·obtain⟨k,rfl⟩:∃k,i=k+1:=⟨i-1,by omega⟩
   have hk:k<s.data.toList.length:=by rw[←ZY];omega
   rw[if_pos h0]
   have hts:=take_snoc' s.data.toList k hk
   generalize hb:s.data.toList[k]=b at hts
   have hlen:(s.data.toList.take (k+1)).length=k+1:=by rw[List.length_take];omega
   have hlast:(s.data.toList.take (k+1)).getLast? = some b:=by rw[hts];simp
   have hgd:(s.data.toList.take (k+1)).getD ((s.data.toList.take (k+1)).length-1) 0=b:=by
    rw[gD,←List.getLast?_eq_getElem?,hlast];rfl
   by_cases ha:b.toNat<128
   ·have hd:decodeLastL (s.data.toList.take (k+1))=(b.toNat,1):=by
     unfold decodeLastL
     rw[if_neg (by intro e;rw[e]at hlen;simp at hlen),hgd,if_pos ha]
    rw[hd,blankR_ascii,hts,trimR_snoc]
    cases hbb:Strd.blank b
    ·simp only[if_true,Bool.false_eq_true,if_false]
     rw[if_pos (by omega)]
     have e1:((k+1-1:Nat):Int).toNat=k:=by omega
     rw[e1]
     have hdec:(decodeGoB (s.extract k s.size)).2=1:=by
      unfold decodeGoB
      have hx:(s.extract k s.size).data.toList=b::s.data.toList.drop (k+1):=by
       rw[ZV,ZY,List.take_length,List.drop_eq_getElem_cons hk,hb]
      have hsz:(s.extract k s.size).size=(b::s.data.toList.drop (k+1)).length:=by rw[ZY,hx]
      rw[if_neg (by rw[hsz];simp)]
      rw[decode_dec _ 0 (by rw[hsz];simp),hx,List.drop_zero,dec_ascii _ _ ha]
     rw[hdec,←hts,hlen]
     exact⟨rfl,rfl⟩
    ·simp only[Bool.true_eq_false,if_false,if_true]
     have e1:k+1-1=k:=by omega
     rw[e1]
     exact right_end s f k (by omega) (by omega) (fun j hj hkj=>by
      by_cases e:j=k
      ·subst e;rw[hb];exact hbb
      ·exact hbl j hj (by omega))
   ·have hu:((s.data.toList.drop (k+1)).getD 0 0).toNat<128:=by
     by_cases hk1:k+1<s.data.toList.length
     ·rw[gD,List.getElem?_drop,Nat.add_zero,gE hk1]
      exact blank_low _ (hbl (k+1) hk1 (by omega))
     ·rw[List.drop_eq_nil_of_le (by omega)];decide
    obtain⟨q1,q2,q3,q4⟩:=last_high (s.data.toList.take (k+1)) (s.data.toList.drop (k+1)) b hlast (by omega) hu
    rw[List.take_append_drop,hlen]at q4
    rw[hlen]at q3
    rw[blankR_high _ q1,if_pos rfl]
    generalize hdl:(decodeLastL (s.data.toList.take (k+1))).2=d at *
    rw[if_pos (by omega),hts,trimR_snoc,blank_high b (by omega)]
    simp only[Bool.false_eq_true,if_false]
    rw[Int.toNat_natCast]
    have hdec:(decodeGoB (s.extract (k+1-d) s.size)).2=d:=by
     unfold decodeGoB
     have hx:(s.extract (k+1-d) s.size).data.toList=s.data.toList.drop (k+1-d):=by
      rw[ZV,ZY,List.take_length]
     have hsz:(s.extract (k+1-d) s.size).size=s.data.toList.length-(k+1-d):=by rw[ZY,hx,List.length_drop]
     rw[if_neg (by rw[hsz];omega),decode_dec _ 0 (by rw[hsz];omega),hx,List.drop_zero]
     exact q4
    rw[hdec,←hts,hlen]
    exact⟨by omega,rfl⟩
  ·obtain rfl:i=0:=by omega
   simp[trimR,Strd.trimL]
theorem trimF_eq (s:ByteArray):trimF blankR s=bstrT (Strd.trim s.data.toList):=by
 apply QZ
 unfold trimF trimRightF rightEndF lastIdxFunc
 have hL:=trimLeft_eq s
 generalize trimLeftF blankR s=t at *
 obtain⟨h1,h2⟩:=right_end t t.size t.size (Nat.le_refl _) (Nat.le_refl _) (fun j hj h=>by rw[ZY]at h;omega)
 rw[h1,ZV,List.drop_zero]
 rw[ZY,List.take_length]at h2 ⊢
 rw[←h2,hL]
 simp[Strd.trim,trimR,bstrT]
end Go.Proofs.YtegiloiojloaoaaGreatDoor
