/- The reference's small functions as plain functions. -/
import Derived.Test.YtegiloiojloaoaaGreatDoorCSpec
set_option linter.unusedVariables false
set_option linter.unusedSimpArgs false
namespace Go.Proofs.YtegiloiojloaoaaGreatDoor
namespace Rf
def find (s:Strd.Bs) (c:UInt8):Int:=match s.findIdx? (·==c) with
 |some k=>k
 |none=>-1
theorem find_at {s:Strd.Bs} {c:UInt8} {k:Nat} (h:s[k]? = some c) (hno:∀i,i<k→s[i]?≠some c):find s c=k:=by
 have hk:k<s.length:=by
  rcases Nat.lt_or_ge k s.length with h'|h'
  ·exact h'
  ·rw[List.getElem?_eq_none h']at h;cases h
 have:s.findIdx? (·==c)=some k:=by
  rw[List.findIdx?_eq_some_iff_getElem]
  refine⟨hk,?_,fun j hj=>?_⟩
  ·rw[gE hk]at h;simpa using h
  ·have:=hno j hj
   rw[gE (by omega)]at this
   simpa using this
 unfold find
 rw[this]
theorem find_no {s:Strd.Bs} {c:UInt8} (hno:∀i,i<s.length→s[i]?≠some c):find s c=-1:=by
 have:s.findIdx? (·==c)=none:=by
  rw[List.findIdx?_eq_none_iff]
  intro x hx
  obtain⟨i,hi,rfl⟩:=List.getElem_of_mem hx
  have:=hno i hi
  rw[gE hi]at this
  simpa using this
 unfold find
 rw[this]
def two (w:Strd.Bs):Int:=if w=[109,111,118,101] then 12288 else if w=[97,100,100] then 53312 else if w=[115,117,98] then 36928 else if w=[99,109,112] then 45120 else 0
def register (s:Strd.Bs):Option Int:=match s with
 |[d,k]=>if d=100∧48≤k∧k≤57 then some ((k.toNat:Int)-48) else none
 |_=>none
def value (s:Strd.Bs):Option Int:=match s with
 |c::t=>if c=35 then Strd.number t else none
 |[]=>none
theorem beq_u8 (c m:UInt8) (h:c≠m):((c.toNat:Int)==(m.toNat:Int))=false:=by
 simp only[beq_eq_false_iff_ne,ne_eq];intro h'
 exact h (UInt8.toNat_inj.1 (by omega))
def condition (w:Strd.Bs):Int:=match Strd.findIdx Strd.jumpWords w with
 |some k=>k
 |none=>-1
theorem cond_at {w:Strd.Bs} {k:Nat} (hk:k<16) (h:Strd.jumpWords.getD k []=w) (hno:∀i,i<k→Strd.jumpWords.getD i []≠w):condition w=k:=by
 have hl:Strd.jumpWords.length=16:=rfl
 have:Strd.findIdx Strd.jumpWords w=some k:=by
  unfold Strd.findIdx
  rw[List.findIdx?_eq_some_iff_getElem]
  refine⟨by omega,?_,fun j hj=>?_⟩
  ·rw[gD,gE (by omega)]at h;simpa using h
  ·have:=hno j hj
   rw[gD,gE (by omega)]at this
   simpa using this
 unfold condition
 rw[this]
theorem cond_no {w:Strd.Bs} (hno:∀i,i<16→Strd.jumpWords.getD i []≠w):condition w=-1:=by
 have hl:Strd.jumpWords.length=16:=rfl
 have:Strd.findIdx Strd.jumpWords w=none:=by
  unfold Strd.findIdx
  rw[List.findIdx?_eq_none_iff]
  intro x hx
  obtain⟨i,hi,rfl⟩:=List.getElem_of_mem hx
  have:=hno i (by omega)
  rw[gD,gE hi]at this
  simpa using this
 unfold condition
 rw[this]
def far (w:Strd.Bs):Bool:=w==[106,109,112]||w==[106,115,114]
def QN (w:Strd.Bs):Bool:=decide (0≤condition w)||far w
def holds (w:Strd.Bs) (v:Int):Bool:=if w=[100,99,46,119] then Strd.within v (-0x8000) 0xffff else Strd.within v (-0x80) 0xff
def shape (s:Strd.Bs):Option Strd.Bs:=if (s==[110,111,112])=true then some [] else if (s==[114,116,115])=true then some [] else if 0<two s then some [114,114] else if (s==[109,111,118,101,113])=true then some [118,114] else if (s==[97,100,100,105])=true then some [118,114] else if 0≤condition s then some [112] else if (s==[106,109,112])=true then some [112] else if (s==[106,115,114])=true then some [112] else if (s==[100,99,46,119])=true then some [80] else if (s==[100,99,46,98])=true then some [80] else if (s==[100,115])=true then some [110] else if (s==[97,108,105,103,110])=true then some [110] else if (s==[111,114,103])=true then some [110] else none
def fits (s:Strd.Bs) (form a b:Int):Bool:=
 if a % 2≠0 then false else if b % 2≠0 then false else if b<0 then false else if 16777214<b then false
 else if form=1 then decide (b-a-2≠0)&&Strd.within (b-a-2) (-128) 127
 else if form=2 then (if far s=true then decide (b≤32767) else Strd.within (b-a-2) (-32768) 32767)
 else true
theorem tmod_two (a:Int):a.tmod 2=0↔a % 2=0:=
 ⟨fun h=>Int.emod_eq_zero_of_dvd (Int.dvd_of_tmod_eq_zero h),fun h=>Int.tmod_eq_zero_of_dvd (Int.dvd_of_emod_eq_zero h)⟩
end Rf
end Go.Proofs.YtegiloiojloaoaaGreatDoor
namespace Go.Proofs.YtegiloiojloaoaaGreatDoor.Rf
open Strd
structure Line where
 no:Int
 label:Bs
 word:Bs
 form:Int
 texts:List Bs
def upTo (c:UInt8) (s:Bs):Bs:=if 0≤find s c then s.take (find s c).toNat else s
def wordLen (s:Bs):Nat:=(s.takeWhile fun c=>!blank c).length
def fine (kind:UInt8) (t:Bs):Bool:=
 if kind=114 then (register t).isSome else if kind=118 then (value t).isSome else if kind=110 then (number t).isSome else ((number t).isSome||ZT t)
def cutF (w:Bs):Bs×Int:=
 if 2<w.length∧w.getD (w.length-2) 0=46 then
  if 0≤find [115,119,108] (w.getD (w.length-1) 0)∧(0≤condition (w.take (w.length-2))∨(far (w.take (w.length-2))=true∧0<find [115,119,108] (w.getD (w.length-1) 0)))
  then (w.take (w.length-2),find [115,119,108] (w.getD (w.length-1) 0)+1) else (w,0)
 else (w,0)
def kinds (w:Bs) (n:Nat):Option Bs:=(shape w).map fun ks=>if ks=[80]∧1≤n∧n≤8 then List.replicate n 112 else ks
def Z2:Bs→List Bs→Bool
 |[],[]=>true
 |k::ks,t::ts=>fine k t&&Z2 ks ts
 |_,_=>false
def textsOf (rest:Bs):List Bs:=if rest=[] then [] else (split 44 rest).map trim
def ending (no:Int) (label word:Bs) (form:Int) (texts:List Bs):Option Line:=
 match kinds word texts.length with
 |none=>none
 |some ks=>if Z2 ks texts=true then some ⟨no,label,word,form,texts⟩ else none
def body (no:Int) (label s:Bs):Option Line:=
 if s=[] then some ⟨no,label,[],0,[]⟩
 else ending no label (cutF (s.take (wordLen s))).1 (cutF (s.take (wordLen s))).2 (textsOf (trim (s.drop (wordLen s))))
def readT (s:Bs) (no:Int):Option Line:=
 if 0≤find s 58 then
  if ZT (s.take (find s 58).toNat)=true then body no (s.take (find s 58).toNat) (trim (s.drop ((find s 58).toNat+1))) else none
 else body no [] s
def read (s:Bs) (no:Int):Option Line:=readT (trim (upTo 59 s)) no
def ZX (w:Bs) (form:Int):Op:=
 match fixedWords.find? (fun r=>r.1==w) with
 |some r=>⟨r.2.1,r.2.2,0,0,0⟩
 |none=>match findIdx jumpWords w with
  |some n=>if form=0 then jumpOp n 0 2 else jumpOp n (form-1) (form-1)
  |none=>match farWords.find? (fun r=>r.1==w) with
   |some r=>if form=0 then ZZ r.2 1 2 else ZZ r.2 (form-1) (form-1)
   |none=>⟨0,0,0,0,0⟩
def opr (role:Int) (t:Bs):Opr:=(QR role t).getD ⟨[],0⟩
def ins (l:Line):Ins:=if l.word=[] then emptyIns else ⟨ZX l.word l.form,List.zipWith opr (roles (ZX l.word l.form).kind l.texts.length) l.texts⟩
def strd (l:Line):Strd.Line:=⟨l.label,ins l⟩
theorem find_spec (s:Bs) (c:UInt8):(find s c=-1∧∀x∈s,x≠c)∨∃a b,s=a++c::b∧(∀x∈a,x≠c)∧find s c=(a.length:Int):=by
 induction s with
 |nil=>exact .inl ⟨rfl,fun x hx=>by cases hx⟩
 |cons x t ih=>
  by_cases h:x=c
  ·subst h
   exact .inr ⟨[],t,rfl,(fun y hy=>by cases hy),by simp[find,List.findIdx?_cons]⟩
  ·have hb:(x==c)=false:=by simpa using h
   rcases ih with ⟨h1,h2⟩|⟨a,b,rfl,h2,h3⟩
   ·left
    refine⟨?_,fun y hy=>?_⟩
    ·unfold find at h1 ⊢
     rw[List.findIdx?_cons,hb]
     cases hf:List.findIdx? (fun x=>x==c) t with
     |none=>rfl
     |some k=>rw[hf]at h1;simp at h1;try omega
    ·rcases List.mem_cons.1 hy with rfl|hy
     ·exact h
     ·exact h2 y hy
   ·right
    refine⟨x::a,b,rfl,fun y hy=>?_,?_⟩
    ·rcases List.mem_cons.1 hy with rfl|hy
     ·exact h
     ·exact h2 y hy
    ·unfold find at h3 ⊢
     rw[List.findIdx?_cons,hb]
     cases hf:List.findIdx? (fun x=>x==c) (a++c::b) with
     |none=>rw[hf]at h3;simp at h3;try omega
     |some k=>rw[hf]at h3;simp at h3;simp[h3]
theorem upTo_head (c:UInt8) (s:Bs):upTo c s=(split c s).headD []:=by
 unfold upTo
 rcases find_spec s c with ⟨h1,h2⟩|⟨a,b,rfl,h2,h3⟩
 ·rw[h1,if_neg (by decide),split_none c s h2];rfl
 ·rw[h3,if_pos (by omega),split_at c a b h2];simp
theorem condition_mem (w:Bs):0≤condition w↔w∈jumpWords:=by
 unfold condition findIdx
 cases h:List.findIdx? (fun x=>x==w) jumpWords with
 |none=>
  rw[List.findIdx?_eq_none_iff]at h
  constructor
  ·intro h';exact absurd h' (by decide)
  ·intro h';have:=h w h';simp at this
 |some k=>
  rw[List.findIdx?_eq_some_iff_getElem]at h
  obtain⟨hk,h1,_⟩:=h
  constructor
  ·intro _
   have e:jumpWords[k]=w:=by simpa using h1
   rw[←e];exact List.getElem_mem _
  ·intro _;exact Int.natCast_nonneg k
theorem far_mem (w:Bs):far w=true↔w∈farWords.map (·.1):=by
 unfold far
 simp[farWords]
theorem fixed_none (w:Bs):(fixedWords.find? fun r=>r.1==w)=none↔w∉fixedWords.map (·.1):=by
 rw[List.find?_eq_none]
 constructor
 ·intro h hm
  obtain⟨r,hr,rfl⟩:=List.mem_map.1 hm
  exact h r hr (by simp)
 ·intro h r hr hb
  exact h (List.mem_map.2 ⟨r,hr,by simpa using hb⟩)
theorem shape_none (w:Bs) (h1:w∉fixedWords.map (·.1)) (h2:w∉jumpWords) (h3:w∉farWords.map (·.1)):shape w=none:=by
 have hc:¬0≤condition w:=fun h=>h2 ((condition_mem w).1 h)
 simp only[fixedWords,List.map_cons,List.map_nil,List.mem_cons,List.not_mem_nil,or_false,not_or]at h1
 simp only[farWords,List.map_cons,List.map_nil,List.mem_cons,List.not_mem_nil,or_false,not_or]at h3
 have ht:two w=0:=by
  unfold two
  rw[if_neg h1.2.2.1,if_neg h1.2.2.2.1,if_neg h1.2.2.2.2.1,if_neg h1.2.2.2.2.2.1]
 unfold shape
 rw[ht]
 simp[h1,h3,hc]
instance opDec:DecidableEq Op:=fun a b=>decidable_of_iff (a.kind=b.kind∧a.base=b.base∧a.number=b.number∧a.first=b.first∧a.last=b.last) ⟨fun h=>by cases a;cases b;simp_all,fun h=>by subst h;simp⟩
theorem shape_fixed:∀w∈fixedWords.map (·.1),cutF w=(w,0)∧Strd.find w=some (ZX w 0)∧(shape w).isSome=true:=by decide +kernel
theorem shape_jump:∀w∈jumpWords,cutF w=(w,0)∧Strd.find w=some (ZX w 0)∧(shape w).isSome=true∧w∉fixedWords.map (·.1):=by decide +kernel
theorem shape_far:∀w∈farWords.map (·.1),cutF w=(w,0)∧Strd.find w=some (ZX w 0)∧(shape w).isSome=true∧w∉fixedWords.map (·.1):=by decide +kernel
theorem shape_jumpF:∀w∈jumpWords,∀x∈[(115:UInt8),119,108],cutF (w++[46,x])=(w,find [115,119,108] x+1)∧Strd.find (w++[46,x])=some (ZX w (find [115,119,108] x+1)):=by decide +kernel
theorem shape_farF:∀w∈farWords.map (·.1),∀x∈[(119:UInt8),108],cutF (w++[46,x])=(w,find [115,119,108] x+1)∧Strd.find (w++[46,x])=some (ZX w (find [115,119,108] x+1)):=by decide +kernel
theorem shape_farS:∀w∈farWords.map (·.1),cutF (w++[46,115])=(w++[46,115],0)∧Strd.find (w++[46,115])=none∧shape (w++[46,115])=none:=by decide +kernel
theorem find_swl (x:UInt8):0≤find [115,119,108] x↔x∈[(115:UInt8),119,108]:=by
 rcases find_spec [115,119,108] x with ⟨h1,h2⟩|⟨a,b,h0,h2,h3⟩
 ·rw[h1]
  exact⟨fun h=>absurd h (by decide),fun h=>(h2 x h rfl).elim⟩
 ·rw[h3,h0]
  exact⟨fun _=>by simp,fun _=>by omega⟩
theorem suffix_two (w:Bs) (x:UInt8):[46,x].isSuffixOf w=true↔∃s,w=s++[46,x]:=by
 rw[List.isSuffixOf_iff_suffix]
 constructor
 ·rintro ⟨s,rfl⟩;exact⟨s,rfl⟩
 ·rintro ⟨s,rfl⟩;exact⟨s,rfl⟩
theorem last_two {w:Bs} (h:2<w.length) (h46:w.getD (w.length-2) 0=46):w=w.take (w.length-2)++[46,w.getD (w.length-1) 0]:=by
 have e:w=w.take (w.length-2)++w.drop (w.length-2):=(List.take_append_drop _ _).symm
 have hd:w.drop (w.length-2)=[46,w.getD (w.length-1) 0]:=by
  have h1:w.length-2<w.length:=by omega
  have h2:w.length-2+1<w.length:=by omega
  rw[List.drop_eq_getElem_cons h1,List.drop_eq_getElem_cons h2]
  rw[List.drop_eq_nil_of_le (by omega)]
  rw[gD,gE h1]at h46
  simp only[Option.getD_some]at h46
  rw[h46]
  have e2:w.length-1=w.length-2+1:=by omega
  rw[gD,e2,gE h2]
  rfl
 rw[hd]at e
 exact e
theorem find_none_of (w stem:Bs) (f l:Int) (hc:cutForm w=(stem,f,l)) (h1:w∉fixedWords.map (·.1)) (h2:stem∉jumpWords) (h3:stem∉farWords.map (·.1)):Strd.find w=none:=by
 unfold Strd.find
 rw[(fixed_none w).2 h1,hc]
 have e:findIdx jumpWords stem=none:=by
  unfold findIdx
  rw[List.findIdx?_eq_none_iff]
  intro x hx
  simp only[beq_eq_false_iff_ne]
  rintro rfl
  exact h2 hx
 simp only[e]
 split
 ·rfl
 ·have:farWords.find? (fun r=>r.1==stem)=none:=by
   rw[List.find?_eq_none]
   intro r hr hb
   exact h3 (List.mem_map.2 ⟨r,hr,by simpa using hb⟩)
  rw[this]
theorem find_tie (w:Bs):Strd.find w=(shape (cutF w).1).map fun _=>ZX (cutF w).1 (cutF w).2:=by
 by_cases h1:w∈fixedWords.map (·.1)
 ·obtain⟨a,b,c⟩:=shape_fixed w h1
  rw[a,b]
  obtain⟨ks,hk⟩:=Option.isSome_iff_exists.1 c
  rw[hk];rfl
 by_cases h2:w∈jumpWords
 ·obtain⟨a,b,c,_⟩:=shape_jump w h2
  rw[a,b]
  obtain⟨ks,hk⟩:=Option.isSome_iff_exists.1 c
  rw[hk];rfl
 by_cases h3:w∈farWords.map (·.1)
 ·obtain⟨a,b,c,_⟩:=shape_far w h3
  rw[a,b]
  obtain⟨ks,hk⟩:=Option.isSome_iff_exists.1 c
  rw[hk];rfl
 by_cases hsx:∃s x,w=s++[46,x]∧x∈[(115:UInt8),119,108]
 ·obtain⟨s,x,rfl,hx⟩:=hsx
  by_cases j2:s∈jumpWords
  ·obtain⟨a,b⟩:=shape_jumpF s j2 x hx
   obtain⟨_,_,c,_⟩:=shape_jump s j2
   rw[a,b]
   obtain⟨ks,hk⟩:=Option.isSome_iff_exists.1 c
   rw[hk];rfl
  by_cases j3:s∈farWords.map (·.1)
  ·by_cases hx1:x=115
   ·subst hx1
    obtain⟨a,b,c⟩:=shape_farS s j3
    rw[a,b,c];rfl
   ·have hx2:x∈[(119:UInt8),108]:=by simp only[List.mem_cons]at hx ⊢;exact hx.resolve_left hx1
    obtain⟨a,b⟩:=shape_farF s j3 x hx2
    obtain⟨_,_,c,_⟩:=shape_far s j3
    rw[a,b]
    obtain⟨ks,hk⟩:=Option.isSome_iff_exists.1 c
    rw[hk];rfl
  ·have hl:(s++[46,x]).length=s.length+2:=by simp
   have ht:(s++[46,x]).take ((s++[46,x]).length-2)=s:=by rw[hl];simp
   have hcut:cutF (s++[46,x])=(s++[46,x],0):=by
    unfold cutF
    rw[ht]
    split
    ·rw[if_neg]
     rintro ⟨_,h|⟨h,_⟩⟩
     ·exact j2 ((condition_mem s).1 h)
     ·exact j3 ((far_mem s).1 h)
    ·rfl
   rw[hcut]
   simp only
   rw[shape_none _ h1 h2 h3]
   have hcf:∃f l,cutForm (s++[46,x])=(s,f,l):=by
    unfold cutForm endsWith
    rw[ht]
    by_cases e1:x=115
    ·subst e1;rw[if_pos ((suffix_two _ _).2 ⟨s,rfl⟩)];exact⟨_,_,rfl⟩
    ·rw[if_neg (by
      intro h;obtain⟨q,hq⟩:=(suffix_two _ _).1 h
      have:=List.append_inj_right' hq rfl;simp at this;exact e1 this)]
     by_cases e2:x=119
     ·subst e2;rw[if_pos ((suffix_two _ _).2 ⟨s,rfl⟩)];exact⟨_,_,rfl⟩
     ·rw[if_neg (by
       intro h;obtain⟨q,hq⟩:=(suffix_two _ _).1 h
       have:=List.append_inj_right' hq rfl;simp at this;exact e2 this)]
      have e3:x=108:=by simp only[List.mem_cons,List.not_mem_nil,or_false]at hx;exact(hx.resolve_left e1).resolve_left e2
      subst e3;rw[if_pos ((suffix_two _ _).2 ⟨s,rfl⟩)];exact⟨_,_,rfl⟩
   obtain⟨f,l,hc⟩:=hcf
   rw[find_none_of _ s f l hc h1 j2 j3];rfl
 ·have hcut:cutF w=(w,0):=by
   unfold cutF
   split
   ·rename_i h
    rw[if_neg]
    rintro ⟨h4,_⟩
    exact hsx ⟨_,_,last_two h.1 h.2,(find_swl _).1 h4⟩
   ·rfl
  rw[hcut]
  simp only
  rw[shape_none _ h1 h2 h3]
  have hcf:cutForm w=(w,0,2):=by
   unfold cutForm endsWith
   rw[if_neg (fun h=>hsx (by obtain⟨s,hs⟩:=(suffix_two _ _).1 h;exact⟨s,115,hs,by simp⟩)),if_neg (fun h=>hsx (by obtain⟨s,hs⟩:=(suffix_two _ _).1 h;exact⟨s,119,hs,by simp⟩)),if_neg (fun h=>hsx (by obtain⟨s,hs⟩:=(suffix_two _ _).1 h;exact⟨s,108,hs,by simp⟩))]
  rw[find_none_of _ w 0 2 hcf h1 h2 h3];rfl
theorem trimL_spec (s:Bs):∃a,Blanks a∧s=a++trimL s∧∀c∈(trimL s).head?,blank c=false:=by
 induction s with
 |nil=>exact⟨[],blanks_nil,rfl,fun c hc=>by cases hc⟩
 |cons x t ih=>
  by_cases h:blank x=true
  ·obtain⟨a,h1,h2,h3⟩:=ih
   have e:trimL (x::t)=trimL t:=by simp[trimL,List.dropWhile_cons,h]
   rw[e]
   refine⟨x::a,fun c hc=>?_,by rw[List.cons_append,←h2],h3⟩
   rcases List.mem_cons.1 hc with rfl|hc
   ·exact h
   ·exact h1 c hc
  ·have e:trimL (x::t)=x::t:=by simp[trimL,List.dropWhile_cons,h]
   rw[e]
   exact⟨[],blanks_nil,rfl,fun c hc=>by simp at hc;subst hc;simpa using h⟩
theorem trim_spec (s:Bs):∃a b,Blanks a∧Blanks b∧s=a++trim s++b∧trimL s=trim s++b∧Tight (trim s):=by
 obtain⟨a,h1,h2,h3⟩:=trimL_spec s
 obtain⟨r,k1,k2,k3⟩:=trimL_spec (trimL s).reverse
 have e:trimL s=trim s++r.reverse:=by
  have:=congrArg List.reverse k2
  rw[List.reverse_reverse,List.reverse_append]at this
  exact this
 refine⟨a,r.reverse,h1,fun c hc=>k1 c (List.mem_reverse.1 hc),by rw[List.append_assoc,←e];exact h2,e,?_,?_⟩
 ·intro c hc
  refine h3 c ?_
  rw[e]
  cases ht:trim s with
  |nil=>rw[ht]at hc;cases hc
  |cons x t=>rw[ht]at hc;simpa using hc
 ·intro c hc
  refine k3 c ?_
  unfold trim at hc
  rwa[List.getLast?_reverse]at hc
theorem trim_mem {s:Bs} {c:UInt8} (h:c∈trim s):c∈s:=by
 obtain⟨a,b,_,_,e,_⟩:=trim_spec s
 rw[e];simp[h]
theorem mem_trim {s:Bs} {c:UInt8} (h:c∈s) (hb:blank c=false):c∈trim s:=by
 obtain⟨a,b,ha,hb',e,_⟩:=trim_spec s
 rw[e]at h
 simp only[List.mem_append]at h
 rcases h with (h|h)|h
 ·rw[ha c h]at hb;cases hb
 ·exact h
 ·rw[hb' c h]at hb;cases hb
theorem all_take:∀(s:Bs) (c:UInt8),c∈s.takeWhile (fun c=>!blank c)→(!blank c)=true
 |[],c,h=>by cases h
 |x::t,c,h=>by
  rw[List.takeWhile_cons]at h
  split at h
  ·rename_i hx
   rcases List.mem_cons.1 h with rfl|h
   ·exact hx
   ·exact all_take t c h
  ·cases h
theorem cutWord_eq (s:Bs):ZU s=(s.take (wordLen s),trim (s.drop (wordLen s))):=by
 unfold wordLen
 have e:s=s.takeWhile (fun c=>!blank c)++s.dropWhile (fun c=>!blank c):=(List.takeWhile_append_dropWhile).symm
 have hu:∀c∈s.takeWhile (fun c=>!blank c),blank c=false:=fun c hc=>by simpa using all_take s c hc
 have hv:∀c∈(s.dropWhile (fun c=>!blank c)).head?,blank c=true:=by
  intro c hc
  have:=List.head?_dropWhile_not (fun c=>!blank c) s
  rw[Option.mem_def]at hc
  rw[hc]at this
  simpa using this
 generalize s.takeWhile (fun c=>!blank c)=u at *
 generalize s.dropWhile (fun c=>!blank c)=v at *
 subst e
 rw[List.take_left,List.drop_left]
 cases v with
 |nil=>rw[List.append_nil,cutWord_word u hu];rfl
 |cons b v=>exact cutWord_rest u v b hu (hv b (by simp))
theorem rO_reg (t:Bs):QR 0 t=(register t).map fun n=>⟨[],n⟩:=by
 unfold QR
 rw[if_neg (by simp)]
 have hm:mark 0=[100]:=rfl
 rw[hm]
 unfold stripPrefix
 cases t with
 |nil=>rfl
 |cons c u=>
  by_cases hc:c=100
  ·subst hc
   rw[if_pos (by simp[List.isPrefixOf])]
   simp only[List.length_cons,List.length_nil,List.drop_succ_cons,List.drop_zero]
   cases u with
   |nil=>rfl
   |cons k v=>
    cases v with
    |cons x y=>rfl
    |nil=>
     have hall:∀k:UInt8,(if (0:Int)=0∧isDigit1 [k]=false then none else (number [k]).map fun n=>(([]:Bs),n))=(register [100,k]).map fun n=>(([]:Bs),n):=by
      have h':∀n:Fin 256,(if (0:Int)=0∧isDigit1 [UInt8.ofNat n.1]=false then none else (number [UInt8.ofNat n.1]).map fun n=>(([]:Bs),n))=(register [100,UInt8.ofNat n.1]).map fun n=>(([]:Bs),n):=by decide +kernel
      intro k
      have:=h' ⟨k.toNat,k.toNat_lt⟩
      rwa[UInt8.ofNat_toNat]at this
     have:=congrArg (Option.map fun (p:Bs×Int)=>(⟨p.1,p.2⟩:Opr)) (hall k)
     rw[apply_ite (Option.map fun (p:Bs×Int)=>(⟨p.1,p.2⟩:Opr))]at this
     simpa only[Option.map_none,Option.map_map,Function.comp_def] using this
  ·rw[if_neg (by simp[List.isPrefixOf];exact fun h=>hc h.symm)]
   have:register (c::u)=none:=by
    unfold register
    split
    ·rename_i d k h
     simp only[List.cons.injEq]at h
     rw[if_neg]
     rintro ⟨h1,_⟩
     exact hc (h.1.trans h1)
    ·rfl
   rw[this];rfl
theorem rO_val (t:Bs):QR 1 t=(value t).map fun n=>⟨[],n⟩:=by
 unfold QR
 rw[if_neg (by simp)]
 have hm:mark 1=[35]:=rfl
 rw[hm]
 unfold stripPrefix value
 cases t with
 |nil=>rfl
 |cons c u=>
  by_cases hc:c=35
  ·subst hc
   rw[if_pos (by simp[List.isPrefixOf])]
   simp
  ·rw[if_neg (by simp[List.isPrefixOf];exact fun h=>hc h.symm)]
   simp only[if_neg hc]
   rfl
theorem rO_num (t:Bs):QR 2 t=(number t).map fun n=>⟨[],n⟩:=by
 unfold QR
 rw[if_neg (by simp)]
 have hm:mark 2=[]:=rfl
 rw[hm]
 unfold stripPrefix
 rw[if_pos (by simp)]
 simp
theorem rO_place (t:Bs):QR 3 t=if ZT t=true then some ⟨t,0⟩ else (number t).map fun n=>⟨[],n⟩:=by
 unfold QR
 by_cases h:ZT t=true
 ·rw[if_pos ⟨rfl,h⟩,if_pos h]
 ·rw[if_neg (fun h'=>h h'.2),if_neg h]
  have hm:mark 3=[]:=rfl
  rw[hm]
  unfold stripPrefix
  rw[if_pos (by simp)]
  simp
def numSign (c:UInt8):Bool:=digit c||(97≤c&&c≤102)||c==45||c==36
theorem digitsVal_signs (base:Nat) (hb:base≤16):∀(s:Bs) (acc v:Nat),QY base acc s=some v→∀c∈s,numSign c=true
 |[],_,_,_,c,hc=>by cases hc
 |d::t,acc,v,h,c,hc=>by
  unfold QY at h
  split at h
  ·rename_i hd
   rcases List.mem_cons.1 hc with rfl|hc
   ·unfold numSign
    unfold digitVal at hd
    split at hd
    ·rename_i h1;simp[h1]
    ·split at hd
     ·rename_i h1
      rw[h1];simp
     ·omega
   ·exact digitsVal_signs base hb t _ v h c hc
  ·cases h
theorem cutHead_mem (m:UInt8) (s:Bs):∀c∈s,c=m∨c∈(ZB m s).1:=by
 intro c hc
 cases s with
 |nil=>cases hc
 |cons d t=>
  simp only[ZB]
  by_cases h:d=m
  ·rw[if_pos h]
   rcases List.mem_cons.1 hc with rfl|hc
   ·exact .inl h
   ·exact .inr hc
  ·rw[if_neg h]
   exact .inr hc
theorem number_dv (s:Bs) (v:Int) (h:number s=some v):∃n,QY (if (ZB 36 (ZB 45 s).1).2=true then 16 else 10) 0 (ZB 36 (ZB 45 s).1).1=some n:=by
 unfold number at h
 simp only at h
 split at h
 ·cases hd:QY (if (ZB 36 (ZB 45 s).1).2=true then 16 else 10) 0 (ZB 36 (ZB 45 s).1).1 with
  |none=>rw[hd]at h;simp at h
  |some n=>exact⟨n,rfl⟩
 ·cases h
theorem number_signs (s:Bs) (v:Int) (h:number s=some v):∀c∈s,numSign c=true:=by
 obtain⟨n,hn⟩:=number_dv s v h
 intro c hc
 rcases cutHead_mem 45 s c hc with rfl|h1
 ·decide
 ·rcases cutHead_mem 36 _ c h1 with rfl|h2
  ·decide
  ·exact digitsVal_signs _ (by split <;> omega) _ _ _ hn c h2
theorem number_first (s:Bs) (v:Int) (h:number s=some v):∃c t,s=c::t∧(digit c=true∨c=45∨c=36):=by
 cases s with
 |nil=>simp[number,ZB]at h
 |cons c t=>
  refine⟨c,t,rfl,?_⟩
  by_cases h1:c=45
  ·exact .inr (.inl h1)
  ·by_cases h2:c=36
   ·exact .inr (.inr h2)
   ·left
    obtain⟨n,hn⟩:=number_dv _ v h
    simp only[ZB,if_neg h1,if_neg h2,Bool.false_eq_true,if_false,QY]at hn
    split at hn
    ·rename_i hd
     unfold digitVal at hd
     split at hd
     ·assumption
     ·split at hd
      ·rename_i h4
       simp only[Bool.and_eq_true,decide_eq_true_eq]at h4
       have:=UInt8.le_iff_toNat_le.1 h4.1
       simp at this
       omega
      ·omega
    ·cases hn
theorem sign_one (c:UInt8) (t:Bs) (h:c.toNat<128):QU (c::t)=1:=by
 unfold QU
 simp[h]
theorem u8_lt128:∀c:UInt8,(digit c=true∨c=45∨c=36)→c.toNat<128∧letter c=false:=by
 have h:∀n:Fin 256,(digit (UInt8.ofNat n.1)=true∨UInt8.ofNat n.1=45∨UInt8.ofNat n.1=36)→(UInt8.ofNat n.1).toNat<128∧letter (UInt8.ofNat n.1)=false:=by decide +kernel
 intro c
 have:=h ⟨c.toNat,c.toNat_lt⟩
 rwa[UInt8.ofNat_toNat]at this
theorem number_noName (s:Bs) (v:Int) (h:number s=some v):ZT s=false:=by
 obtain⟨c,t,rfl,hc⟩:=number_first s v h
 obtain⟨h1,h2⟩:=u8_lt128 c hc
 unfold ZT
 have:nameCount (c::t).length true (c::t)=none:=by
  rw[List.length_cons,nameCount]
  simp only
  rw[sign_one c t h1,if_pos (.inr ⟨rfl,h2,.inr trivial⟩)]
 rw[this]
theorem signLen_le (s:Bs):QU s≤4∧(1<QU s→∀c∈s.take (QU s),128≤c.toNat):=by
 unfold QU
 cases s with
 |nil=>simp
 |cons a t=>
  simp only
  by_cases h1:a.toNat<128
  ·rw[if_pos h1];simp
  ·rw[if_neg h1]
   have ha:128≤a.toNat:=by omega
   have hcb:∀b,contB b=true→128≤b.toNat:=fun b hb=>by unfold contB at hb;simp at hb;exact hb.1
   split
   ·split
    ·rename_i b _
     split
     ·rename_i hb
      refine⟨by omega,fun _ c hc=>?_⟩
      simp only[List.take_succ_cons,List.take_zero,List.mem_cons,List.not_mem_nil,or_false]at hc
      rcases hc with rfl|rfl
      ·exact ha
      ·exact hcb _ hb
     ·exact⟨by omega,fun h=>by omega⟩
    ·exact⟨by omega,fun h=>by omega⟩
   ·split
    ·split
     ·split
      ·rename_i hb
       simp only[Bool.and_eq_true]at hb
       refine⟨by omega,fun _ c hc=>?_⟩
       simp only[List.take_succ_cons,List.take_zero,List.mem_cons,List.not_mem_nil,or_false]at hc
       rcases hc with rfl|rfl|rfl
       ·exact ha
       ·exact hcb _ hb.1.1.1
       ·exact hcb _ hb.1.1.2
      ·exact⟨by omega,fun h=>by omega⟩
     ·exact⟨by omega,fun h=>by omega⟩
    ·split
     ·split
      ·split
       ·rename_i hb
        simp only[Bool.and_eq_true]at hb
        refine⟨by omega,fun _ c hc=>?_⟩
        simp only[List.take_succ_cons,List.take_zero,List.mem_cons,List.not_mem_nil,or_false]at hc
        rcases hc with rfl|rfl|rfl|rfl
        ·exact ha
        ·exact hcb _ hb.1.1.1.1
        ·exact hcb _ hb.1.1.1.2
        ·exact hcb _ hb.1.1.2
       ·exact⟨by omega,fun h=>by omega⟩
      ·exact⟨by omega,fun h=>by omega⟩
     ·exact⟨by omega,fun h=>by omega⟩
def nameSign (c:UInt8):Bool:=letter c||digit c||decide (128≤c.toNat)
theorem nameCount_signs:∀(f:Nat) (first:Bool) (s:Bs) (n:Nat),nameCount f first s=some n→∀c∈s,nameSign c=true
 |_,_,[],_,_,c,hc=>by cases hc
 |0,_,_::_,_,h,_,_=>by simp[nameCount]at h
 |f+1,first,a::t,n,h,c,hc=>by
  rw[nameCount]at h
  split at h
  ·cases h
  ·rename_i hk
   obtain⟨m,hm,_⟩:=Option.map_eq_some_iff.1 h
   have ih:=nameCount_signs f false _ m hm
   have hs:=signLen_le (a::t)
   have hc':c∈(a::t).take (QU (a::t))∨c∈t.drop (QU (a::t)-1):=by
    have h0:QU (a::t)≠0:=fun h=>hk (.inl h)
    rw[←List.take_append_drop (QU (a::t)) (a::t),List.mem_append]at hc
    rcases hc with hc|hc
    ·exact .inl hc
    ·right
     obtain⟨q,hq⟩:∃q,QU (a::t)=q+1:=⟨QU (a::t)-1,by omega⟩
     rw[hq,List.drop_succ_cons]at hc
     rw[hq,Nat.add_sub_cancel]
     exact hc
   rcases hc' with hc'|hc'
   ·by_cases h1:QU (a::t)=1
    ·rw[h1]at hc'
     simp at hc'
     subst hc'
     have hk2:¬(letter c=false∧(digit c=false∨first=true)):=fun h=>hk (.inr ⟨h1,h⟩)
     unfold nameSign
     cases hl:letter c
     ·rw[hl]at hk2
      cases hd:digit c
      ·rw[hd]at hk2;simp at hk2
      ·rfl
     ·rfl
    ·have:=hs.2 (by have:QU (a::t)≠0:=fun h=>hk (.inl h);omega) c hc'
     unfold nameSign
     simp[this]
   ·exact ih c hc'
theorem isName_signs (s:Bs) (h:ZT s=true):∀c∈s,nameSign c=true:=by
 unfold ZT at h
 split at h
 ·rename_i n hn
  exact nameCount_signs _ _ _ n hn
 ·cases h
theorem sign_facts:∀c:UInt8,(nameSign c=true∨numSign c=true)→blank c=false∧c≠58∧c≠44:=by
 have h:∀n:Fin 256,(nameSign (UInt8.ofNat n.1)=true∨numSign (UInt8.ofNat n.1)=true)→blank (UInt8.ofNat n.1)=false∧UInt8.ofNat n.1≠58∧UInt8.ofNat n.1≠44:=by decide +kernel
 intro c
 have:=h ⟨c.toNat,c.toNat_lt⟩
 rwa[UInt8.ofNat_toNat]at this
theorem isName_nil:ZT []=false:=by decide
def rk (r:Int):UInt8:=if r=0 then 114 else if r=1 then 118 else if r=2 then 110 else 112
theorem fine_tie (r:Int) (h0:0≤r) (h3:r≤3) (t:Bs):fine (rk r) t=(QR r t).isSome:=by
 have hr:r=0∨r=1∨r=2∨r=3:=by omega
 rcases hr with rfl|rfl|rfl|rfl
 ·rw[rO_reg];simp[fine,rk]
 ·rw[rO_val];simp[fine,rk]
 ·rw[rO_num];simp[fine,rk]
 ·rw[rO_place]
  have e:fine (rk 3) t=((number t).isSome||ZT t):=by simp[fine,rk]
  rw[e]
  split
  ·rename_i h;simp[h]
  ·rename_i h
   have:ZT t=false:=by simpa using h
   simp[this]
theorem operands_tie:∀(rs:List Int) (ts:List Bs),(∀r∈rs,0≤r∧r≤3)→ZG rs ts=if Z2 (rs.map rk) (ts.map trim)=true then some (List.zipWith opr rs (ts.map trim)) else none
 |[],[],_=>rfl
 |[],_::_,_=>rfl
 |_::_,[],_=>rfl
 |r::rs,t::ts,h=>by
  have hr:=h r (by simp)
  have ih:=operands_tie rs ts (fun r hr=>h r (by simp[hr]))
  rw[ZG,ih]
  simp only[List.map_cons,Z2,List.zipWith_cons_cons]
  rw[fine_tie r hr.1 hr.2]
  cases ho:QR r (trim t) with
  |none=>simp
  |some o=>
   have e:opr r (trim t)=o:=by unfold opr;rw[ho];rfl
   rw[e]
   by_cases ha:Z2 (rs.map rk) (ts.map trim)=true
   ·rw[if_pos ha,if_pos (by simp[ha])];rfl
   ·rw[if_neg ha,if_neg (by simp[ha])];rfl
theorem kind_jump (w:Bs) (h:w∈jumpWords) (f:Int):ZX w f=if f=0 then jumpOp (condition w) 0 2 else jumpOp (condition w) (f-1) (f-1):=by
 unfold ZX
 rw[(fixed_none w).2 (shape_jump w h).2.2.2]
 have hc:=(condition_mem w).2 h
 unfold condition at hc ⊢
 cases e:findIdx jumpWords w with
 |none=>rw[e]at hc;exact absurd hc (by decide)
 |some n=>rfl
theorem kind_far (w:Bs) (h:w∈farWords.map (·.1)) (f:Int):ZX w f=if f=0 then ZZ (if w=[106,109,112] then 0x4ef8 else 0x4eb8) 1 2 else ZZ (if w=[106,109,112] then 0x4ef8 else 0x4eb8) (f-1) (f-1):=by
 have h1:=(fixed_none w).2 (shape_far w h).2.2.2
 have hh:∀w∈farWords.map (·.1),findIdx jumpWords w=none∧farWords.find? (fun r=>r.1==w)=some (w,if w=[106,109,112] then 0x4ef8 else 0x4eb8):=by decide +kernel
 obtain⟨h2,h3⟩:=hh w h
 unfold ZX
 rw[h1,h2,h3]
theorem QL (w:Bs) (h:w∈fixedWords.map (·.1)) (f:Int):ZX w f=ZX w 0:=by
 unfold ZX
 cases e:fixedWords.find? (fun r=>r.1==w) with
 |none=>exact((fixed_none w).1 e h).elim
 |some r=>rfl
theorem word_cases (w:Bs) (h:(shape w).isSome=true):w∈fixedWords.map (·.1)∨w∈jumpWords∨w∈farWords.map (·.1):=by
 by_cases h1:w∈fixedWords.map (·.1)
 ·exact .inl h1
 by_cases h2:w∈jumpWords
 ·exact .inr (.inl h2)
 by_cases h3:w∈farWords.map (·.1)
 ·exact .inr (.inr h3)
 rw[shape_none w h1 h2 h3]at h;cases h
def shapeKind (ks:Bs) (k:Int):Bool:=
 (ks==[]&&k==1)||(ks==[114,114]&&k==2)||(ks==[118,114]&&(k==3||k==4))||(ks==[112]&&(k==5||k==6))||(ks==[80]&&(k==7||k==8))||(ks==[110]&&(k==9||k==10||k==11))
theorem shape_kind (w:Bs) (h:(shape w).isSome=true) (f:Int):shapeKind ((shape w).getD []) (ZX w f).kind=true:=by
 rcases word_cases w h with h1|h1|h1
 ·rw[QL w h1 f]
  have hh:∀w∈fixedWords.map (·.1),shapeKind ((shape w).getD []) (ZX w 0).kind=true:=by decide +kernel
  exact hh w h1
 ·rw[kind_jump w h1 f]
  have hh:∀w∈jumpWords,shapeKind ((shape w).getD []) 5=true:=by decide +kernel
  have:=hh w h1
  split <;> exact this
 ·rw[kind_far w h1 f]
  have hh:∀w∈farWords.map (·.1),shapeKind ((shape w).getD []) 6=true:=by decide +kernel
  have:=hh w h1
  split <;> exact this
theorem shapeKind_cases {ks:Bs} {k:Int} (h:shapeKind ks k=true):(ks=[]∧k=1)∨(ks=[114,114]∧k=2)∨(ks=[118,114]∧(k=3∨k=4))∨(ks=[112]∧(k=5∨k=6))∨(ks=[80]∧(k=7∨k=8))∨(ks=[110]∧(k=9∨k=10∨k=11)):=by
 unfold shapeKind at h
 simp only[Bool.or_eq_true,Bool.and_eq_true,beq_iff_eq]at h
 rcases h with ((((h|h)|h)|h)|h)|h
 ·exact .inl h
 ·exact .inr (.inl h)
 ·exact .inr (.inr (.inl h))
 ·exact .inr (.inr (.inr (.inl h)))
 ·exact .inr (.inr (.inr (.inr (.inl h))))
 ·exact .inr (.inr (.inr (.inr (.inr ⟨h.1,or_assoc.1 h.2⟩))))
theorem roles_rng (k:Int) (n:Nat):∀r∈roles k n,0≤r∧r≤3:=by
 intro r hr
 unfold roles at hr
 repeat' split at hr
 all_goals first|(simp at hr;omega)|(rw[List.mem_replicate]at hr;omega)|(simp at hr)
theorem allFine_len:∀(ks:Bs) (ts:List Bs),Z2 ks ts=true→ks.length=ts.length
 |[],[],_=>rfl
 |[],_::_,h=>by simp[Z2]at h
 |_::_,[],h=>by simp[Z2]at h
 |k::ks,t::ts,h=>by
  simp only[Z2,Bool.and_eq_true]at h
  simp[allFine_len ks ts h.2]
theorem kinds_roles (w:Bs) (f:Int) (ts:List Bs) (h:(shape w).isSome=true) :
  (∃ks,kinds w ts.length=some ks∧Z2 ks ts=Z2 ((roles (ZX w f).kind ts.length).map rk) ts):=by
 obtain⟨ks,hk⟩:=Option.isSome_iff_exists.1 h
 have hsk:=shape_kind w h f
 rw[hk]at hsk
 simp only[Option.getD_some]at hsk
 unfold kinds
 rw[hk]
 refine⟨_,rfl,?_⟩
 show Z2 (if ks=[80]∧1≤ts.length∧ts.length≤8 then List.replicate ts.length 112 else ks) ts=_
 rcases shapeKind_cases hsk with ⟨rfl,e⟩|⟨rfl,e⟩|⟨rfl,e⟩|⟨rfl,e⟩|⟨rfl,e⟩|⟨rfl,e⟩
 ·rw[e,if_neg (by simp)];rfl
 ·rw[e,if_neg (by simp)];rfl
 ·rw[if_neg (by simp)]
  rcases e with e|e <;> rw[e] <;> rfl
 ·rw[if_neg (by simp)]
  rcases e with e|e <;> rw[e] <;> rfl
 ·have hr:roles (ZX w f).kind ts.length=List.replicate (min (max ts.length 1) 8) 3:=by
   unfold roles
   rw[if_neg (by omega),if_neg (by omega),if_neg (by omega),if_pos e]
  rw[hr,List.map_replicate]
  by_cases hn:1≤ts.length∧ts.length≤8
  ·rw[if_pos ⟨rfl,hn⟩]
   have:min (max ts.length 1) 8=ts.length:=by omega
   rw[this];rfl
  ·rw[if_neg (fun h=>hn h.2)]
   have e1:Z2 [80] ts=false:=by
    cases hx:Z2 [80] ts with
    |false=>rfl
    |true=>have:=allFine_len _ _ hx;simp at this;omega
   have e2:Z2 (List.replicate (min (max ts.length 1) 8) (rk 3)) ts=false:=by
    cases hx:Z2 (List.replicate (min (max ts.length 1) 8) (rk 3)) ts with
    |false=>rfl
    |true=>have:=allFine_len _ _ hx;rw[List.length_replicate]at this;omega
   rw[e1,e2]
 ·rw[if_neg (by simp)]
  rcases e with e|e|e <;> rw[e] <;> rfl
theorem shape_ne (w:Bs) (h:(shape w).isSome=true):w≠[]:=by
 rintro rfl
 revert h
 decide
theorem ending_tie (no:Int) (label w:Bs) (f:Int) (ts:List Bs) (h:(shape w).isSome=true):((operands (ZX w f).kind ts).map fun l=>(⟨ZX w f,l⟩:Ins))=(ending no label w f (ts.map trim)).map ins:=by
 obtain⟨ks,hk,ha⟩:=kinds_roles w f (ts.map trim) h
 unfold operands ending
 rw[operands_tie _ _ (roles_rng _ _),hk]
 rw[List.length_map]at ha
 simp only
 rw[ha]
 split
 ·have:ins ⟨no,label,w,f,ts.map trim⟩=⟨ZX w f,List.zipWith opr (roles (ZX w f).kind ts.length) (ts.map trim)⟩:=by
   unfold ins
   rw[if_neg (shape_ne w h)]
   simp only[List.length_map]
  simp only[Option.map_some,this]
 ·rfl
theorem body_tie (no:Int) (label b:Bs):instruction b=(body no label (trim b)).map ins:=by
 unfold instruction body
 rw[cutWord_eq]
 simp only
 by_cases h:trim b=[]
 ·rw[if_pos h,h];rfl
 ·rw[if_neg h]
  have hw:(trim b).take (wordLen (trim b))≠[]:=by
   obtain⟨_,_,_,_,_,_,ht⟩:=trim_spec b
   cases e:trim b with
   |nil=>exact(h e).elim
   |cons c t=>
    have:=ht.1 c (by rw[e];rfl)
    simp[wordLen,List.takeWhile_cons,this]
  rw[if_neg hw,find_tie]
  generalize (trim b).take (wordLen (trim b))=wd
  generalize trim ((trim b).drop (wordLen (trim b)))=rest
  cases hs:shape (cutF wd).1 with
  |none=>
   simp only[Option.map_none,Option.bind_none]
   unfold ending kinds
   rw[hs];rfl
  |some ks=>
   simp only[Option.map_some,Option.bind_some]
   have e:textsOf rest=(if rest=[] then [] else split 44 rest).map trim:=by
    unfold textsOf
    split <;> rfl
   rw[e]
   exact ending_tie no label _ _ _ (by rw[hs];rfl)
theorem body_label {no:Int} {label s:Bs} {l:Line} (h:body no label s=some l):l.label=label:=by
 unfold body ending at h
 split at h
 ·cases h;rfl
 ·split at h
  ·cases h
  ·split at h
   ·cases h;rfl
   ·cases h
theorem fine_colon (k:UInt8) (t:Bs) (h:(58:UInt8)∈t):fine k t=false:=by
 have hn:number t=none:=by
  cases e:number t with
  |none=>rfl
  |some v=>exact absurd rfl (sign_facts 58 (.inr (number_signs t v e 58 h))).2.1
 have hi:ZT t=false:=by
  cases e:ZT t with
  |false=>rfl
  |true=>exact absurd rfl (sign_facts 58 (.inl (isName_signs t e 58 h))).2.1
 have hv:value t=none:=by
  unfold value
  split
  ·split
   ·rename_i c u hc
    cases e:number u with
    |none=>rfl
    |some v=>
     have h':(58:UInt8)∈u:=by
      rcases List.mem_cons.1 h with e|e
      ·rw[hc]at e;exact absurd e (by decide)
      ·exact e
     exact absurd rfl (sign_facts 58 (.inr (number_signs u v e 58 h'))).2.1
   ·rfl
  ·rfl
 have hr:register t=none:=by
  unfold register
  split
  ·rename_i d k
   rw[if_neg]
   rintro ⟨h1,h2,h3⟩
   rcases List.mem_cons.1 h with e|e
   ·rw[h1]at e;exact absurd e (by decide)
   ·rw[List.mem_singleton]at e
    rw[←e]at h3;exact absurd h3 (by decide)
  ·rfl
 unfold fine
 rw[hn,hi,hv,hr]
 simp
theorem allFine_colon:∀(ks:Bs) (ts:List Bs) (t:Bs),t∈ts→(58:UInt8)∈t→Z2 ks ts=false
 |[],[],t,h,_=>by cases h
 |[],_::_,_,_,_=>rfl
 |_::_,[],_,_,_=>rfl
 |k::ks,x::ts,t,h,h58=>by
  simp only[Z2]
  rcases List.mem_cons.1 h with rfl|h
  ·rw[fine_colon k t h58];rfl
  ·rw[allFine_colon ks ts t h h58];simp
theorem split_mem (m c:UInt8) (hc:c≠m):∀(s:Bs),c∈s→∃p∈split m s,c∈p
 |[],h=>by cases h
 |x::t,h=>by
  unfold split
  by_cases hx:x=m
  ·rw[if_pos hx]
   rcases List.mem_cons.1 h with rfl|h
   ·exact(hc hx).elim
   ·obtain⟨p,hp,h'⟩:=split_mem m c hc t h
    exact⟨p,List.mem_cons_of_mem _ hp,h'⟩
  ·rw[if_neg hx]
   rcases List.mem_cons.1 h with rfl|h
   ·split
    ·exact⟨[c],by simp,by simp⟩
    ·exact⟨c::_,List.mem_cons_self,List.mem_cons_self⟩
   ·obtain⟨p,hp,h'⟩:=split_mem m c hc t h
    split
    ·rename_i e;rw[e]at hp;cases hp
    ·rename_i a r e
     rw[e]at hp
     rcases List.mem_cons.1 hp with rfl|hp
     ·exact⟨x::p,by simp,by simp[h']⟩
     ·exact⟨p,by simp[hp],h'⟩
theorem words_colon:(∀w∈fixedWords.map (·.1),(58:UInt8)∉w)∧(∀w∈jumpWords,(58:UInt8)∉w)∧(∀w∈farWords.map (·.1),(58:UInt8)∉w):=by decide +kernel
theorem cutF_colon (w:Bs) (h:(58:UInt8)∈w):shape (cutF w).1=none:=by
 have hn:∀w:Bs,(58:UInt8)∈w→shape w=none:=fun w h=>shape_none w (fun h'=>words_colon.1 w h' h) (fun h'=>words_colon.2.1 w h' h) (fun h'=>words_colon.2.2 w h' h)
 unfold cutF
 split
 ·rename_i h2
  split
  ·rename_i h3
   have e:=last_two h2.1 h2.2
   have hx:=(find_swl _).1 h3.1
   rw[e,List.mem_append]at h
   rcases h with h|h
   ·exact hn _ h
   ·simp only[List.mem_cons,List.not_mem_nil,or_false]at h
    rcases h with h|h
    ·exact absurd h (by decide)
    ·rw[←h]at hx;exact absurd hx (by decide)
  ·exact hn w h
 ·exact hn w h
theorem body_colon (no:Int) (label s:Bs) (h:(58:UInt8)∈s):body no label s=none:=by
 unfold body
 have hs:s≠[]:=by rintro rfl;cases h
 rw[if_neg hs]
 rw[←List.take_append_drop (wordLen s) s,List.mem_append]at h
 rcases h with h|h
 ·unfold ending kinds
  rw[cutF_colon _ h];rfl
 ·unfold ending
  have h1:=mem_trim h (by decide)
  have h2:trim (s.drop (wordLen s))≠[]:=by intro e;rw[e]at h1;cases h1
  obtain⟨p,hp,h3⟩:=split_mem 44 58 (by decide) _ h1
  have h4:trim p∈textsOf (trim (s.drop (wordLen s))):=by
   unfold textsOf
   rw[if_neg h2]
   exact List.mem_map.2 ⟨p,hp,rfl⟩
  split
  ·rfl
  ·rw[if_neg]
   rw[allFine_colon _ _ _ h4 (mem_trim h3 (by decide))]
   decide
theorem drop_tail {a x T:Bs} (e:a=x++T):a.drop (a.length-T.length)=T:=by subst e;simp
theorem labelName_tie (a:Bs):labelName a=if ZT (trimL a)=true then some (trimL a) else none:=by
 obtain⟨x,y,hx,hy,e,eL,ht⟩:=trim_spec a
 unfold labelName
 simp only
 by_cases hn:ZT (trimL a)=true
 ·rw[if_pos hn]
  have hnb:y=[]:=by
   cases y with
   |nil=>rfl
   |cons c t=>
    have h1:=hy c (by simp)
    have h2:=(sign_facts c (.inl (isName_signs _ hn c (by rw[eL];simp)))).1
    rw[h1]at h2;cases h2
  rw[hnb,List.append_nil]at eL e
  rw[eL]at hn
  rw[if_pos ⟨hn,drop_tail e⟩,eL]
 ·rw[if_neg hn,if_neg]
  rintro ⟨h1,h2⟩
  have hy0:y=[]:=by
   rcases List.eq_nil_or_concat y with h|⟨q,c,rfl⟩
   ·exact h
   ·exfalso
    have hT:trim a≠[]:=by intro h0;rw[h0,isName_nil]at h1;cases h1
    have hl:(trim a).getLast? = some c:=by
     rw[←h2,List.getLast?_drop,if_neg (by
      have:(trim a).length≠0:=fun h=>hT (List.length_eq_zero_iff.1 h)
      have:a.length=x.length+(trim a).length+(q.length+1):=by
       have:=congrArg List.length e
       simp only[List.length_append,List.concat_eq_append,List.length_cons,List.length_nil]at this
       omega
      omega)]
     have:=congrArg List.getLast? e
     simpa using this
    have h3:=ht.2 c (by rw[hl];rfl)
    rw[hy c (by simp)]at h3;cases h3
  rw[hy0,List.append_nil]at eL
  rw[eL]at hn
  exact hn h1
theorem trim_colon (a b:Bs):∃y,Blanks y∧∃b',b=b'++y∧trim (a++58::b)=trimL a++58::b':=by
 obtain⟨x,hx,e,hh⟩:=trimL_spec a
 obtain⟨p,y,hp,hy,e2,eL,ht⟩:=trim_spec (58::b)
 have hp0:p=[]:=by
  cases p with
  |nil=>rfl
  |cons c t=>
   have h1:=hp c (by simp)
   simp only[List.cons_append,List.cons.injEq]at e2
   rw[←e2.1]at h1;exact absurd h1 (by decide)
 rw[hp0,List.nil_append]at e2
 cases hT:trim (58::b) with
 |nil=>
  exfalso
  rw[hT,List.nil_append]at e2
  have:=hy 58 (by rw[←e2];simp)
  exact absurd this (by decide)
 |cons c b'=>
  rw[hT,List.cons_append,List.cons.injEq]at e2
  obtain⟨rfl,rfl⟩:=e2
  refine⟨y,hy,b',rfl,?_⟩
  rw[hT]at ht
  have e3:a++58::(b'++y)=x++(trimL a++58::b')++y:=by
   rw[←List.cons_append,←List.append_assoc,←List.append_assoc,←e]
  rw[e3]
  refine trim_pad x _ y hx ⟨?_,?_⟩ hy
  ·intro c hc
   cases hq:trimL a with
   |nil=>rw[hq]at hc;simp at hc;subst hc;decide
   |cons d t=>rw[hq]at hc;exact hh c (by rw[hq];simpa using hc)
  ·intro c hc
   refine ht.2 c ?_
   rwa[last_append _ _ (by simp)]at hc
theorem trim_drop (b' y:Bs) (hy:Blanks y):trim (b'++y)=trim b':=by
 obtain⟨p,q,hp,hq,e,_,ht⟩:=trim_spec b'
 have e2:b'++y=p++trim b'++(q++y):=by rw[←List.append_assoc,←e]
 rw[e2]
 exact trim_pad p _ (q++y) hp ht (fun c hc=>(List.mem_append.1 hc).elim (hq c) (hy c))
theorem split_ne (m:UInt8) (s:Bs):split m s≠[]:=by
 cases s with
 |nil=>simp[split]
 |cons c t=>
  unfold split
  split
  ·simp
  ·split <;> simp
theorem read_tie (s:Bs) (no:Int):readLine s=(read s no).map strd:=by
 unfold readLine read
 rw[upTo_head]
 generalize (split 59 s).headD []=t
 unfold readT
 rcases find_spec t 58 with ⟨h1,h2⟩|⟨a,b,rfl,h2,h3⟩
 ·rw[split_none 58 t h2]
  have hf:find (trim t) 58=-1:=by
   rcases find_spec (trim t) 58 with ⟨h3,_⟩|⟨a,b,e,_,_⟩
   ·exact h3
   ·exact absurd rfl (h2 58 (trim_mem (by rw[e];simp)))
  rw[hf,if_neg (by decide)]
  simp only
  rw[body_tie no [] t]
  cases hb:body no [] (trim t) with
  |none=>rfl
  |some l=>
   have:l.label=[]:=body_label hb
   simp[strd,this]
 ·obtain⟨y,hy,b',rfl,e⟩:=trim_colon a b
  rw[split_at 58 a _ h2,e]
  have hsub:∀x∈trimL a,x≠58:=by
   obtain⟨x,_,e,_⟩:=trimL_spec a
   intro c hc
   exact h2 c (by rw[e];simp[hc])
  have hf:find (trimL a++58::b') 58=((trimL a).length:Int):=find_at (by simp) (fun i hi h=>by
   rw[List.getElem?_append_left hi]at h
   exact hsub _ (List.mem_of_getElem? h) rfl)
  rw[hf,if_pos (by omega)]
  simp only[Int.toNat_natCast,List.take_left]
  have hd:(trimL a++58::b').drop ((trimL a).length+1)=b':=by
   rw[←List.drop_drop,List.drop_left];rfl
  rw[hd]
  by_cases hc:(58:UInt8)∈b'++y
  ·have hc':(58:UInt8)∈trim b':=by
    rw[←trim_drop b' y hy];exact mem_trim hc (by decide)
   rw[body_colon _ _ _ hc']
   obtain⟨p,q,e2,hp⟩:∃p q,b'++y=p++58::q∧∀x∈p,x≠58:=by
    rcases find_spec (b'++y) 58 with ⟨_,h⟩|⟨p,q,e2,hp,_⟩
    ·exact absurd rfl (h 58 hc)
    ·exact⟨p,q,e2,hp⟩
   rw[e2,split_at 58 p q hp]
   cases hq:split 58 q with
   |nil=>exact absurd hq (split_ne 58 q)
   |cons u v=>simp
  ·rw[split_none 58 (b'++y) (fun x hx h=>hc (h ▸ hx))]
   simp only
   rw[labelName_tie,body_tie no (trimL a) (b'++y),trim_drop b' y hy]
   by_cases hn:ZT (trimL a)=true
   ·rw[if_pos hn,if_pos hn]
    cases hb:body no (trimL a) (trim b') with
    |none=>rfl
    |some l=>
     have:l.label=trimL a:=body_label hb
     simp[strd,this]
   ·rw[if_neg hn,if_neg hn]
    cases body no (trimL a) (trim b') <;> rfl
def placeT (t:Bs):Bool:=(number t).isSome||ZT t
def dcOp (w:Bs):Bool:=w==[100,99,46,119]||w==[100,99,46,98]
def regsOp (w:Bs):Bool:=w==[109,111,118,101,113]||w==[97,100,100,105]||decide (0<two w)
def Shaped (l:Line):Prop:=
 ((l.word=[110,111,112]∨l.word=[114,116,115])∧l.texts=[]) ∨
 ((l.word=[109,111,118,101]∨l.word=[97,100,100]∨l.word=[115,117,98]∨l.word=[99,109,112])∧∃a b m n,l.texts=[a,b]∧register a=some m∧register b=some n) ∨
 ((l.word=[109,111,118,101,113]∨l.word=[97,100,100,105])∧∃a b m n,l.texts=[a,b]∧value a=some m∧register b=some n) ∨
 ((l.word∈jumpWords∨l.word∈farWords.map (·.1))∧∃a,l.texts=[a]∧placeT a=true) ∨
 (dcOp l.word=true∧1≤l.texts.length∧l.texts.length≤8∧∀t∈l.texts,placeT t=true) ∨
 ((l.word=[100,115]∨l.word=[97,108,105,103,110]∨l.word=[111,114,103])∧∃a n,l.texts=[a]∧number a=some n)
structure WfL (l:Line):Prop where
 shaped:(l.word=[]∧l.texts=[])∨Shaped l
 form:0≤l.form∧l.form≤3
 plain:QN l.word=false→l.form=0
 far1:far l.word=true→l.form≠1
 lens:l.label.length≤2^20∧l.word.length≤2^20∧∀t∈l.texts,t.length≤2^20
 lab:l.label≠[]→ZT l.label=true
theorem allFine_two {k1 k2:UInt8} {ts:List Bs} (h:Z2 [k1,k2] ts=true):∃a b,ts=[a,b]∧fine k1 a=true∧fine k2 b=true:=by
 match ts,h with
 |[a,b],h=>simp[Z2]at h;exact⟨a,b,rfl,h.1,h.2⟩
 |[],h=>simp[Z2]at h
 |[a],h=>simp[Z2]at h
 |a::b::c::t,h=>simp[Z2]at h
theorem allFine_one {k:UInt8} {ts:List Bs} (h:Z2 [k] ts=true):∃a,ts=[a]∧fine k a=true:=by
 match ts,h with
 |[a],h=>simp[Z2]at h;exact⟨a,rfl,h⟩
 |[],h=>simp[Z2]at h
 |a::b::t,h=>simp[Z2]at h
theorem allFine_rep:∀(n:Nat) (ts:List Bs),Z2 (List.replicate n 112) ts=true→ts.length=n∧∀t∈ts,placeT t=true
 |0,[],_=>⟨rfl,fun t h=>by cases h⟩
 |0,_::_,h=>by simp[Z2]at h
 |n+1,[],h=>by simp[List.replicate_succ,Z2]at h
 |n+1,a::ts,h=>by
  rw[List.replicate_succ]at h
  simp only[Z2,Bool.and_eq_true]at h
  obtain⟨h1,h2⟩:=allFine_rep n ts h.2
  refine⟨by simp[h1],fun t ht=>?_⟩
  rcases List.mem_cons.1 ht with rfl|ht
  ·have:=h.1;simpa [fine,placeT] using this
  ·exact h2 t ht
theorem fine_reg {t:Bs} (h:fine 114 t=true):∃n,register t=some n:=Option.isSome_iff_exists.1 (by simpa [fine] using h)
theorem fine_val {t:Bs} (h:fine 118 t=true):∃n,value t=some n:=Option.isSome_iff_exists.1 (by simpa [fine] using h)
theorem fine_num {t:Bs} (h:fine 110 t=true):∃n,number t=some n:=Option.isSome_iff_exists.1 (by simpa [fine] using h)
theorem fine_place {t:Bs} (h:fine 112 t=true):placeT t=true:=by simpa [fine,placeT] using h
theorem shapes_jump:(∀w∈jumpWords,shape w=some [112])∧(∀w∈farWords.map (·.1),shape w=some [112]):=by decide +kernel
theorem shaped_of (no:Int) (label w:Bs) (f:Int) (ts:List Bs) (l:Line) (h:ending no label w f ts=some l):l=⟨no,label,w,f,ts⟩∧Shaped l∧(shape w).isSome=true:=by
 unfold ending at h
 cases hk:kinds w ts.length with
 |none=>rw[hk]at h;cases h
 |some ks=>
  rw[hk]at h
  simp only at h
  split at h
  ·rename_i hf
   cases h
   have hs:(shape w).isSome=true:=by
    unfold kinds at hk
    cases e:shape w with
    |none=>rw[e]at hk;cases hk
    |some x=>rfl
   refine⟨rfl,?_,hs⟩
   unfold Shaped
   simp only
   unfold kinds at hk
   rcases word_cases w hs with h1|h1|h1
   ·simp only[fixedWords,List.map_cons,List.map_nil,List.mem_cons,List.not_mem_nil,or_false]at h1
    have hex:∀(w ks0:Bs),shape w=some ks0→(Option.map (fun ks=>if ks=[80]∧1≤ts.length∧ts.length≤8 then List.replicate ts.length 112 else ks) (shape w)=some ks)→(ks0≠[80]→ks=ks0)∧(ks0=[80]→ks=if 1≤ts.length∧ts.length≤8 then List.replicate ts.length 112 else [80]):=by
     intro w ks0 e h
     rw[e]at h
     simp only[Option.map_some,Option.some.injEq]at h
     refine⟨fun hne=>?_,fun he=>?_⟩
     ·rw[if_neg (fun h=>hne h.1)]at h;exact h.symm
     ·subst he
      rw[←h];simp
    have hdc:dcOp w=true→shape w=some [80]→(1≤ts.length∧ts.length≤8∧∀t∈ts,placeT t=true):=by
     intro _ e
     have:=(hex w [80] e hk).2 rfl
     by_cases hn:1≤ts.length∧ts.length≤8
     ·rw[if_pos hn]at this
      rw[this]at hf
      exact⟨hn.1,hn.2,(allFine_rep _ _ hf).2⟩
     ·rw[if_neg hn]at this
      rw[this]at hf
      have:=allFine_len _ _ hf
      simp at this
      omega
    rcases h1 with rfl|rfl|rfl|rfl|rfl|rfl|rfl|rfl|rfl|rfl|rfl|rfl|rfl
    ·have e:=(hex _ [] (by decide +kernel) hk).1 (by decide)
     subst e
     have:=allFine_len _ _ hf
     exact .inl ⟨.inl rfl,List.length_eq_zero_iff.1 this.symm⟩
    ·have e:=(hex _ [] (by decide +kernel) hk).1 (by decide)
     subst e
     have:=allFine_len _ _ hf
     exact .inl ⟨.inr rfl,List.length_eq_zero_iff.1 this.symm⟩
    ·have e:=(hex _ [114,114] (by decide +kernel) hk).1 (by decide)
     subst e
     obtain⟨a,b,rfl,ha,hb⟩:=allFine_two hf
     obtain⟨m,hm⟩:=fine_reg ha
     obtain⟨n,hn⟩:=fine_reg hb
     exact .inr (.inl ⟨.inl rfl,a,b,m,n,rfl,hm,hn⟩)
    ·have e:=(hex _ [114,114] (by decide +kernel) hk).1 (by decide)
     subst e
     obtain⟨a,b,rfl,ha,hb⟩:=allFine_two hf
     obtain⟨m,hm⟩:=fine_reg ha
     obtain⟨n,hn⟩:=fine_reg hb
     exact .inr (.inl ⟨.inr (.inl rfl),a,b,m,n,rfl,hm,hn⟩)
    ·have e:=(hex _ [114,114] (by decide +kernel) hk).1 (by decide)
     subst e
     obtain⟨a,b,rfl,ha,hb⟩:=allFine_two hf
     obtain⟨m,hm⟩:=fine_reg ha
     obtain⟨n,hn⟩:=fine_reg hb
     exact .inr (.inl ⟨.inr (.inr (.inl rfl)),a,b,m,n,rfl,hm,hn⟩)
    ·have e:=(hex _ [114,114] (by decide +kernel) hk).1 (by decide)
     subst e
     obtain⟨a,b,rfl,ha,hb⟩:=allFine_two hf
     obtain⟨m,hm⟩:=fine_reg ha
     obtain⟨n,hn⟩:=fine_reg hb
     exact .inr (.inl ⟨.inr (.inr (.inr rfl)),a,b,m,n,rfl,hm,hn⟩)
    ·have e:=(hex _ [118,114] (by decide +kernel) hk).1 (by decide)
     subst e
     obtain⟨a,b,rfl,ha,hb⟩:=allFine_two hf
     obtain⟨m,hm⟩:=fine_val ha
     obtain⟨n,hn⟩:=fine_reg hb
     exact .inr (.inr (.inl ⟨.inl rfl,a,b,m,n,rfl,hm,hn⟩))
    ·have e:=(hex _ [118,114] (by decide +kernel) hk).1 (by decide)
     subst e
     obtain⟨a,b,rfl,ha,hb⟩:=allFine_two hf
     obtain⟨m,hm⟩:=fine_val ha
     obtain⟨n,hn⟩:=fine_reg hb
     exact .inr (.inr (.inl ⟨.inr rfl,a,b,m,n,rfl,hm,hn⟩))
    ·exact .inr (.inr (.inr (.inr (.inl ⟨rfl,hdc rfl (by decide +kernel)⟩))))
    ·exact .inr (.inr (.inr (.inr (.inl ⟨rfl,hdc rfl (by decide +kernel)⟩))))
    ·have e:=(hex _ [110] (by decide +kernel) hk).1 (by decide)
     subst e
     obtain⟨a,rfl,ha⟩:=allFine_one hf
     obtain⟨n,hn⟩:=fine_num ha
     exact .inr (.inr (.inr (.inr (.inr ⟨.inl rfl,a,n,rfl,hn⟩))))
    ·have e:=(hex _ [110] (by decide +kernel) hk).1 (by decide)
     subst e
     obtain⟨a,rfl,ha⟩:=allFine_one hf
     obtain⟨n,hn⟩:=fine_num ha
     exact .inr (.inr (.inr (.inr (.inr ⟨.inr (.inl rfl),a,n,rfl,hn⟩))))
    ·have e:=(hex _ [110] (by decide +kernel) hk).1 (by decide)
     subst e
     obtain⟨a,rfl,ha⟩:=allFine_one hf
     obtain⟨n,hn⟩:=fine_num ha
     exact .inr (.inr (.inr (.inr (.inr ⟨.inr (.inr rfl),a,n,rfl,hn⟩))))
   ·rw[shapes_jump.1 w h1]at hk
    simp at hk
    subst hk
    obtain⟨a,rfl,ha⟩:=allFine_one hf
    exact .inr (.inr (.inr (.inl ⟨.inl h1,a,rfl,fine_place ha⟩)))
   ·rw[shapes_jump.2 w h1]at hk
    simp at hk
    subst hk
    obtain⟨a,rfl,ha⟩:=allFine_one hf
    exact .inr (.inr (.inr (.inl ⟨.inr h1,a,rfl,fine_place ha⟩)))
  ·cases h
theorem find_swl_le (x:UInt8):find [115,119,108] x≤2:=by
 rcases find_spec [115,119,108] x with ⟨h1,_⟩|⟨a,b,h0,_,h3⟩
 ·omega
 ·have:=congrArg List.length h0
  simp at this
  omega
theorem isJump_mem (w:Bs):QN w=true↔w∈jumpWords∨w∈farWords.map (·.1):=by
 unfold QN
 rw[Bool.or_eq_true,decide_eq_true_eq,condition_mem,far_mem]
theorem cutF_form (w:Bs):0≤(cutF w).2∧(cutF w).2≤3∧(QN (cutF w).1=false→(cutF w).2=0)∧(far (cutF w).1=true→(cutF w).2≠1)∧(cutF w).1.length≤w.length:=by
 unfold cutF
 split
 ·split
  ·rename_i h
   have h2:=find_swl_le (w.getD (w.length-1) 0)
   refine⟨by simp only;omega,by simp only;omega,fun hj=>?_,fun hf=>?_,by simp only[List.length_take];omega⟩
   ·exfalso
    simp only at hj
    unfold QN at hj
    rw[Bool.or_eq_false_iff,decide_eq_false_iff_not]at hj
    rcases h.2 with h|h
    ·exact hj.1 h
    ·rw[h.1]at hj;cases hj.2
   ·simp only at hf ⊢
    rcases h.2 with h'|h'
    ·exfalso
     have e1:=(condition_mem _).1 h'
     have e2:=(far_mem _).1 hf
     have:∀w∈jumpWords,w∉farWords.map (·.1):=by decide +kernel
     exact this _ e1 e2
    ·omega
  ·exact⟨by simp,by simp,fun _=>rfl,fun _=>by simp,Nat.le_refl _⟩
 ·exact⟨by simp,by simp,fun _=>rfl,fun _=>by simp,Nat.le_refl _⟩
theorem trim_lenR (l:Bs):(trim l).length≤l.length:=by
 obtain⟨a,b,_,_,e,_⟩:=trim_spec l
 have:=congrArg List.length e
 simp at this
 omega
theorem split_lens (m:UInt8):∀(s:Bs),∀p∈split m s,p.length≤s.length
 |[],p,h=>by simp[split]at h;simp[h]
 |c::t,p,h=>by
  unfold split at h
  split at h
  ·rcases List.mem_cons.1 h with rfl|h
   ·simp
   ·have:=split_lens m t p h;simp;omega
  ·split at h
   ·simp at h;simp[h]
   ·rename_i a r e
    rcases List.mem_cons.1 h with rfl|h
    ·have:=split_lens m t a (by rw[e];simp);simp;omega
    ·have:=split_lens m t p (by rw[e];simp[h]);simp;omega
theorem body_wf (no:Int) (label s:Bs) (l:Line) (h:body no label s=some l) (hl:label.length≤2^20) (hs:s.length≤2^20) (hn:label≠[]→ZT label=true):WfL l∧l.no=no∧l.label=label:=by
 unfold body at h
 split at h
 ·cases h
  exact⟨⟨.inl ⟨rfl,rfl⟩,⟨by simp,by simp⟩,fun _=>rfl,fun h=>by simp,⟨hl,by simp,fun t ht=>by cases ht⟩,hn⟩,rfl,rfl⟩
 ·obtain⟨e,hsh,hso⟩:=shaped_of _ _ _ _ _ _ h
  have hf:=cutF_form (s.take (wordLen s))
  have e1:l.form=(cutF (s.take (wordLen s))).2:=by rw[e]
  have e2:l.word=(cutF (s.take (wordLen s))).1:=by rw[e]
  have e3:l.texts=textsOf (trim (s.drop (wordLen s))):=by rw[e]
  have e4:l.label=label:=by rw[e]
  refine⟨⟨.inr hsh,?_,?_,?_,⟨by rw[e4];exact hl,?_,?_⟩,by rw[e4];exact hn⟩,by rw[e],e4⟩
  ·rw[e1];exact⟨hf.1,hf.2.1⟩
  ·rw[e1,e2];exact hf.2.2.1
  ·rw[e1,e2];exact hf.2.2.2.1
  ·rw[e2]
   have:=hf.2.2.2.2
   rw[List.length_take]at this
   omega
  ·rw[e3]
   intro t ht
   unfold textsOf at ht
   split at ht
   ·cases ht
   ·obtain⟨p,hp,rfl⟩:=List.mem_map.1 ht
    have h1:=trim_lenR p
    have h2:=split_lens 44 _ p hp
    have h3:=trim_lenR (s.drop (wordLen s))
    rw[List.length_drop]at h3
    omega
theorem read_wf (s:Bs) (no:Int) (l:Line) (h:read s no=some l) (hs:s.length≤2^20):WfL l∧l.no=no:=by
 unfold read at h
 have hu:(upTo 59 s).length≤s.length:=by
  unfold upTo
  split
  ·rw[List.length_take];omega
  ·exact Nat.le_refl _
 have ht:=trim_lenR (upTo 59 s)
 generalize trim (upTo 59 s)=u at h ht
 unfold readT at h
 split at h
 ·split at h
  ·rename_i hn
   have h1:=trim_lenR (u.drop ((find u 58).toNat+1))
   rw[List.length_drop]at h1
   obtain⟨a,b,_⟩:=body_wf _ _ _ _ h (by rw[List.length_take];omega) (by omega) (fun _=>hn)
   exact⟨a,b⟩
  ·cases h
 ·obtain⟨a,b,_⟩:=body_wf _ _ _ _ h (by simp) (by omega) (fun h=>(h rfl).elim)
  exact⟨a,b⟩
def numbersT (w t:Bs):Bool:=
 !(regsOp w&&(register t).isSome&&decide (7<(register t).getD 0))&&!(dcOp w&&(number t).isSome&&!holds w ((number t).getD 0))
def lastNum (w t:Bs):Bool:=
 if w=[109,111,118,101,113] then within ((value t).getD 0) (-0x80) 0x7f
 else if w=[97,100,100,105] then within ((value t).getD 0) (-0x8000) 0xffff
 else if w=[100,115] then within ((number t).getD 0) 0 0x400
 else if w=[97,108,105,103,110] then isPow ((number t).getD 0)
 else if w=[111,114,103] then within ((number t).getD 0) 0 16777214&&((number t).getD 0) % 2==0
 else true
def numbers (l:Line):Bool:=l.texts.all (numbersT l.word)&&(match l.texts with|[]=>true|t::_=>lastNum l.word t)
def look (labs:List (Bs×Int)) (s:Bs):Option Int:=(labs.find? fun p=>p.1==s).map (·.2)
def place (labs:List (Bs×Int)) (s:Bs):Option Int:=match number s with
 |some n=>some n
 |none=>look labs s
def toN (labs:List (Bs×Int)) (s:Bs):Int:=(place labs s).getD 0
def jumpB (w:Bs) (form a t:Int):Bs:=
 if form=1 then [byteB (0x60+condition w),byteB (t-a-2)]
 else if form=2 then (if 0≤condition w then [byteB (0x60+condition w),0]++QI (t-a-2) else QI ((if w=[106,115,114]∨w=[98,115,114] then 0x4eb9 else 0x4ef9)-1)++QI t)
 else if 2≤condition w then [byteB (0x60+(if condition w % 2=1 then condition w-1 else condition w+1)),6]++QI (if w=[106,115,114]∨w=[98,115,114] then 0x4eb9 else 0x4ef9)++(QI (t / 65536)++QI t)
 else QI (if w=[106,115,114]∨w=[98,115,114] then 0x4eb9 else 0x4ef9)++(QI (t / 65536)++QI t)
def dcB (w:Bs) (v:Int):Bs:=if w=[100,99,46,119] then QI v else [byteB v]
def addiB (n k:Int):Bs:=if 1≤n∧n≤8 then QI (0x5040+512*(n % 8)+k) else QI (0x640+k)++QI n
def ZI (l:Line) (k:Nat):Bs:=l.texts.getD k []
def bytes (labs:List (Bs×Int)) (l:Line) (F a:Int):Bs:=
 if l.word=[110,111,112] then QI 0x4e71
 else if l.word=[114,116,115] then QI 0x4e75
 else if 0<two l.word then QI (two l.word+512*(register (ZI l 1)).getD 0+(register (ZI l 0)).getD 0)
 else if l.word=[109,111,118,101,113] then [byteB (0x70+2*(register (ZI l 1)).getD 0),byteB ((value (ZI l 0)).getD 0)]
 else if l.word=[97,100,100,105] then addiB ((value (ZI l 0)).getD 0) ((register (ZI l 1)).getD 0)
 else if QN l.word=true then jumpB l.word F a (toN labs (ZI l 0))
 else if dcOp l.word=true then (l.texts.map fun t=>dcB l.word (toN labs t)).flatten
 else if l.word=[100,115] then List.replicate ((number (ZI l 0)).getD 0).toNat 0
 else if l.word=[97,108,105,103,110] then List.replicate ((-a) % ((number (ZI l 0)).getD 0)).toNat 0
 else []
def numIn (labs:List (Bs×Int)) (o:Opr):Int:=if o.name=[] then o.num else (look labs o.name).getD 0
def plc (labs:List (Bs×Int)) (i:Ins):Ins:=⟨i.op,i.oprs.map fun o=>⟨[],numIn labs o⟩⟩
theorem opr_reg {t:Bs} {n:Int} (h:register t=some n):opr 0 t=⟨[],n⟩:=by unfold opr;rw[rO_reg,h];rfl
theorem opr_val {t:Bs} {n:Int} (h:value t=some n):opr 1 t=⟨[],n⟩:=by unfold opr;rw[rO_val,h];rfl
theorem opr_num {t:Bs} {n:Int} (h:number t=some n):opr 2 t=⟨[],n⟩:=by unfold opr;rw[rO_num,h];rfl
theorem opr_place {t:Bs} (h:placeT t=true):(ZT t=true∧number t=none∧opr 3 t=⟨t,0⟩)∨(∃n,number t=some n∧ZT t=false∧opr 3 t=⟨[],n⟩):=by
 unfold placeT at h
 unfold opr
 rw[rO_place]
 by_cases hn:ZT t=true
 ·left
  rw[if_pos hn]
  refine⟨hn,?_,rfl⟩
  cases e:number t with
  |none=>rfl
  |some v=>rw[number_noName t v e]at hn;cases hn
 ·right
  have hf:ZT t=false:=by simpa using hn
  rw[hf,Bool.or_false]at h
  obtain⟨n,e⟩:=Option.isSome_iff_exists.1 h
  rw[if_neg hn,e]
  exact⟨n,rfl,hf,rfl⟩
theorem reg_rng {t:Bs} {n:Int} (h:register t=some n):0≤n∧n≤9:=by
 unfold register at h
 split at h
 ·rename_i d k
  split at h
  ·rename_i hh
   have h1:=UInt8.le_iff_toNat_le.1 hh.2.1
   have h2:=UInt8.le_iff_toNat_le.1 hh.2.2
   simp at h1 h2
   cases h
   omega
  ·cases h
 ·cases h
theorem Z1 (l:Line) (kd base:Int) (a b:Bs) (r0 r1:Int) (hw:l.word≠[]) (ho:ZX l.word l.form=⟨kd,base,0,0,0⟩) (ht:l.texts=[a,b]) (hr:roles kd 2=[r0,r1]):ins l=⟨⟨kd,base,0,0,0⟩,[opr r0 a,opr r1 b]⟩:=by
 unfold ins
 rw[if_neg hw,ho,ht]
 show Ins.mk _ (List.zipWith opr (roles kd 2) [a,b])=_
 rw[hr];rfl
theorem ins_one (l:Line) (o:Op) (a:Bs) (r0:Int) (hw:l.word≠[]) (ho:ZX l.word l.form=o) (ht:l.texts=[a]) (hr:roles o.kind 1=[r0]):ins l=⟨o,[opr r0 a]⟩:=by
 unfold ins
 rw[if_neg hw,ho,ht]
 show Ins.mk _ (List.zipWith opr (roles o.kind 1) [a])=_
 rw[hr];rfl
theorem zip_rep (r:Int):∀(ts:List Bs),List.zipWith opr (List.replicate ts.length r) ts=ts.map (opr r)
 |[]=>rfl
 |t::ts=>by rw[List.length_cons,List.replicate_succ,List.zipWith_cons_cons,zip_rep r ts];rfl
theorem dc_cases {w:Bs} (h:dcOp w=true):(w=[100,99,46,119]∨w=[100,99,46,98]):=by simpa [dcOp] using h
theorem ins_dc (l:Line) (hd:dcOp l.word=true) (h1:1≤l.texts.length) (h8:l.texts.length≤8):ins l=⟨⟨if l.word=[100,99,46,119] then 7 else 8,0,0,0,0⟩,l.texts.map (opr 3)⟩:=by
 have hw:l.word≠[]:=by intro e;rw[e]at hd;exact absurd hd (by decide)
 unfold ins
 rw[if_neg hw]
 have ho:ZX l.word l.form=⟨if l.word=[100,99,46,119] then 7 else 8,0,0,0,0⟩:=by
  rcases dc_cases hd with e|e
  ·rw[e];rw[QL _ (by decide +kernel)];decide +kernel
  ·rw[e];rw[QL _ (by decide +kernel)];decide +kernel
 rw[ho]
 have hr:roles (if l.word=[100,99,46,119] then (7:Int) else 8) l.texts.length=List.replicate l.texts.length 3:=by
  unfold roles
  rw[if_neg (by split <;> omega),if_neg (by split <;> omega),if_neg (by split <;> omega),if_pos (by split <;> omega)]
  congr 1
  omega
 simp only[hr]
 rw[zip_rep]
theorem fixed_ops:ZX [110,111,112] 0=⟨1,0x4e71,0,0,0⟩∧ZX [114,116,115] 0=⟨1,0x4e75,0,0,0⟩∧ZX [109,111,118,101] 0=⟨2,0x3000,0,0,0⟩∧ZX [97,100,100] 0=⟨2,0xd040,0,0,0⟩∧ZX [115,117,98] 0=⟨2,0x9040,0,0,0⟩∧ZX [99,109,112] 0=⟨2,0xb040,0,0,0⟩∧ZX [109,111,118,101,113] 0=⟨3,0x7000,0,0,0⟩∧ZX [97,100,100,105] 0=⟨4,0x640,0,0,0⟩∧ZX [100,115] 0=⟨9,0,0,0,0⟩∧ZX [97,108,105,103,110] 0=⟨10,0,0,0,0⟩∧ZX [111,114,103] 0=⟨11,0,0,0,0⟩:=by decide +kernel
theorem numbersOk_dc (k:Int) (hk:k=7∨k=8):∀(ts:List Bs),(∀t∈ts,placeT t=true)→numbersOk k (List.replicate ts.length 3) (ts.map (opr 3))=ts.all fun t=>!((number t).isSome&&!allows k ((number t).getD 0))
 |[],_=>rfl
 |t::ts,h=>by
  rw[List.length_cons,List.replicate_succ,List.map_cons,numbersOk,numbersOk_dc k hk ts (fun t ht=>h t (by simp[ht])),List.all_cons]
  congr 1
  rcases opr_place (h t (by simp)) with ⟨h1,h2,h3⟩|⟨n,h1,h2,h3⟩
  ·rw[h3,h2]
   have:t≠[]:=by rintro rfl;rw[isName_nil]at h1;cases h1
   simp[this]
  ·rw[h3,h1];simp
theorem numbers_jump (w:Bs) (h:w∈jumpWords∨w∈farWords.map (·.1)):regsOp w=false∧dcOp w=false∧∀t,lastNum w t=true:=by
 have hh:∀w∈jumpWords++farWords.map (·.1),regsOp w=false∧dcOp w=false∧w≠[109,111,118,101,113]∧w≠[97,100,100,105]∧w≠[100,115]∧w≠[97,108,105,103,110]∧w≠[111,114,103]:=by decide +kernel
 obtain⟨h1,h2,h3,h4,h5,h6,h7⟩:=hh w (List.mem_append.2 h)
 refine⟨h1,h2,fun t=>?_⟩
 unfold lastNum
 rw[if_neg h3,if_neg h4,if_neg h5,if_neg h6,if_neg h7]
theorem jump_kind (w:Bs) (h:w∈jumpWords∨w∈farWords.map (·.1)) (f:Int):(ZX w f).kind=5∨(ZX w f).kind=6:=by
 rcases h with h|h
 ·rw[kind_jump w h];split <;> exact .inl rfl
 ·rw[kind_far w h];split <;> exact .inr rfl
theorem jump_ne (w:Bs) (h:w∈jumpWords∨w∈farWords.map (·.1)):w≠[]:=by
 have hh:∀w∈jumpWords++farWords.map (·.1),w≠[]:=by decide +kernel
 exact hh w (List.mem_append.2 h)
theorem ins_jump (l:Line) (h:l.word∈jumpWords∨l.word∈farWords.map (·.1)) (a:Bs) (ht:l.texts=[a]):ins l=⟨ZX l.word l.form,[opr 3 a]⟩:=by
 refine ins_one l _ a 3 (jump_ne _ h) rfl ht ?_
 rcases jump_kind l.word h l.form with e|e <;> rw[e] <;> rfl
theorem numbers_tie (l:Line) (hl:WfL l):numbers l=Q9 (ins l):=by
 obtain⟨f1,f2,f3,f4,f5,f6,f7,f8,f9,f10,f11⟩:=fixed_ops
 rcases hl.shaped with ⟨h1,h2⟩|⟨h1,h2⟩|⟨h1,a,b,m,n,ht,ha,hb⟩|⟨h1,a,b,m,n,ht,ha,hb⟩|⟨h1,a,ht,ha⟩|⟨h1,h2,h3,h4⟩|⟨h1,a,n,ht,ha⟩
 ·unfold numbers ins
  rw[h1,h2];rfl
 ·unfold numbers
  rw[h2]
  have:(ins l).oprs=[]:=by
   unfold ins
   split
   ·rfl
   ·rw[h2];simp
  unfold Q9
  rw[this]
  cases roles (ins l).op.kind ([]:List Opr).length <;> rfl
 ·have key:∀base,regsOp l.word=true→dcOp l.word=false→(∀t,lastNum l.word t=true)→ins l=⟨⟨2,base,0,0,0⟩,[opr 0 a,opr 0 b]⟩→numbers l=Q9 (ins l):=by
   intro base e1 e2 e3 e4
   unfold numbers
   rw[ht,e4,opr_reg ha,opr_reg hb]
   simp only[List.all_cons,List.all_nil,e3,numbersT,e1,e2,ha,hb,Option.isSome_some,Option.getD_some,Bool.true_and,Bool.false_and,Bool.not_false,Bool.and_true]
   unfold Q9
   show _=numbersOk 2 [0,0] [⟨[],m⟩,⟨[],n⟩]
   simp only[numbersOk]
   simp
   rw[Bool.eq_iff_iff];simp
  have hl0:∀w:Bs,w∈[[109,111,118,101],[97,100,100],[115,117,98],[99,109,112]]→∀t,lastNum w t=true:=by
   intro w hw t
   simp only[List.mem_cons,List.not_mem_nil,or_false]at hw
   rcases hw with rfl|rfl|rfl|rfl <;> rfl
  rcases h1 with e|e|e|e
  ·exact key _ (by rw[e];decide +kernel) (by rw[e];decide +kernel) (by rw[e];exact hl0 _ (by simp)) (Z1 l 2 0x3000 a b 0 0 (by rw[e];decide) (by rw[e,QL _ (by decide +kernel),f3]) ht rfl)
  ·exact key _ (by rw[e];decide +kernel) (by rw[e];decide +kernel) (by rw[e];exact hl0 _ (by simp)) (Z1 l 2 0xd040 a b 0 0 (by rw[e];decide) (by rw[e,QL _ (by decide +kernel),f4]) ht rfl)
  ·exact key _ (by rw[e];decide +kernel) (by rw[e];decide +kernel) (by rw[e];exact hl0 _ (by simp)) (Z1 l 2 0x9040 a b 0 0 (by rw[e];decide) (by rw[e,QL _ (by decide +kernel),f5]) ht rfl)
  ·exact key _ (by rw[e];decide +kernel) (by rw[e];decide +kernel) (by rw[e];exact hl0 _ (by simp)) (Z1 l 2 0xb040 a b 0 0 (by rw[e];decide) (by rw[e,QL _ (by decide +kernel),f6]) ht rfl)
 ·have hra:register a=none:=by
   cases e:register a with
   |none=>rfl
   |some q=>
    exfalso
    unfold register at e
    split at e
    ·split at e
     ·rename_i d k hh
      unfold value at ha
      rw[hh.1]at ha
      simp at ha
     ·cases e
    ·cases e
  have key:∀kd base,(kd=3∨kd=4)→regsOp l.word=true→dcOp l.word=false→lastNum l.word a=allows kd m→ins l=⟨⟨kd,base,0,0,0⟩,[opr 1 a,opr 0 b]⟩→numbers l=Q9 (ins l):=by
   intro kd base hkd e1 e2 e3 e4
   unfold numbers
   rw[ht,e4,opr_val ha,opr_reg hb]
   simp only[List.all_cons,List.all_nil,e3,numbersT,e1,e2,hra,hb,Option.isSome_some,Option.isSome_none,Option.getD_some,Bool.true_and,Bool.false_and,Bool.not_false,Bool.and_true,Bool.and_false]
   unfold Q9
   have:roles kd 2=[1,0]:=by rcases hkd with rfl|rfl <;> rfl
   show _=numbersOk kd (roles kd 2) [⟨[],m⟩,⟨[],n⟩]
   rw[this]
   simp only[numbersOk]
   simp
   rw[Bool.eq_iff_iff];simp[and_comm]
  rcases h1 with e|e
  ·exact key 3 _ (.inl rfl) (by rw[e];decide +kernel) (by rw[e];decide +kernel) (by rw[e];unfold lastNum;rw[if_pos rfl,ha];rfl) (Z1 l 3 0x7000 a b 1 0 (by rw[e];decide) (by rw[e,QL _ (by decide +kernel),f7]) ht rfl)
  ·exact key 4 _ (.inr rfl) (by rw[e];decide +kernel) (by rw[e];decide +kernel) (by rw[e];unfold lastNum;rw[if_neg (by decide),if_pos rfl,ha];rfl) (Z1 l 4 0x640 a b 1 0 (by rw[e];decide) (by rw[e,QL _ (by decide +kernel),f8]) ht rfl)
 ·obtain⟨e1,e2,e3⟩:=numbers_jump l.word h1
  unfold numbers
  rw[ht,ins_jump l h1 a ht]
  simp only[List.all_cons,List.all_nil,e3,numbersT,e1,e2,Bool.false_and,Bool.not_false,Bool.and_true]
  unfold Q9
  have hkd:=jump_kind l.word h1 l.form
  have hr:roles (ZX l.word l.form).kind 1=[3]:=by rcases hkd with e|e <;> rw[e] <;> rfl
  show _=numbersOk (ZX l.word l.form).kind (roles (ZX l.word l.form).kind 1) [opr 3 a]
  rw[hr]
  simp only[numbersOk]
  have hal:∀n,allows (ZX l.word l.form).kind n=true:=fun n=>by rcases hkd with e|e <;> rw[e] <;> rfl
  simp[hal]
 ·have hl0:∀w,dcOp w=true→regsOp w=false∧∀t,lastNum w t=true:=by
   intro w hw
   rcases dc_cases hw with rfl|rfl
   ·exact⟨by decide +kernel,fun t=>rfl⟩
   ·exact⟨by decide +kernel,fun t=>rfl⟩
  obtain⟨e1,e2⟩:=hl0 _ h1
  unfold numbers
  rw[ins_dc l h1 h2 h3]
  unfold Q9
  have hkd:(if l.word=[100,99,46,119] then (7:Int) else 8)=7∨(if l.word=[100,99,46,119] then (7:Int) else 8)=8:=by split <;> simp
  have hr:roles (if l.word=[100,99,46,119] then (7:Int) else 8) (l.texts.map (opr 3)).length=List.replicate l.texts.length 3:=by
   rw[List.length_map]
   unfold roles
   rw[if_neg (by omega),if_neg (by omega),if_neg (by omega),if_pos hkd]
   congr 1
   omega
  simp only[hr]
  rw[numbersOk_dc _ hkd l.texts h4]
  have hlast:(match l.texts with|[]=>true|t::_=>lastNum l.word t)=true:=by
   split
   ·rfl
   ·exact e2 _
  rw[hlast,Bool.and_true]
  congr 1
  funext t
  unfold numbersT
  rw[e1,h1]
  simp only[Bool.false_and,Bool.not_false,Bool.true_and]
  have:holds l.word ((number t).getD 0)=allows (if l.word=[100,99,46,119] then (7:Int) else 8) ((number t).getD 0):=by
   unfold holds
   split <;> rfl
  rw[this]
 ·have key:∀kd,(kd=9∨kd=10∨kd=11)→regsOp l.word=false→dcOp l.word=false→lastNum l.word a=allows kd n→ins l=⟨⟨kd,0,0,0,0⟩,[opr 2 a]⟩→numbers l=Q9 (ins l):=by
   intro kd hkd e1 e2 e3 e4
   unfold numbers
   rw[ht,e4,opr_num ha]
   simp only[List.all_cons,List.all_nil,e3,numbersT,e1,e2,Bool.false_and,Bool.not_false,Bool.and_true,Bool.true_and]
   unfold Q9
   have:roles kd 1=[2]:=by rcases hkd with rfl|rfl|rfl <;> rfl
   show _=numbersOk kd (roles kd 1) [⟨[],n⟩]
   rw[this]
   simp[numbersOk]
  rcases h1 with e|e|e
  ·exact key 9 (.inl rfl) (by rw[e];decide +kernel) (by rw[e];decide +kernel) (by rw[e];unfold lastNum;rw[if_neg (by decide),if_neg (by decide),if_pos rfl,ha];rfl) (ins_one l _ a 2 (by rw[e];decide) (by rw[e,QL _ (by decide +kernel),f9]) ht rfl)
  ·exact key 10 (.inr (.inl rfl)) (by rw[e];decide +kernel) (by rw[e];decide +kernel) (by rw[e];unfold lastNum;rw[if_neg (by decide),if_neg (by decide),if_neg (by decide),if_pos rfl,ha];rfl) (ins_one l _ a 2 (by rw[e];decide) (by rw[e,QL _ (by decide +kernel),f10]) ht rfl)
  ·refine key 11 (.inr (.inr rfl)) (by rw[e];decide +kernel) (by rw[e];decide +kernel) (by
    rw[e];unfold lastNum;rw[if_neg (by decide),if_neg (by decide),if_neg (by decide),if_neg (by decide),if_pos rfl,ha]
    show (within n 0 16777214&&n % 2==0)=isPlace n
    unfold isPlace isOdd
    congr 1
    rw[bne,Bool.not_not]) (ins_one l _ a 2 (by rw[e];decide) (by rw[e,QL _ (by decide +kernel),f11]) ht rfl)
theorem toN_tie (labs:List (Bs×Int)) (t:Bs) (h:placeT t=true):toN labs t=numIn labs (opr 3 t):=by
 unfold toN place numIn
 rcases opr_place h with ⟨h1,h2,h3⟩|⟨n,h1,h2,h3⟩
 ·have:t≠[]:=by rintro rfl;rw[isName_nil]at h1;cases h1
  rw[h2,h3]
  simp[this]
 ·rw[h1,h3];simp
theorem word_split (x y:Int):QI (256*x+y % 256)=[byteB x,byteB y]:=by
 unfold QI byteB
 have h1:(256*x+y % 256) / 256 % 256=x % 256:=by omega
 have h2:(256*x+y % 256) % 256=y % 256:=by omega
 rw[h1,h2]
theorem cond_rng (w:Bs):-1≤condition w∧condition w≤15:=by
 unfold condition
 cases h:findIdx jumpWords w with
 |none=>simp
 |some k=>
  unfold findIdx at h
  rw[List.findIdx?_eq_some_iff_getElem]at h
  obtain⟨hk,_⟩:=h
  have:jumpWords.length=16:=rfl
  simp only
  omega
theorem cond_bsr (w:Bs) (h:w∈jumpWords):((w=[106,115,114]∨w=[98,115,114])↔condition w=1):=by
 have hh:∀w∈jumpWords,((w=[106,115,114]∨w=[98,115,114])↔condition w=1):=by decide +kernel
 exact hh w h
theorem jump_tie (w:Bs) (h:w∈jumpWords) (o:Op) (t F a:Int) (hn:o.number=condition w) (hk:o.kind=5) (hb:o.base=0x6000+0x100*condition w) (hF:1≤F∧F≤3):jumpB w F a t=jumpBytes ⟨o,[⟨[],t⟩]⟩ (F-1) a:=by
 have hc:=(condition_mem w).2 h
 have hc2:=cond_rng w
 have hbsr:=cond_bsr w h
 unfold jumpB jumpBytes
 have hnum:num ⟨o,[⟨[],t⟩]⟩ 0=t:=rfl
 rw[hnum]
 simp only
 by_cases h1:F=1
 ·subst h1
  rw[if_pos rfl,if_pos (by decide),hb]
  have e:0x6000+0x100*condition w+(t-a-2) % 256=256*(0x60+condition w)+(t-a-2) % 256:=by omega
  rw[e,word_split]
 ·rw[if_neg h1,if_neg (show ¬F-1=0 by omega)]
  by_cases h2:F=2
  ·subst h2
   rw[if_pos rfl,if_pos hc,if_pos (by decide),hb]
   have e:0x6000+0x100*condition w=256*(0x60+condition w)+0 % 256:=by omega
   rw[e,word_split];rfl
  ·rw[if_neg h2,if_neg (show ¬F-1=1 by omega),hn]
   by_cases h3:condition w=1
   ·rw[if_pos h3,h3]
    rw[if_neg (by decide),if_pos (hbsr.2 h3)]
    unfold longJump
    rw[List.append_assoc];rfl
   ·rw[if_neg h3]
    have hj:¬(w=[106,115,114]∨w=[98,115,114]):=fun h=>h3 (hbsr.1 h)
    rw[if_neg hj]
    unfold longJump isCond
    rw[hk,hn]
    by_cases h4:2≤condition w
    ·rw[if_pos h4,if_pos (show ((5:Int)==5&&decide (condition w > 1))=true by simp;omega)]
     unfold opp
     by_cases h5:condition w % 2=1
     ·rw[if_pos h5,if_neg (show ¬condition w % 2=0 by omega)]
      have e:0x6000+0x100*(condition w-1)+6=256*(0x60+(condition w-1))+6 % 256:=by omega
      rw[e,word_split]
      simp only[List.append_assoc]
      rfl
     ·rw[if_neg h5,if_pos (show condition w % 2=0 by omega)]
      have e:0x6000+0x100*(condition w+1)+6=256*(0x60+(condition w+1))+6 % 256:=by omega
      rw[e,word_split]
      simp only[List.append_assoc]
      rfl
    ·rw[if_neg h4,if_neg (show ¬((5:Int)==5&&decide (condition w > 1))=true by simp;omega)]
     simp only[List.append_assoc,List.nil_append]
     rfl
theorem far_tie (w:Bs) (h:w∈farWords.map (·.1)) (o:Op) (t F a:Int) (hb:o.base=if w=[106,109,112] then 0x4ef8 else 0x4eb8) (hF:2≤F∧F≤3):jumpB w F a t=farBytes ⟨o,[⟨[],t⟩]⟩ (F-1):=by
 have hc:condition w=-1:=by
  have hh:∀w∈farWords.map (·.1),condition w=-1:=by decide +kernel
  exact hh w h
 have hj:(if w=[106,115,114]∨w=[98,115,114] then (0x4eb9:Int) else 0x4ef9)=o.base+1:=by
  rw[hb]
  have hh:∀w∈farWords.map (·.1),(if w=[106,115,114]∨w=[98,115,114] then (0x4eb9:Int) else 0x4ef9)=(if w=[106,109,112] then 0x4ef8 else 0x4eb8)+1:=by decide +kernel
  exact hh w h
 unfold jumpB farBytes
 have hnum:num ⟨o,[⟨[],t⟩]⟩ 0=t:=rfl
 rw[hnum,hj,hc]
 by_cases h2:F=2
 ·subst h2
  rw[if_neg (by decide),if_pos rfl,if_neg (by decide),if_pos (by decide)]
  simp only[Int.add_sub_cancel]
 ·rw[if_neg (show ¬F=1 by omega),if_neg h2,if_neg (by decide),if_neg (show ¬F-1=1 by omega)]
  unfold longJump
  rw[List.append_assoc]
theorem two_of (w:Bs):(w=[109,111,118,101]∨w=[97,100,100]∨w=[115,117,98]∨w=[99,109,112])↔0<two w:=by
 unfold two
 constructor
 ·rintro (rfl|rfl|rfl|rfl) <;> decide
 ·intro h
  split at h
  ·exact .inl ‹_›
  ·split at h
   ·exact .inr (.inl ‹_›)
   ·split at h
    ·exact .inr (.inr (.inl ‹_›))
    ·split at h
     ·exact .inr (.inr (.inr ‹_›))
     ·omega
theorem numIn_bare (labs:List (Bs×Int)) (n:Int):numIn labs ⟨[],n⟩=n:=by simp[numIn]
theorem bytes_tie (labs:List (Bs×Int)) (l:Line) (hl:WfL l) (hn:numbers l=true) (F a:Int) (hF:QN l.word=true→1≤F∧F≤3∧(far l.word=true→F≠1)):bytes labs l F a=Strd.bytes (plc labs (ins l)) (F-1) a:=by
 obtain⟨f1,f2,f3,f4,f5,f6,f7,f8,f9,f10,f11⟩:=fixed_ops
 rcases hl.shaped with ⟨h1,h2⟩|⟨h1,h2⟩|⟨h1,p,q,m,n,ht,ha,hb⟩|⟨h1,p,q,m,n,ht,ha,hb⟩|⟨h1,p,ht,ha⟩|⟨h1,h2,h3,h4⟩|⟨h1,p,n,ht,ha⟩
 ·unfold bytes ins
  rw[h1];rfl
 ·rcases h1 with e|e
  ·have ei:ins l=⟨⟨1,0x4e71,0,0,0⟩,[]⟩:=by
    unfold ins
    rw[e,if_neg (by decide),QL _ (by decide +kernel),f1,h2];simp
   unfold bytes
   rw[e,ei];rfl
  ·have ei:ins l=⟨⟨1,0x4e75,0,0,0⟩,[]⟩:=by
    unfold ins
    rw[e,if_neg (by decide),QL _ (by decide +kernel),f2,h2];simp
   unfold bytes
   rw[e,ei];rfl
 ·have key:∀base,two l.word=base→0<base→l.word≠[110,111,112]→l.word≠[114,116,115]→ins l=⟨⟨2,base,0,0,0⟩,[opr 0 p,opr 0 q]⟩→bytes labs l F a=Strd.bytes (plc labs (ins l)) (F-1) a:=by
   intro base e1 e0 e2 e3 e4
   unfold bytes
   rw[if_neg e2,if_neg e3,e1,if_pos e0,e4,opr_reg ha,opr_reg hb]
   unfold ZI plc
   rw[ht]
   simp only[List.getD_cons_zero,List.getD_cons_succ,ha,hb,Option.getD_some,List.map_cons,List.map_nil,numIn_bare]
   show QI (base+512*n+m)=QI (base+0x200*n+m)
   rfl
  rcases h1 with e|e|e|e
  ·exact key _ (by rw[e];rfl) (by decide) (by rw[e];decide) (by rw[e];decide) (Z1 l 2 0x3000 p q 0 0 (by rw[e];decide) (by rw[e,QL _ (by decide +kernel),f3]) ht rfl)
  ·exact key _ (by rw[e];rfl) (by decide) (by rw[e];decide) (by rw[e];decide) (Z1 l 2 0xd040 p q 0 0 (by rw[e];decide) (by rw[e,QL _ (by decide +kernel),f4]) ht rfl)
  ·exact key _ (by rw[e];rfl) (by decide) (by rw[e];decide) (by rw[e];decide) (Z1 l 2 0x9040 p q 0 0 (by rw[e];decide) (by rw[e,QL _ (by decide +kernel),f5]) ht rfl)
  ·exact key _ (by rw[e];rfl) (by decide) (by rw[e];decide) (by rw[e];decide) (Z1 l 2 0xb040 p q 0 0 (by rw[e];decide) (by rw[e,QL _ (by decide +kernel),f6]) ht rfl)
 ·have hr:=reg_rng hb
  rcases h1 with e|e
  ·have ei:=Z1 l 3 0x7000 p q 1 0 (by rw[e];decide) (by rw[e,QL _ (by decide +kernel),f7]) ht rfl
   unfold bytes
   rw[e,if_neg (by decide),if_neg (by decide),if_neg (by decide),if_pos rfl,ei,opr_val ha,opr_reg hb]
   unfold ZI plc
   rw[ht]
   simp only[List.getD_cons_zero,List.getD_cons_succ,ha,hb,Option.getD_some,List.map_cons,List.map_nil,numIn_bare]
   show _=QI (0x7000+0x200*n+m % 256)
   have e2:0x7000+0x200*n+m % 256=256*(0x70+2*n)+m % 256:=by omega
   rw[e2,word_split]
  ·have ei:=Z1 l 4 0x640 p q 1 0 (by rw[e];decide) (by rw[e,QL _ (by decide +kernel),f8]) ht rfl
   unfold bytes
   rw[e,if_neg (by decide),if_neg (by decide),if_neg (by decide),if_neg (by decide),if_pos rfl,ei,opr_val ha,opr_reg hb]
   unfold ZI plc
   rw[ht]
   simp only[List.getD_cons_zero,List.getD_cons_succ,ha,hb,Option.getD_some,List.map_cons,List.map_nil,numIn_bare]
   show _=addBytes ⟨⟨4,0x640,0,0,0⟩,[⟨[],m⟩,⟨[],n⟩]⟩
   unfold addiB addBytes
   have hs:addsShort (num ⟨⟨4,0x640,0,0,0⟩,[⟨[],m⟩,⟨[],n⟩]⟩ 0)=decide (1≤m∧m≤8):=by
    show within m 1 8=_
    unfold within
    rw[Bool.decide_and]
   rw[hs]
   by_cases hm:1≤m∧m≤8
   ·rw[if_pos hm,if_pos (by simpa using hm)];rfl
   ·rw[if_neg hm,if_neg (by simpa using hm)];rfl
 ·have hj:QN l.word=true:=(isJump_mem _).2 h1
  obtain⟨g1,g2,g3⟩:=hF hj
  have hne:∀w∈jumpWords++farWords.map (·.1),w≠[110,111,112]∧w≠[114,116,115]∧¬0<two w∧w≠[109,111,118,101,113]∧w≠[97,100,100,105]:=by decide +kernel
  obtain⟨n1,n2,n3,n4,n5⟩:=hne _ (List.mem_append.2 h1)
  unfold bytes
  rw[if_neg n1,if_neg n2,if_neg n3,if_neg n4,if_neg n5,if_pos hj,ins_jump l h1 p ht]
  unfold ZI plc
  rw[ht]
  simp only[List.getD_cons_zero,List.map_cons,List.map_nil]
  rw[toN_tie labs p ha]
  generalize numIn labs (opr 3 p)=T
  rcases h1 with h1|h1
  ·have ho:=kind_jump l.word h1 l.form
   have k5:(ZX l.word l.form).kind=5:=by rw[ho];split <;> rfl
   have kb:(ZX l.word l.form).base=0x6000+0x100*condition l.word:=by rw[ho];split <;> rfl
   have kn:(ZX l.word l.form).number=condition l.word:=by rw[ho];split <;> rfl
   rw[jump_tie l.word h1 (ZX l.word l.form) T F a kn k5 kb ⟨g1,g2⟩]
   unfold Strd.bytes
   simp only[k5]
   rfl
  ·have ho:=kind_far l.word h1 l.form
   have k6:(ZX l.word l.form).kind=6:=by rw[ho];split <;> rfl
   have kb:(ZX l.word l.form).base=if l.word=[106,109,112] then 0x4ef8 else 0x4eb8:=by rw[ho];split <;> rfl
   rw[far_tie l.word h1 (ZX l.word l.form) T F a kb ⟨by have:=g3 ((far_mem _).2 h1);omega,g2⟩]
   unfold Strd.bytes
   simp only[k6]
   rfl
 ·have hne:∀w,dcOp w=true→w≠[110,111,112]∧w≠[114,116,115]∧¬0<two w∧w≠[109,111,118,101,113]∧w≠[97,100,100,105]∧¬QN w=true:=by
   intro w hw
   rcases dc_cases hw with rfl|rfl <;> decide +kernel
  obtain⟨n1,n2,n3,n4,n5,n6⟩:=hne _ h1
  unfold bytes
  rw[if_neg n1,if_neg n2,if_neg n3,if_neg n4,if_neg n5,if_neg n6,if_pos h1,ins_dc l h1 h2 h3]
  unfold plc
  simp only[List.map_map]
  have hmap:(l.texts.map fun t=>dcB l.word (toN labs t))=l.texts.map fun t=>dcB l.word (numIn labs (opr 3 t)):=List.map_congr_left (fun t ht=>by rw[toN_tie labs t (h4 t ht)])
  rw[hmap]
  rcases dc_cases h1 with e|e
  ·rw[e]
   unfold Strd.bytes
   simp[dcB,Function.comp_def]
  ·rw[e]
   unfold Strd.bytes
   simp[dcB,Function.comp_def]
   induction l.texts with
   |nil=>rfl
   |cons t ts ih=>simp[ih]
 ·rcases h1 with e|e|e
  ·have ei:=ins_one l ⟨9,0,0,0,0⟩ p 2 (by rw[e];decide) (by rw[e,QL _ (by decide +kernel),f9]) ht rfl
   unfold bytes
   rw[e,ei,opr_num ha]
   unfold ZI plc
   rw[ht]
   simp only[List.getD_cons_zero,ha,Option.getD_some,List.map_cons,List.map_nil,numIn_bare]
   rfl
  ·have ei:=ins_one l ⟨10,0,0,0,0⟩ p 2 (by rw[e];decide) (by rw[e,QL _ (by decide +kernel),f10]) ht rfl
   unfold bytes
   rw[e,ei,opr_num ha]
   unfold ZI plc
   rw[ht]
   simp only[List.getD_cons_zero,ha,Option.getD_some,List.map_cons,List.map_nil,numIn_bare]
   rfl
  ·have ei:=ins_one l ⟨11,0,0,0,0⟩ p 2 (by rw[e];decide) (by rw[e,QL _ (by decide +kernel),f11]) ht rfl
   unfold bytes
   rw[e,ei,opr_num ha]
   rfl
end Go.Proofs.YtegiloiojloaoaaGreatDoor.Rf
namespace Go.Proofs.YtegiloiojloaoaaGreatDoor.Strd
theorem selO_number (org:Int) (ks:List Bool) (ls:List Line) (fs:List Int) (ho:Out ks ls) (hz:Zero ks fs) (o:Opr):Q7 (sel ks ls) (starts org (sel ks ls) (sel ks fs)) o=Q7 ls (starts org ls fs) o:=by
 unfold Q7 placeOf
 split
 ·rfl
 ·rename_i hn
  rcases sel_place o.name hn ks ls fs org ho hz with ⟨h1,h2⟩|⟨i,j,h1,h2,h3⟩
  ·rw[h1,h2]
   simp only[Option.getD_none]
   rw[st_zero,st_zero]
  ·rw[h1,h2];exact h3
theorem selO_settle (org:Int) (ks:List Bool) (ls:List Line) (ho:Out ks ls):∀(m n:Nat) (fs:List Int),Zero ks fs→room (sel ks ls) (sel ks fs)<n→room ls fs<m →
  settle org (sel ks ls) n (sel ks fs)=sel ks (settle org ls m fs)∧Zero ks (settle org ls m fs)
 |0,_,_,_,_,h=>by omega
 |m+1,0,_,_,h,_=>by omega
 |m+1,n+1,fs,hz,h1,h2=>by
  have hl:=sel_longer (sel ks ls) ls (starts org (sel ks ls) (sel ks fs)) (starts org ls fs) (selO_number org ks ls fs ho hz) ks ls fs org ho hz
  have len1:fs.length=ls.length:=by rw[←hz.len,ho.len]
  have len2:(sel ks fs).length=(sel ks ls).length:=sel_len ks fs ls hz.len.symm ho.len.symm
  unfold settle
  simp only
  by_cases e:longer ls (starts org ls fs) ls fs (starts org ls fs)=fs
  ·have e2:longer (sel ks ls) (starts org (sel ks ls) (sel ks fs)) (sel ks ls) (sel ks fs) (starts org (sel ks ls) (sel ks fs))=sel ks fs:=by rw[hl.1,e]
   rw[if_pos e,if_pos e2]
   exact⟨rfl,hz⟩
  ·have e2:¬longer (sel ks ls) (starts org (sel ks ls) (sel ks fs)) (sel ks ls) (sel ks fs) (starts org (sel ks ls) (sel ks fs))=sel ks fs:=fun h=>e (sel_inj ks _ _ hl.2 hz (by rw[←hl.1];exact h))
   rw[if_neg e,if_neg e2]
   have r1:=(lng_room ls (starts org ls fs) ls fs (starts org ls fs) len1 (by rw[st_len _ _ _ len1];omega)).2 e
   have r2:=(lng_room (sel ks ls) (starts org (sel ks ls) (sel ks fs)) (sel ks ls) (sel ks fs) (starts org (sel ks ls) (sel ks fs)) len2 (by rw[st_len _ _ _ len2];omega)).2 e2
   rw[hl.1]at r2 ⊢
   exact selO_settle org ks ls ho m n _ hl.2 (by omega) (by omega)
theorem selO_end:∀(ks:List Bool) (ls:List Line) (fs:List Int) (a:Int),Out ks ls→Zero ks fs→(starts a (sel ks ls) (sel ks fs)).getD (sel ks ls).length 0=(starts a ls fs).getD ls.length 0
 |[],[],[],_,_,_=>rfl
 |[],_::_,_,_,h,_=>h.elim
 |[],[],_::_,_,_,h=>h.elim
 |_::_,[],_,_,h,_=>h.elim
 |_::_,_::_,[],_,_,h=>h.elim
 |true::ks,l::ls,f::fs,a,ho,hz=>by
  have ih:=selO_end ks ls fs (a+size l.ins f a) ho.2 hz.2
  simp only[sel,starts,List.length_cons,List.getD_cons_succ]
  exact ih
 |false::ks,l::ls,f::fs,a,ho,hz=>by
  have e:=ho.1 rfl
  subst e
  have ih:=selO_end ks ls fs a ho.2 hz.2
  simp only[sel,starts,List.length_cons,List.getD_cons_succ,empty_size,Int.add_zero]
  exact ih
def firstN {α:Type} (p:α→Bool):List Nat→List α→Nat
 |m::ms,l::ls=>if p l=true then m else firstN p ms ls
 |_,_=>0
def firstMissN (lines:List Line) (st:List Int):List Nat→List Line→List Int→List Int→Nat
 |m::ms,l::ls,f::fs,a::as=>if misses lines st l f a=true then m else firstMissN lines st ms ls fs as
 |_,_,_,_=>0
theorem sel_first (p:Line→Bool) (hp:p emptyLine=false):∀(ks:List Bool) (ls:List Line) (a:Nat),Out ks ls →
  (match ls.findIdx? p with|some k=>k+1+a|none=>0)=firstN p (sel ks (List.range' (a+1) ls.length)) (sel ks ls)
 |[],[],_,_=>rfl
 |[],_::_,_,h=>h.elim
 |_::_,[],_,h=>h.elim
 |k::ks,l::ls,a,ho=>by
  have ih:=sel_first p hp ks ls (a+1) ho.2
  rw[List.length_cons,List.range'_succ,List.findIdx?_cons]
  cases k with
  |true=>
   simp only[sel,firstN]
   cases hl:p l with
   |true=>show 0+1+a=a+1;exact Nat.add_comm _ _ |>.trans (by simp)
   |false=>
    simp only[Bool.false_eq_true,if_false]
    rw[←ih]
    cases List.findIdx? p ls with
    |none=>rfl
    |some k=>show k+1+1+a=k+1+(a+1);exact Nat.add_right_comm (k+1) 1 a
  |false=>
   have e:=ho.1 rfl
   subst e
   rw[hp]
   simp only[sel,Bool.false_eq_true,if_false]
   rw[←ih]
   cases List.findIdx? p ls with
   |none=>rfl
   |some k=>show k+1+1+a=k+1+(a+1);exact Nat.add_right_comm (k+1) 1 a
theorem sel_firstMiss (lines lines':List Line) (st st':List Int) (hn:∀o,Q7 lines st o=Q7 lines' st' o):∀(ks:List Bool) (ls:List Line) (fs:List Int) (a:Int) (k:Nat),Out ks ls→Zero ks fs →
  firstMiss lines' st' k ls fs (starts a ls fs)=firstMissN lines st (sel ks (List.range' (k+1) ls.length)) (sel ks ls) (sel ks fs) (starts a (sel ks ls) (sel ks fs))
 |[],[],[],_,_,_,_=>by simp[sel,firstMiss,firstMissN]
 |[],_::_,_,_,_,h,_=>h.elim
 |[],[],_::_,_,_,_,h=>h.elim
 |_::_,[],_,_,_,h,_=>h.elim
 |_::_,_::_,[],_,_,_,h=>h.elim
 |true::ks,l::ls,f::fs,a,k,ho,hz=>by
  have ih:=sel_firstMiss lines lines' st st' hn ks ls fs (a+size l.ins f a) (k+1) ho.2 hz.2
  rw[List.length_cons,List.range'_succ]
  simp only[sel,starts,firstMiss,firstMissN]
  rw[ih,mis_eq lines lines' st st' hn]
 |false::ks,l::ls,f::fs,a,k,ho,hz=>by
  have e:=ho.1 rfl
  subst e
  have ih:=sel_firstMiss lines lines' st st' hn ks ls fs a (k+1) ho.2 hz.2
  rw[List.length_cons,List.range'_succ]
  simp only[sel,starts,firstMiss,empty_size,Int.add_zero,empty_misses,Bool.false_eq_true,if_false]
  exact ih
def badL (lines:List Line) (l:Line):Bool:=l.ins.oprs.any fun o=>!known lines o.name
theorem sel_known (ks:List Bool) (ls:List Line) (ho:Out ks ls) (n:Bs):known (sel ks ls) n=known ls n:=by
 unfold known
 cases hn:(n==[]) with
 |true=>rfl
 |false=>
  simp only[Bool.false_or]
  rw[Bool.eq_iff_iff,List.any_eq_true,List.any_eq_true]
  constructor
  ·rintro ⟨l,hl,h⟩;exact⟨l,sel_mem ks ls l hl,h⟩
  ·rintro ⟨l,hl,h⟩
   rcases out_mem ks ls ho l hl with h1|rfl
   ·exact⟨l,h1,h⟩
   ·exfalso
    have:n=[]:=by simpa [emptyLine] using h
    rw[this]at hn
    exact absurd hn (by decide)
theorem lay_sel (org:Int) (ks:List Bool) (ls:List Line) (ho:Out ks ls) (hr:∀l∈ls,0≤l.ins.op.first∧l.ins.op.last≤2) (M:List Line) (hM:sel ks ls=M) (nums:List Nat) (hN:sel ks (List.range' 1 ls.length)=nums) :
  (lay org ls).2=(if 0<firstN (badL M) nums M then (firstN (badL M) nums M,2) else
   if 0<firstMissN M (starts org M (QJ org M)) nums M (QJ org M) (starts org M (QJ org M)) then (firstMissN M (starts org M (QJ org M)) nums M (QJ org M) (starts org M (QJ org M)),6)
   else if 0<firstN (overflows M (starts org M (QJ org M))) nums M then (firstN (overflows M (starts org M (QJ org M))) nums M,4)
   else if (starts org M (QJ org M)).getD M.length 0-1 > 0xfffffe then (0,7) else (0,0)) ∧
  image ls (starts org ls (QJ org ls)) ls (QJ org ls) (starts org ls (QJ org ls))=image M (starts org M (QJ org M)) M (QJ org M) (starts org M (QJ org M)) ∧
  QJ org M=sel ks (QJ org ls)∧Zero ks (QJ org ls):=by
 subst hM hN
 have hz:=first_zero ks ls ho
 have hff:Q5 (sel ks ls)=sel ks (Q5 ls):=by unfold Q5;rw[sel_map]
 have hr1:=first_room ls hr
 have hr2:=first_room (sel ks ls) (fun l hl=>hr l (sel_mem ks ls l hl))
 have hs:=selO_settle org ks ls ho (2*ls.length+1) (2*(sel ks ls).length+1) (Q5 ls) hz (by rw[←hff];unfold Q5;omega) (by unfold Q5;omega)
 rw[←hff]at hs
 have e:QJ org (sel ks ls)=sel ks (QJ org ls):=hs.1
 have hz2:Zero ks (QJ org ls):=hs.2
 have hnum:=selO_number org ks ls _ ho hz2
 refine⟨?_,?_,e,hz2⟩
 ·have e1:firstUnknown ls=firstN (badL (sel ks ls)) (sel ks (List.range' 1 ls.length)) (sel ks ls):=by
   have hb:(fun l:Line=>l.ins.oprs.any fun o=>!known ls o.name)=badL (sel ks ls):=by
    funext l
    unfold badL
    simp only[sel_known ks ls ho]
   unfold firstUnknown
   rw[hb]
   exact sel_first (badL (sel ks ls)) rfl ks ls 0 ho
  have e2:firstMiss ls (starts org ls (QJ org ls)) 0 ls (QJ org ls) (starts org ls (QJ org ls))=firstMissN (sel ks ls) (starts org (sel ks ls) (QJ org (sel ks ls))) (sel ks (List.range' 1 ls.length)) (sel ks ls) (QJ org (sel ks ls)) (starts org (sel ks ls) (QJ org (sel ks ls))):=by
   rw[e]
   exact sel_firstMiss _ _ _ _ hnum ks ls _ org 0 ho hz2
  have e3:firstOver ls (starts org ls (QJ org ls))=firstN (overflows (sel ks ls) (starts org (sel ks ls) (QJ org (sel ks ls)))) (sel ks (List.range' 1 ls.length)) (sel ks ls):=by
   rw[e]
   have hb:overflows ls (starts org ls (QJ org ls))=overflows (sel ks ls) (starts org (sel ks ls) (sel ks (QJ org ls))):=by
    funext l
    unfold overflows
    simp only[hnum]
   unfold firstOver
   rw[hb]
   exact sel_first _ rfl ks ls 0 ho
  have e4:(starts org ls (QJ org ls)).getD ls.length 0=(starts org (sel ks ls) (QJ org (sel ks ls))).getD (sel ks ls).length 0:=by
   rw[e];exact(selO_end ks ls _ org ho hz2).symm
  unfold lay
  rw[←e1,←e2,←e3,←e4]
  simp only[gt_iff_lt]
  split
  ·rfl
  ·split
   ·rfl
   ·split
    ·rfl
    ·split <;> rfl
 ·rw[e]
  exact(sel_image (sel ks ls) ls _ _ hnum ks ls _ org ho hz2).symm
theorem firstN_none {α:Type} (p:α→Bool):∀(ms:List Nat) (ls:List α),(∀i (h:i<ls.length),p ls[i]=false)→firstN p ms ls=0
 |[],_,_=>by cases ‹List α› <;> rfl
 |_::_,[],_=>rfl
 |m::ms,l::ls,h=>by
  have h0:=h 0 (by simp)
  simp only[List.getElem_cons_zero]at h0
  rw[firstN,h0,if_neg (by decide)]
  exact firstN_none p ms ls (fun i hi=>h (i+1) (by simp;omega))
theorem firstN_at {α:Type} (p:α→Bool):∀(ms:List Nat) (ls:List α) (j:Nat) (hj:j<ls.length) (hm:j<ms.length),(∀i (h:i<ls.length),i<j→p ls[i]=false)→p ls[j]=true→firstN p ms ls=ms[j]
 |m::ms,l::ls,0,_,_,_,hp=>by
  simp only[List.getElem_cons_zero]at hp
  rw[firstN,if_pos hp];rfl
 |m::ms,l::ls,j+1,hj,hm,h,hp=>by
  have h0:=h 0 (by simp) (by omega)
  simp only[List.getElem_cons_zero]at h0
  rw[firstN,h0,if_neg (by decide)]
  have:=firstN_at p ms ls j (by simpa using hj) (by simpa using hm) (fun i hi hij=>by
   have:=h (i+1) (by simp;omega) (by omega)
   simpa only[List.getElem_cons_succ] using this) (by simpa only[List.getElem_cons_succ] using hp)
  rw[this];rfl
 |[],_,_,_,h,_,_=>by simp at h
 |_::_,[],_,h,_,_,_=>by simp at h
theorem firstMissN_none (lines:List Line) (st:List Int):∀(ms:List Nat) (ls:List Line) (fs as:List Int),(∀i (h:i<ls.length),misses lines st ls[i] (fs.getD i 0) (as.getD i 0)=false)→firstMissN lines st ms ls fs as=0
 |m::ms,l::ls,f::fs,a::as,h=>by
  have h0:=h 0 (by simp)
  simp only[List.getElem_cons_zero,List.getD_cons_zero]at h0
  rw[firstMissN,h0,if_neg (by decide)]
  exact firstMissN_none lines st ms ls fs as (fun i hi=>by
   have:=h (i+1) (by simp;omega)
   simpa only[List.getElem_cons_succ,List.getD_cons_succ] using this)
 |[],_,_,_,_=>by simp[firstMissN]
 |_::_,[],_,_,_=>by simp[firstMissN]
 |_::_,_::_,[],_,_=>by simp[firstMissN]
 |_::_,_::_,_::_,[],_=>by simp[firstMissN]
theorem firstMissN_at (lines:List Line) (st:List Int):∀(ms:List Nat) (ls:List Line) (fs as:List Int) (j:Nat) (hj:j<ls.length) (hm:j<ms.length),j<fs.length→j<as.length→(∀i (h:i<ls.length),i<j→misses lines st ls[i] (fs.getD i 0) (as.getD i 0)=false)→misses lines st ls[j] (fs.getD j 0) (as.getD j 0)=true→firstMissN lines st ms ls fs as=ms[j]
 |m::ms,l::ls,f::fs,a::as,0,_,_,_,_,_,hp=>by
  simp only[List.getElem_cons_zero,List.getD_cons_zero]at hp
  rw[firstMissN,if_pos hp];rfl
 |m::ms,l::ls,f::fs,a::as,j+1,hj,hm,hf,ha,h,hp=>by
  have h0:=h 0 (by simp) (by omega)
  simp only[List.getElem_cons_zero,List.getD_cons_zero]at h0
  rw[firstMissN,h0,if_neg (by decide)]
  have:=firstMissN_at lines st ms ls fs as j (by simpa using hj) (by simpa using hm) (by simpa using hf) (by simpa using ha) (fun i hi hij=>by
   have:=h (i+1) (by simp;omega) (by omega)
   simpa only[List.getElem_cons_succ,List.getD_cons_succ] using this) (by simpa only[List.getElem_cons_succ,List.getD_cons_succ] using hp)
  rw[this];rfl
 |[],_,_,_,_,_,h,_,_,_,_=>by simp at h
 |_::_,[],_,_,_,h,_,_,_,_,_=>by simp at h
 |_::_,_::_,[],_,_,_,_,h,_,_,_=>by simp at h
 |_::_,_::_,_::_,[],_,_,_,_,h,_,_=>by simp at h
end Go.Proofs.YtegiloiojloaoaaGreatDoor.Strd
namespace Go.Proofs.YtegiloiojloaoaaGreatDoor.Rf
open Strd
def dl:Line:=⟨0,[],[],0,[]⟩
def upf (l:Line) (f:Int):Int:=if QN l.word=true then f+1 else 0
structure LineOk (l:Line):Prop where
 wf:WfL l
 nums:numbers l=true
 no:1≤l.no∧l.no≤4001
def FormOk (l:Line) (f:Int):Prop:=0≤f∧f≤2∧(far l.word=true→f≠0)
theorem kind_isJump (l:Line) (hl:WfL l):Strd.QN (ins l).op=QN l.word∧(QN l.word=true→((ins l).op.kind=6↔far l.word=true)):=by
 obtain⟨f1,f2,f3,f4,f5,f6,f7,f8,f9,f10,f11⟩:=fixed_ops
 have hk:∀kd:Int,kd≠5→kd≠6→(ins l).op.kind=kd→QN l.word=false→Strd.QN (ins l).op=QN l.word∧(QN l.word=true→((ins l).op.kind=6↔far l.word=true)):=by
  intro kd h5 h6 e h
  refine⟨?_,fun h'=>by rw[h]at h';cases h'⟩
  unfold Strd.QN
  rw[e,h]
  simp[h5,h6]
 rcases hl.shaped with ⟨h1,h2⟩|⟨h1,h2⟩|⟨h1,p,q,m,n,ht,ha,hb⟩|⟨h1,p,q,m,n,ht,ha,hb⟩|⟨h1,p,ht,ha⟩|⟨h1,h2,h3,h4⟩|⟨h1,p,n,ht,ha⟩
 ·exact hk 0 (by decide) (by decide) (by unfold ins;rw[h1];rfl) (by rw[h1];decide +kernel)
 ·have ei:ins l=⟨ZX l.word l.form,[]⟩:=by
   unfold ins
   rw[if_neg (by rcases h1 with e|e <;> rw[e] <;> decide),h2];simp
  rcases h1 with e|e
  ·exact hk 1 (by decide) (by decide) (by rw[ei,e,QL _ (by decide +kernel),f1]) (by rw[e];decide +kernel)
  ·exact hk 1 (by decide) (by decide) (by rw[ei,e,QL _ (by decide +kernel),f2]) (by rw[e];decide +kernel)
 ·rcases h1 with e|e|e|e
  ·exact hk 2 (by decide) (by decide) (by rw[Z1 l 2 0x3000 p q 0 0 (by rw[e];decide) (by rw[e,QL _ (by decide +kernel),f3]) ht rfl]) (by rw[e];decide +kernel)
  ·exact hk 2 (by decide) (by decide) (by rw[Z1 l 2 0xd040 p q 0 0 (by rw[e];decide) (by rw[e,QL _ (by decide +kernel),f4]) ht rfl]) (by rw[e];decide +kernel)
  ·exact hk 2 (by decide) (by decide) (by rw[Z1 l 2 0x9040 p q 0 0 (by rw[e];decide) (by rw[e,QL _ (by decide +kernel),f5]) ht rfl]) (by rw[e];decide +kernel)
  ·exact hk 2 (by decide) (by decide) (by rw[Z1 l 2 0xb040 p q 0 0 (by rw[e];decide) (by rw[e,QL _ (by decide +kernel),f6]) ht rfl]) (by rw[e];decide +kernel)
 ·rcases h1 with e|e
  ·exact hk 3 (by decide) (by decide) (by rw[Z1 l 3 0x7000 p q 1 0 (by rw[e];decide) (by rw[e,QL _ (by decide +kernel),f7]) ht rfl]) (by rw[e];decide +kernel)
  ·exact hk 4 (by decide) (by decide) (by rw[Z1 l 4 0x640 p q 1 0 (by rw[e];decide) (by rw[e,QL _ (by decide +kernel),f8]) ht rfl]) (by rw[e];decide +kernel)
 ·have hj:=(isJump_mem _).2 h1
  rw[ins_jump l h1 p ht]
  refine⟨?_,fun _=>?_⟩
  ·unfold Strd.QN
   rw[hj]
   rcases jump_kind l.word h1 l.form with e|e <;> simp[e]
  ·rcases h1 with h1|h1
   ·have hnf:∀w∈jumpWords,far w=false:=by decide +kernel
    rw[kind_jump l.word h1,hnf _ h1]
    split <;> simp[jumpOp]
   ·rw[kind_far l.word h1,(far_mem _).2 h1]
    split <;> simp[ZZ]
 ·rw[ins_dc l h1 h2 h3]
  have hnj:QN l.word=false:=by rcases dc_cases h1 with e|e <;> rw[e] <;> decide +kernel
  rw[hnj]
  refine⟨?_,fun h=>by cases h⟩
  unfold Strd.QN
  simp only
  split <;> decide
 ·rcases h1 with e|e|e
  ·exact hk 9 (by decide) (by decide) (by rw[ins_one l ⟨9,0,0,0,0⟩ p 2 (by rw[e];decide) (by rw[e,QL _ (by decide +kernel),f9]) ht rfl]) (by rw[e];decide +kernel)
  ·exact hk 10 (by decide) (by decide) (by rw[ins_one l ⟨10,0,0,0,0⟩ p 2 (by rw[e];decide) (by rw[e,QL _ (by decide +kernel),f10]) ht rfl]) (by rw[e];decide +kernel)
  ·exact hk 11 (by decide) (by decide) (by rw[ins_one l ⟨11,0,0,0,0⟩ p 2 (by rw[e];decide) (by rw[e,QL _ (by decide +kernel),f11]) ht rfl]) (by rw[e];decide +kernel)
theorem bytes_form (i:Ins) (f g a:Int) (h:Strd.QN i.op=false):Strd.bytes i f a=Strd.bytes i g a:=by
 unfold Strd.QN at h
 rw[Bool.or_eq_false_iff]at h
 have h5:¬i.op.kind=5:=by simpa using h.1
 have h6:¬i.op.kind=6:=by simpa using h.2
 unfold Strd.bytes size
 simp only[h5,h6,if_false,or_self]
theorem bytesF_tie (labs:List (Bs×Int)) (l:Line) (hl:LineOk l) (f a:Int) (hf:FormOk l f):bytes labs l (upf l f) a=Strd.bytes (plc labs (ins l)) f a:=by
 obtain⟨hj,h6⟩:=kind_isJump l hl.wf
 rw[bytes_tie labs l hl.wf hl.nums]
 ·unfold upf
  by_cases h:QN l.word=true
  ·rw[if_pos h,Int.add_sub_cancel]
  ·rw[if_neg h]
   refine bytes_form _ _ _ _ ?_
   show Strd.QN (ins l).op=false
   rw[hj];simpa using h
 ·intro h
  unfold upf
  rw[if_pos h]
  refine⟨by have:=hf.1;omega,by have:=hf.2.1;omega,fun h'=>?_⟩
  have:=hf.2.2 h'
  omega
theorem oprs_bare (l:Line) (hl:WfL l) (hk:(ins l).op.kind=4∨(ins l).op.kind=9∨(ins l).op.kind=10):∀o∈(ins l).oprs,o.name=[]:=by
 obtain⟨f1,f2,f3,f4,f5,f6,f7,f8,f9,f10,f11⟩:=fixed_ops
 rcases hl.shaped with ⟨h1,h2⟩|⟨h1,h2⟩|⟨h1,p,q,m,n,ht,ha,hb⟩|⟨h1,p,q,m,n,ht,ha,hb⟩|⟨h1,p,ht,ha⟩|⟨h1,h2,h3,h4⟩|⟨h1,p,n,ht,ha⟩
 ·unfold ins;rw[h1];intro o ho;cases ho
 ·have:(ins l).oprs=[]:=by
   unfold ins
   split
   ·rfl
   ·rw[h2];simp
  rw[this];intro o ho;cases ho
 ·have key:∀b,ins l=⟨⟨2,b,0,0,0⟩,[opr 0 p,opr 0 q]⟩→∀o∈(ins l).oprs,o.name=[]:=by
   intro b e
   rw[e,opr_reg ha,opr_reg hb]
   intro o ho
   simp at ho
   rcases ho with rfl|rfl <;> rfl
  rcases h1 with e|e|e|e
  ·exact key _ (Z1 l 2 0x3000 p q 0 0 (by rw[e];decide) (by rw[e,QL _ (by decide +kernel),f3]) ht rfl)
  ·exact key _ (Z1 l 2 0xd040 p q 0 0 (by rw[e];decide) (by rw[e,QL _ (by decide +kernel),f4]) ht rfl)
  ·exact key _ (Z1 l 2 0x9040 p q 0 0 (by rw[e];decide) (by rw[e,QL _ (by decide +kernel),f5]) ht rfl)
  ·exact key _ (Z1 l 2 0xb040 p q 0 0 (by rw[e];decide) (by rw[e,QL _ (by decide +kernel),f6]) ht rfl)
 ·have key:∀k b,ins l=⟨⟨k,b,0,0,0⟩,[opr 1 p,opr 0 q]⟩→∀o∈(ins l).oprs,o.name=[]:=by
   intro k b e
   rw[e,opr_val ha,opr_reg hb]
   intro o ho
   simp at ho
   rcases ho with rfl|rfl <;> rfl
  rcases h1 with e|e
  ·exact key _ _ (Z1 l 3 0x7000 p q 1 0 (by rw[e];decide) (by rw[e,QL _ (by decide +kernel),f7]) ht rfl)
  ·exact key _ _ (Z1 l 4 0x640 p q 1 0 (by rw[e];decide) (by rw[e,QL _ (by decide +kernel),f8]) ht rfl)
 ·exfalso
  rw[ins_jump l h1 p ht]at hk
  have:=jump_kind l.word h1 l.form
  simp only at hk
  omega
 ·exfalso
  rw[ins_dc l h1 h2 h3]at hk
  simp only at hk
  split at hk <;> omega
 ·have key:∀k,ins l=⟨⟨k,0,0,0,0⟩,[opr 2 p]⟩→∀o∈(ins l).oprs,o.name=[]:=by
   intro k e
   rw[e,opr_num ha]
   intro o ho
   simp at ho
   subst ho;rfl
  rcases h1 with e|e|e
  ·exact key 9 (ins_one l ⟨9,0,0,0,0⟩ p 2 (by rw[e];decide) (by rw[e,QL _ (by decide +kernel),f9]) ht rfl)
  ·exact key 10 (ins_one l ⟨10,0,0,0,0⟩ p 2 (by rw[e];decide) (by rw[e,QL _ (by decide +kernel),f10]) ht rfl)
  ·exact key 11 (ins_one l ⟨11,0,0,0,0⟩ p 2 (by rw[e];decide) (by rw[e,QL _ (by decide +kernel),f11]) ht rfl)
theorem size_plc (labs:List (Bs×Int)) (l:Line) (hl:WfL l) (f a:Int):size (plc labs (ins l)) f a=size (ins l) f a:=by
 unfold size
 have hop:(plc labs (ins l)).op=(ins l).op:=rfl
 have hlen:(plc labs (ins l)).oprs.length=(ins l).oprs.length:=by unfold plc;simp
 rw[hop,hlen]
 by_cases hk:(ins l).op.kind=4∨(ins l).op.kind=9∨(ins l).op.kind=10
 ·have hb:=oprs_bare l hl hk
  have hn:num (plc labs (ins l)) 0=num (ins l) 0:=by
   unfold num plc
   simp only[gD,List.getElem?_map]
   cases h:(ins l).oprs[0]? with
   |none=>rfl
   |some o=>
    simp only[Option.map_some,Option.getD_some]
    unfold numIn
    rw[if_pos (hb o (List.mem_of_getElem? h))]
  rw[hn]
 ·simp only
  have h4:¬(ins l).op.kind=4:=by omega
  have h9:¬(ins l).op.kind=9:=by omega
  have h10:¬(ins l).op.kind=10:=by omega
  simp only[h4,h9,h10,if_false]
theorem bytes_len_tie (labs:List (Bs×Int)) (l:Line) (hl:LineOk l) (f a:Int) (hf:FormOk l f):(bytes labs l (upf l f) a).length=(size (ins l) f a).toNat:=by
 rw[bytesF_tie labs l hl f a hf,bytes_len _ _ _ ⟨hf.1,hf.2.1⟩,size_plc labs l hl.wf]
 intro h
 have h6:(ins l).op.kind=6:=h
 obtain⟨hj,h7⟩:=kind_isJump l hl.wf
 have hj2:QN l.word=true:=by
  rw[←hj]
  unfold Strd.QN
  simp[h6]
 exact hf.2.2 ((h7 hj2).1 h6)
def imgTo (labs:List (Bs×Int)) (L:List Line) (fs st:List Int) (i:Nat):Bs:=((List.range i).map fun k=>bytes labs (L.getD k dl) (upf (L.getD k dl) (fs.getD k 0)) (st.getD k 0)).flatten
theorem imgTo_succ (labs:List (Bs×Int)) (L:List Line) (fs st:List Int) (i:Nat):imgTo labs L fs st (i+1)=imgTo labs L fs st i++bytes labs (L.getD i dl) (upf (L.getD i dl) (fs.getD i 0)) (st.getD i 0):=by
 unfold imgTo
 rw[List.range_succ]
 simp
def labsTo (L:List Line) (st:List Int) (i:Nat):List (Bs×Int):=(List.range i).flatMap fun k=>if (L.getD k dl).label=[] then [] else [((L.getD k dl).label,st.getD k 0)]
theorem labsTo_succ (L:List Line) (st:List Int) (i:Nat):labsTo L st (i+1)=labsTo L st i++(if (L.getD i dl).label=[] then [] else [((L.getD i dl).label,st.getD i 0)]):=by
 unfold labsTo
 rw[List.range_succ]
 simp
theorem labsTo_len (L:List Line) (st:List Int) (i:Nat):(labsTo L st i).length≤i:=by
 induction i with
 |zero=>simp[labsTo]
 |succ i ih=>rw[labsTo_succ,List.length_append];split <;> simp <;> omega
theorem look_app (A B:List (Bs×Int)) (n:Bs):look (A++B) n=(look A n).or (look B n):=by
 unfold look
 rw[List.find?_append]
 cases A.find? (fun p=>p.1==n) <;> rfl
theorem look_labs (L:List Line) (st:List Int) (n:Bs) (hn:n≠[]):∀i,i≤L.length→look (labsTo L st i) n=(labelAt ((L.take i).map strd) n).map fun j=>st.getD j 0
 |0,_=>rfl
 |i+1,h=>by
  have ih:=look_labs L st n hn i (by omega)
  have hi:i<L.length:=by omega
  rw[labsTo_succ,look_app,ih,List.take_add_one,gE hi]
  simp only[Option.toList_some,List.map_append,List.map_cons,List.map_nil]
  have hg:L.getD i dl=L[i]:=by rw[gD,gE hi];rfl
  rw[hg]
  unfold labelAt
  rw[List.findIdx?_append]
  cases hf:List.findIdx? (fun l=>l.label==n) ((L.take i).map strd) with
  |some k=>simp
  |none=>
   simp only[Option.map_none,Option.none_or,List.findIdx?_cons,List.findIdx?_nil,List.length_map,List.length_take]
   have hs:(strd L[i]).label=L[i].label:=rfl
   rw[hs]
   by_cases hl:L[i].label=n
   ·subst hl
    rw[if_neg hn]
    simp[look,Nat.min_eq_left (Nat.le_of_lt hi)]
   ·have hb:(L[i].label==n)=false:=by simpa using hl
    rw[hb]
    split
    ·simp[look]
    ·simp[look,hb]
theorem numIn_tie (L:List Line) (st:List Int) (o:Opr) (hk:known (L.map strd) o.name=true):numIn (labsTo L st L.length) o=Q7 (L.map strd) st o:=by
 unfold numIn Q7
 by_cases h:o.name=[]
 ·rw[if_pos h,if_pos h]
 ·rw[if_neg h,if_neg h,look_labs L st o.name h L.length (Nat.le_refl _),List.take_length]
  unfold placeOf
  cases hf:labelAt (L.map strd) o.name with
  |some j=>rfl
  |none=>
   exfalso
   unfold known at hk
   have hb:(o.name==[])=false:=by simpa using h
   rw[hb,Bool.false_or,List.any_eq_true]at hk
   obtain⟨l,hl,hln⟩:=hk
   unfold labelAt at hf
   rw[List.findIdx?_eq_none_iff]at hf
   rw[hf l hl]at hln;cases hln
theorem image_idx (lines:List Strd.Line) (st:List Int):∀(ls:List Strd.Line) (fs as:List Int),fs.length=ls.length→ls.length≤as.length→image lines st ls fs as=((List.range ls.length).map fun k=>Strd.bytes (placed lines st (ls.getD k emptyLine).ins) (fs.getD k 0) (as.getD k 0)).flatten
 |[],_,_,_,_=>by simp[image]
 |_::_,[],_,h,_=>by cases h
 |_::_,_::_,[],_,h=>by simp at h
 |l::ls,f::fs,a::as,h1,h2=>by
  have ih:=image_idx lines st ls fs as (by simpa using h1) (by simpa using h2)
  rw[image,ih,List.length_cons,List.range_succ_eq_map,List.map_cons,List.flatten_cons,List.map_map]
  congr 1
theorem imgTo_image (L:List Line) (fs st:List Int) (hL:∀l∈L,LineOk l) (hF:∀k,k<L.length→FormOk (L.getD k dl) (fs.getD k 0)) (hK:∀l∈L,∀o∈(ins l).oprs,known (L.map strd) o.name=true) (h1:fs.length=L.length) (h2:L.length≤st.length) :
  imgTo (labsTo L st L.length) L fs st L.length=image (L.map strd) st (L.map strd) fs st:=by
 rw[image_idx _ _ _ _ _ (by simpa using h1) (by simpa using h2)]
 unfold imgTo
 rw[List.length_map]
 congr 1
 refine List.map_congr_left (fun k hk=>?_)
 have hk':k<L.length:=List.mem_range.1 hk
 have hg:L.getD k dl=L[k]:=by rw[gD,gE hk'];rfl
 have hg2:(L.map strd).getD k emptyLine=strd L[k]:=by rw[gD,List.getElem?_map,gE hk'];rfl
 have hm:=List.getElem_mem hk'
 have hf:=hF k hk'
 rw[hg]at hf ⊢
 rw[hg2,bytesF_tie _ _ (hL _ hm) _ _ hf]
 unfold placed plc
 congr 2
 refine List.map_congr_left (fun o ho=>?_)
 rw[numIn_tie L st o (hK _ hm o ho)]
def missL (labs:List (Bs×Int)) (l:Line) (F a:Int):Bool:=QN l.word&&!fits l.word F a (toN labs (ZI l 0))
theorem jump_shape (l:Line) (hl:WfL l) (hj:QN l.word=true):∃p,l.texts=[p]∧placeT p=true∧ins l=⟨ZX l.word l.form,[opr 3 p]⟩:=by
 have hh:∀w∈jumpWords++farWords.map (·.1),w≠[]∧w≠[110,111,112]∧w≠[114,116,115]∧w≠[109,111,118,101]∧w≠[97,100,100]∧w≠[115,117,98]∧w≠[99,109,112]∧w≠[109,111,118,101,113]∧w≠[97,100,100,105]∧dcOp w=false∧w≠[100,115]∧w≠[97,108,105,103,110]∧w≠[111,114,103]:=by decide +kernel
 have hm:=(isJump_mem _).1 hj
 obtain⟨n0,n1,n2,n3,n4,n5,n6,n7,n8,n9,n10,n11,n12⟩:=hh _ (List.mem_append.2 hm)
 rcases hl.shaped with ⟨h1,h2⟩|⟨h1,h2⟩|⟨h1,_⟩|⟨h1,_⟩|⟨h1,p,ht,ha⟩|⟨h1,_⟩|⟨h1,_⟩
 ·exact(n0 h1).elim
 ·rcases h1 with h|h
  ·exact(n1 h).elim
  ·exact(n2 h).elim
 ·rcases h1 with h|h|h|h
  ·exact(n3 h).elim
  ·exact(n4 h).elim
  ·exact(n5 h).elim
  ·exact(n6 h).elim
 ·rcases h1 with h|h
  ·exact(n7 h).elim
  ·exact(n8 h).elim
 ·exact⟨p,ht,ha,ins_jump l h1 p ht⟩
 ·rw[n9]at h1;cases h1
 ·rcases h1 with h|h|h
  ·exact(n10 h).elim
  ·exact(n11 h).elim
  ·exact(n12 h).elim
theorem ins_op (l:Line) (h:l.word≠[]):(ins l).op=ZX l.word l.form:=by unfold ins;rw[if_neg h]
theorem shaped_word (l:Line) (h:Shaped l):l.word∈fixedWords.map (·.1)∨l.word∈jumpWords∨l.word∈farWords.map (·.1):=by
 rcases h with ⟨h1,h2⟩|⟨h1,_⟩|⟨h1,_⟩|⟨h1,_⟩|⟨h1,_⟩|⟨h1,_⟩
 ·rcases h1 with e|e <;> rw[e] <;> exact .inl (by decide +kernel)
 ·rcases h1 with e|e|e|e <;> rw[e] <;> exact .inl (by decide +kernel)
 ·rcases h1 with e|e <;> rw[e] <;> exact .inl (by decide +kernel)
 ·exact .inr h1
 ·rcases dc_cases h1 with e|e <;> rw[e] <;> exact .inl (by decide +kernel)
 ·rcases h1 with e|e|e <;> rw[e] <;> exact .inl (by decide +kernel)
theorem shaped_ne (l:Line) (h:Shaped l):l.word≠[]:=by
 rcases shaped_word l h with h|h|h
 ·have hh:∀w∈fixedWords.map (·.1),w≠[]:=by decide +kernel
  exact hh _ h
 ·exact jump_ne _ (.inl h)
 ·exact jump_ne _ (.inr h)
theorem op_facts (l:Line) (hl:WfL l):((ins l).op.kind=11↔l.word=[111,114,103])∧((ins l).op.kind=0↔l.word=[])∧(l.word=[]→ins l=emptyIns) ∧
  (QN l.word=false→(ins l).op.first=0∧(ins l).op.last=0) ∧
  (QN l.word=true→far l.word=false→(ins l).op.first=(if 0<l.form then l.form-1 else 0)∧(ins l).op.last=(if 0<l.form then l.form-1 else 2)) ∧
  (QN l.word=true→far l.word=true→(ins l).op.first=(if 0<l.form then l.form-1 else 1)∧(ins l).op.last=(if 0<l.form then l.form-1 else 2)):=by
 have hform:=hl.form
 rcases hl.shaped with ⟨h1,h2⟩|hs
 ·have e:ins l=emptyIns:=by unfold ins;rw[if_pos h1]
  have hj:QN l.word=false:=by rw[h1];decide +kernel
  refine⟨?_,?_,fun _=>e,fun _=>?_,(fun h=>by rw[hj]at h;cases h),(fun h=>by rw[hj]at h;cases h)⟩
  ·rw[e,h1];decide
  ·rw[e,h1];decide
  ·rw[e];exact⟨rfl,rfl⟩
 ·have hne:=shaped_ne l hs
  rw[ins_op l hne]
  rcases shaped_word l hs with h|h|h
  ·rw[QL _ h]
   have hh:∀w∈fixedWords.map (·.1),((ZX w 0).kind=11↔w=[111,114,103])∧(ZX w 0).kind≠0∧(ZX w 0).first=0∧(ZX w 0).last=0∧QN w=false:=by decide +kernel
   obtain⟨a,b,c,d,e⟩:=hh _ h
   exact⟨a,⟨fun h=>(b h).elim,fun h=>(hne h).elim⟩,fun h=>(hne h).elim,fun _=>⟨c,d⟩,(fun h=>by rw[e]at h;cases h),(fun h=>by rw[e]at h;cases h)⟩
  ·have hh:∀w∈jumpWords,w≠[111,114,103]∧far w=false∧QN w=true:=by decide +kernel
   obtain⟨a,b,c⟩:=hh _ h
   rw[kind_jump _ h,c,b]
   by_cases hf:l.form=0
   ·rw[if_pos hf]
    refine⟨⟨fun h=>absurd h (by simp[jumpOp]),fun h=>(a h).elim⟩,⟨fun h=>absurd h (by simp[jumpOp]),fun h=>(hne h).elim⟩,fun h=>(hne h).elim,fun h=>(by cases h),fun _ _=>?_,fun _ h=>(by cases h)⟩
    rw[if_neg (show ¬0<l.form by omega),if_neg (show ¬0<l.form by omega)];exact⟨rfl,rfl⟩
   ·rw[if_neg hf]
    refine⟨⟨fun h=>absurd h (by simp[jumpOp]),fun h=>(a h).elim⟩,⟨fun h=>absurd h (by simp[jumpOp]),fun h=>(hne h).elim⟩,fun h=>(hne h).elim,fun h=>(by cases h),fun _ _=>?_,fun _ h=>(by cases h)⟩
    rw[if_pos (show 0<l.form by omega),if_pos (show 0<l.form by omega)];exact⟨rfl,rfl⟩
  ·have hh:∀w∈farWords.map (·.1),w≠[111,114,103]∧far w=true∧QN w=true:=by decide +kernel
   obtain⟨a,b,c⟩:=hh _ h
   rw[kind_far _ h,c,b]
   by_cases hf:l.form=0
   ·rw[if_pos hf]
    refine⟨⟨fun h=>absurd h (by simp[ZZ]),fun h=>(a h).elim⟩,⟨fun h=>absurd h (by simp[ZZ]),fun h=>(hne h).elim⟩,fun h=>(hne h).elim,fun h=>(by cases h),fun _ h=>(by cases h),fun _ _=>?_⟩
    rw[if_neg (show ¬0<l.form by omega),if_neg (show ¬0<l.form by omega)];exact⟨rfl,rfl⟩
   ·rw[if_neg hf]
    refine⟨⟨fun h=>absurd h (by simp[ZZ]),fun h=>(a h).elim⟩,⟨fun h=>absurd h (by simp[ZZ]),fun h=>(hne h).elim⟩,fun h=>(hne h).elim,fun h=>(by cases h),fun _ h=>(by cases h),fun _ _=>?_⟩
    rw[if_pos (show 0<l.form by omega),if_pos (show 0<l.form by omega)];exact⟨rfl,rfl⟩
def FormIn (l:Line) (f:Int):Prop:=(ins l).op.first≤f∧f≤(ins l).op.last
theorem op_range (l:Line) (hl:WfL l):0≤(ins l).op.first∧(ins l).op.last≤2∧(ins l).op.first≤(ins l).op.last∧(far l.word=true→1≤(ins l).op.first):=by
 obtain⟨_,_,_,h4,h5,h6⟩:=op_facts l hl
 have hform:=hl.form
 have hf1:=hl.far1
 cases hj:QN l.word with
 |false=>
  obtain⟨a,b⟩:=h4 hj
  rw[a,b]
  refine⟨by omega,by omega,by omega,fun h=>?_⟩
  unfold QN at hj
  rw[h,Bool.or_true]at hj;cases hj
 |true=>
  cases hf:far l.word with
  |false=>
   obtain⟨a,b⟩:=h5 hj hf
   rw[a,b]
   refine⟨by split <;> omega,by split <;> omega,by split <;> omega,fun h=>by cases h⟩
  |true=>
   obtain⟨a,b⟩:=h6 hj hf
   have:=hf1 hf
   rw[a,b]
   refine⟨by split <;> omega,by split <;> omega,by split <;> omega,fun _=>by split <;> omega⟩
theorem FormIn.ok {l:Line} {f:Int} (hl:WfL l) (h:FormIn l f):FormOk l f:=by
 obtain⟨a,b,c,d⟩:=op_range l hl
 unfold FormIn at h
 exact⟨by omega,by omega,fun hf=>by have:=d hf;omega⟩
theorem first_up (l:Line) (hl:WfL l):upf l (ins l).op.first=if QN l.word=true then (if 0<l.form then l.form else if far l.word=true then 2 else 1) else 0:=by
 obtain⟨_,_,_,h4,h5,h6⟩:=op_facts l hl
 unfold upf
 by_cases hj:QN l.word=true
 ·rw[if_pos hj,if_pos hj]
  by_cases hf:far l.word=true
  ·rw[(h6 hj hf).1,if_pos hf]
   split <;> omega
  ·rw[(h5 hj (by simpa using hf)).1,if_neg hf]
   split <;> omega
 ·rw[if_neg hj,if_neg hj]
theorem more_iff (l:Line) (hl:WfL l) (f:Int) (hj:QN l.word=true) (h:FormIn l f):(f<(ins l).op.last)↔(l.form=0∧upf l f<3):=by
 obtain⟨_,_,_,h4,h5,h6⟩:=op_facts l hl
 have hform:=hl.form
 unfold FormIn at h
 unfold upf
 rw[if_pos hj]
 cases hf:far l.word with
 |false=>
  obtain⟨a,b⟩:=h5 hj hf
  rw[a,b]at h
  rw[b]
  split at h <;> split <;> omega
 |true=>
  obtain⟨a,b⟩:=h6 hj hf
  rw[a,b]at h
  rw[b]
  split at h <;> split <;> omega
structure Rel (i:Nat) (r:Rd) (L:List Line):Prop where
 len:r.lines.length=i
 ks:∃ks,Out ks r.lines∧sel ks r.lines=L.map strd∧sel ks (List.range' 1 i)=L.map fun l=>l.no.toNat
 begun:r.begun=decide (L≠[])
 ok:∀l∈L,LineOk l
theorem Out.snoc:∀{ks:List Bool} {ls:List Strd.Line} (b:Bool) (l:Strd.Line),Out ks ls→(b=false→l=emptyLine)→Out (ks++[b]) (ls++[l])
 |[],[],b,l,_,h=>⟨h,trivial⟩
 |[],_::_,_,_,h,_=>h.elim
 |_::_,[],_,_,h,_=>h.elim
 |_::ks,_::ls,b,l,ho,h=>⟨ho.1,Out.snoc b l ho.2 h⟩
theorem sel_snoc {α:Type} (b:Bool) (x:α):∀(ks:List Bool) (xs:List α),ks.length=xs.length→sel (ks++[b]) (xs++[x])=sel ks xs++(if b=true then [x] else [])
 |[],[],_=>by cases b <;> rfl
 |[],_::_,h=>by cases h
 |_::_,[],h=>by cases h
 |true::ks,y::xs,h=>by simp only[List.cons_append,sel];rw[sel_snoc b x ks xs (by simpa using h)]
 |false::ks,y::xs,h=>by simp only[List.cons_append,sel];rw[sel_snoc b x ks xs (by simpa using h)]
theorem rel_has {i:Nat} {r:Rd} {L:List Line} (h:Rel i r L) (n:Bs):hasLabel r.lines n=(n != []&&L.any fun l=>l.label==n):=by
 obtain⟨ks,ho,hs,_⟩:=h.ks
 unfold hasLabel
 cases hn:(n != []) with
 |false=>rfl
 |true=>
  simp only[Bool.true_and]
  rw[Bool.eq_iff_iff,List.any_eq_true,List.any_eq_true]
  constructor
  ·rintro ⟨l,hl,e⟩
   rcases out_mem ks r.lines ho l hl with h1|rfl
   ·rw[hs]at h1
    obtain⟨x,hx,rfl⟩:=List.mem_map.1 h1
    exact⟨x,hx,e⟩
   ·exfalso
    have:n=[]:=by simpa [emptyLine] using e
    rw[this]at hn
    exact absurd hn (by decide)
  ·rintro ⟨l,hl,e⟩
   have:strd l∈sel ks r.lines:=by rw[hs];exact List.mem_map.2 ⟨l,hl,rfl⟩
   exact⟨strd l,sel_mem _ _ _ this,e⟩
def keepL (l:Line):Bool:=l.label != []||l.word != []
def orgOf (l:Line):Int:=(number (ZI l 0)).getD 0
theorem org_num (l:Line) (hl:WfL l) (h:l.word=[111,114,103]):((ins l).oprs.headD ⟨[],0⟩).num=orgOf l∧∃a n,l.texts=[a]∧number a=some n:=by
 rcases hl.shaped with ⟨h1,h2⟩|⟨h1,h2⟩|⟨h1,_⟩|⟨h1,_⟩|⟨h1,_⟩|⟨h1,_⟩|⟨h1,p,n,ht,ha⟩
 ·rw[h]at h1;cases h1
 ·rw[h]at h1;exact absurd h1 (by decide)
 ·rw[h]at h1;exact absurd h1 (by decide)
 ·rw[h]at h1;exact absurd h1 (by decide)
 ·rw[h]at h1;exact absurd h1 (by decide +kernel)
 ·rw[h]at h1;exact absurd h1 (by decide)
 ·have hr:roles (ZX l.word l.form).kind 1=[2]:=by rw[h,QL _ (by decide +kernel),fixed_ops.2.2.2.2.2.2.2.2.2.2];rfl
  rw[ins_one l _ p 2 (by rw[h];decide) rfl ht hr,opr_num ha]
  refine⟨?_,p,n,ht,ha⟩
  unfold orgOf ZI
  rw[ht]
  simp[ha]
theorem add_none (r:Rd) (t:Bs) (no:Int) (h:read t no=none):(add r t).2=1:=by
 unfold add
 rw[read_tie t no,h];rfl
theorem add_twice {i:Nat} {r:Rd} {L:List Line} (hR:Rel i r L) (t:Bs) (no:Int) (l:Line) (h:read t no=some l) (h1:l.label≠[]) (h2:∃x∈L,x.label=l.label):(add r t).2=3:=by
 unfold add
 rw[read_tie t no,h]
 simp only[Option.map_some]
 rw[if_pos]
 show hasLabel r.lines l.label=true
 rw[rel_has hR]
 obtain⟨x,hx,e⟩:=h2
 have:(l.label != [])=true:=by simpa using h1
 rw[this,Bool.true_and,List.any_eq_true]
 exact⟨x,hx,by simpa using e⟩
theorem has_no {i:Nat} {r:Rd} {L:List Line} (hR:Rel i r L) (n:Bs) (h2:n=[]∨∀x∈L,x.label≠n):hasLabel r.lines n=false:=by
 rw[rel_has hR]
 rcases h2 with rfl|h2
 ·rfl
 ·have:(L.any fun l=>l.label==n)=false:=by
   rw[List.any_eq_false]
   intro x hx
   simpa using h2 x hx
  rw[this,Bool.and_false]
theorem add_number {i:Nat} {r:Rd} {L:List Line} (hR:Rel i r L) (t:Bs) (no:Int) (l:Line) (h:read t no=some l) (hw:WfL l) (h2:l.label=[]∨∀x∈L,x.label≠l.label) (h3:numbers l=false):(add r t).2=4:=by
 unfold add
 rw[read_tie t no,h]
 simp only[Option.map_some]
 rw[if_neg (by show ¬hasLabel r.lines l.label=true;rw[has_no hR _ h2];decide),if_pos]
 show Q9 (ins l)=false
 rw[←numbers_tie l hw];exact h3
theorem begun_eq (L:List Line) (l:Line):(decide (L≠[])||(strd l).label != [])=decide (L≠[]∨l.label≠[]):=by
 have:(strd l).label=l.label:=rfl
 rw[this]
 by_cases h1:L=[] <;> by_cases h2:l.label=[] <;> simp[h1,h2]
theorem add_org {i:Nat} {r:Rd} {L:List Line} (hR:Rel i r L) (t:Bs) (no:Int) (l:Line) (h:read t no=some l) (hw:WfL l) (h2:l.label=[]∨∀x∈L,x.label≠l.label) (h3:numbers l=true) (h4:l.word=[111,114,103]) (h5:L≠[]∨l.label≠[]):(add r t).2=5:=by
 unfold add
 rw[read_tie t no,h]
 simp only[Option.map_some]
 rw[if_neg (by show ¬hasLabel r.lines l.label=true;rw[has_no hR _ h2];decide),if_neg (by show ¬Q9 (ins l)=false;rw[←numbers_tie l hw,h3];decide),if_pos]
 refine⟨(op_facts l hw).1.2 h4,?_⟩
 rw[hR.begun,begun_eq]
 simpa using h5
theorem add_step {i:Nat} {r:Rd} {L:List Line} (hR:Rel i r L) (t:Bs) (l:Line) (h:read t ((i:Int)+1)=some l) (hw:WfL l) (hi:i≤4000) (hno:l.no=(i:Int)+1) (h2:l.label=[]∨∀x∈L,x.label≠l.label) (h3:numbers l=true) (h4:l.word=[111,114,103]→L=[]∧l.label=[]) :
  (add r t).2=0∧(add r t).1.org=(if l.word=[111,114,103] then orgOf l else r.org)∧Rel (i+1) (add r t).1 (L++if keepL l=true then [l] else []):=by
 obtain⟨o1,o2,o3,_⟩:=op_facts l hw
 have e:add r t=(⟨if (ins l).op.kind=11 then ((ins l).oprs.headD ⟨[],0⟩).num else r.org,r.lines++[strd l],r.begun||(strd l).label != []||decide ((ins l).op.kind≠0)⟩,0):=by
  unfold add
  rw[read_tie t ((i:Int)+1),h]
  simp only[Option.map_some]
  rw[if_neg (by show ¬hasLabel r.lines l.label=true;rw[has_no hR _ h2];decide),if_neg (by show ¬Q9 (ins l)=false;rw[←numbers_tie l hw,h3];decide),if_neg]
  ·rfl
  ·rintro ⟨a,b⟩
   obtain⟨c,d⟩:=h4 (o1.1 a)
   rw[hR.begun,begun_eq]at b
   simp[c,d]at b
 rw[e]
 refine⟨rfl,?_,?_⟩
 ·simp only
  by_cases hk:l.word=[111,114,103]
  ·rw[if_pos (o1.2 hk),if_pos hk,(org_num l hw hk).1]
  ·rw[if_neg (fun h=>hk (o1.1 h)),if_neg hk]
 ·have hok:LineOk l:=⟨hw,h3,by rw[hno];omega⟩
  have hkeep:keepL l=true↔(l.label≠[]∨l.word≠[]):=by unfold keepL;simp
  obtain⟨ks,ho,hs,hn⟩:=hR.ks
  refine⟨by simp[hR.len],⟨ks++[keepL l],Out.snoc _ _ ho ?_,?_,?_⟩,?_,?_⟩
  ·intro hf
   have hnk:¬(l.label≠[]∨l.word≠[]):=fun h=>by rw[hkeep.2 h]at hf;cases hf
   have e1:l.label=[]:=by
    by_cases h:l.label=[]
    ·exact h
    ·exact(hnk (.inl h)).elim
   have e2:l.word=[]:=by
    by_cases h:l.word=[]
    ·exact h
    ·exact(hnk (.inr h)).elim
   unfold strd
   rw[e1,o3 e2];rfl
  ·rw[sel_snoc _ _ _ _ ho.len,hs]
   split <;> simp
  ·rw[List.range'_concat,sel_snoc _ _ _ _ (by rw[ho.len,hR.len,List.length_range']),hn]
   split
   ·simp only[List.map_append,List.map_cons,List.map_nil,hno]
    congr 2
    omega
   ·simp
  ·simp only
   rw[hR.begun]
   rw[Bool.eq_iff_iff]
   simp only[Bool.or_eq_true,decide_eq_true_eq,bne_iff_ne]
   have hsl:(strd l).label=l.label:=rfl
   rw[hsl]
   constructor
   ·rintro ((h|h)|h)
    ·intro hx;rw[List.append_eq_nil_iff]at hx;exact h hx.1
    ·rw[if_pos (hkeep.2 (.inl h))];simp
    ·rw[if_pos (hkeep.2 (.inr (fun e=>h (o2.2 e))))];simp
   ·intro hx
    by_cases hL:L=[]
    ·by_cases hk:keepL l=true
     ·rcases hkeep.1 hk with h|h
      ·exact .inl (.inr h)
      ·exact .inr (fun e=>h (o2.1 e))
     ·rw[hL,if_neg hk]at hx;exact(hx rfl).elim
    ·exact .inl (.inl hL)
  ·intro x hx
   rcases List.mem_append.1 hx with hx|hx
   ·exact hR.ok x hx
   ·split at hx
    ·rw[List.mem_singleton]at hx;subst hx;exact hok
    ·cases hx
theorem Rel.start:Rel 0 ⟨0,[],false⟩ []:=⟨rfl,⟨[],trivial,rfl,rfl⟩,rfl,fun l h=>by cases h⟩
theorem longer_len (lines:List Strd.Line) (st:List Int):∀(ls:List Strd.Line) (fs as:List Int),fs.length=ls.length→ls.length≤as.length→(longer lines st ls fs as).length=ls.length
 |[],_,_,_,_=>by simp[longer]
 |_::_,[],_,h,_=>by cases h
 |_::_,_::_,[],_,h=>by simp at h
 |l::ls,f::fs,a::as,h1,h2=>by simp[longer,longer_len lines st ls fs as (by simpa using h1) (by simpa using h2)]
theorem longer_idx (lines:List Strd.Line) (st:List Int):∀(ls:List Strd.Line) (fs as:List Int) (k:Nat) (hk:k<ls.length),fs.length=ls.length→ls.length≤as.length →
  (longer lines st ls fs as).getD k 0=if fs.getD k 0<ls[k].ins.op.last∧misses lines st ls[k] (fs.getD k 0) (as.getD k 0)=true then fs.getD k 0+1 else fs.getD k 0
 |[],_,_,_,h,_,_=>by simp at h
 |_::_,[],_,_,_,h,_=>by cases h
 |_::_,_::_,[],_,_,_,h=>by simp at h
 |l::ls,f::fs,a::as,0,_,_,_=>by simp[longer]
 |l::ls,f::fs,a::as,k+1,hk,h1,h2=>by
  have:=longer_idx lines st ls fs as k (by simpa using hk) (by simpa using h1) (by simpa using h2)
  simpa only[longer,List.getD_cons_succ,List.getElem_cons_succ] using this
theorem jumpSize_rng (o:Op) (f:Int):0≤jumpSize o f∧jumpSize o f≤8:=by
 unfold jumpSize
 repeat' split
 all_goals omega
theorem size_rng (l:Line) (hok:LineOk l) (f a:Int):0≤size (ins l) f a∧size (ins l) f a≤1024:=by
 obtain⟨f1,f2,f3,f4,f5,f6,f7,f8,f9,f10,f11⟩:=fixed_ops
 have hl:=hok.wf
 have hnum:=hok.nums
 rcases hl.shaped with ⟨h1,h2⟩|⟨h1,h2⟩|⟨h1,p,q,m,n,ht,ha,hb⟩|⟨h1,p,q,m,n,ht,ha,hb⟩|⟨h1,p,ht,ha⟩|⟨h1,h2,h3,h4⟩|⟨h1,p,n,ht,ha⟩
 ·rw[(op_facts l hl).2.2.1 h1];simp[size,emptyIns]
 ·have ei:ins l=⟨ZX l.word l.form,[]⟩:=by
   unfold ins
   rw[if_neg (by rcases h1 with e|e <;> rw[e] <;> decide),h2];simp
  have hk:(ZX l.word l.form).kind=1:=by
   rcases h1 with e|e
   ·rw[e,QL _ (by decide +kernel),f1]
   ·rw[e,QL _ (by decide +kernel),f2]
  rw[ei]
  have:size ⟨ZX l.word l.form,[]⟩ f a=2:=by
   unfold size
   simp[hk]
  rw[this]
  omega
 ·have key:∀b,ins l=⟨⟨2,b,0,0,0⟩,[opr 0 p,opr 0 q]⟩→0≤size (ins l) f a∧size (ins l) f a≤1024:=by
   intro b e
   rw[e]
   show 0≤(2:Int)∧(2:Int)≤1024
   decide
  rcases h1 with e|e|e|e
  ·exact key _ (Z1 l 2 0x3000 p q 0 0 (by rw[e];decide) (by rw[e,QL _ (by decide +kernel),f3]) ht rfl)
  ·exact key _ (Z1 l 2 0xd040 p q 0 0 (by rw[e];decide) (by rw[e,QL _ (by decide +kernel),f4]) ht rfl)
  ·exact key _ (Z1 l 2 0x9040 p q 0 0 (by rw[e];decide) (by rw[e,QL _ (by decide +kernel),f5]) ht rfl)
  ·exact key _ (Z1 l 2 0xb040 p q 0 0 (by rw[e];decide) (by rw[e,QL _ (by decide +kernel),f6]) ht rfl)
 ·rcases h1 with e|e
  ·rw[Z1 l 3 0x7000 p q 1 0 (by rw[e];decide) (by rw[e,QL _ (by decide +kernel),f7]) ht rfl]
   show 0≤(2:Int)∧(2:Int)≤1024
   decide
  ·rw[Z1 l 4 0x640 p q 1 0 (by rw[e];decide) (by rw[e,QL _ (by decide +kernel),f8]) ht rfl]
   unfold size
   simp only[show ¬((4:Int)=1∨(4:Int)=2∨(4:Int)=3) by decide,if_false,if_true]
   split <;> omega
 ·rw[ins_jump l h1 p ht]
  have hk:=jump_kind l.word h1 l.form
  have hj:=jumpSize_rng (ZX l.word l.form) f
  unfold size
  rcases hk with e|e
  ·simp only[e]
   exact⟨hj.1,by have:=hj.2;exact Int.le_trans this (by decide)⟩
  ·simp only[e]
   exact⟨hj.1,by have:=hj.2;exact Int.le_trans this (by decide)⟩
 ·rw[ins_dc l h1 h2 h3]
  unfold size
  simp only[List.length_map]
  by_cases hw:l.word=[100,99,46,119]
  ·simp only[hw,if_true]
   show 0≤2*(l.texts.length:Int)∧2*(l.texts.length:Int)≤1024
   omega
  ·simp only[hw,if_false]
   show 0≤(l.texts.length:Int)∧(l.texts.length:Int)≤1024
   omega
 ·have hlast:lastNum l.word p=true:=by
   unfold numbers at hnum
   rw[ht]at hnum
   simp only[Bool.and_eq_true]at hnum
   exact hnum.2
  rcases h1 with e|e|e
  ·rw[ins_one l ⟨9,0,0,0,0⟩ p 2 (by rw[e];decide) (by rw[e,QL _ (by decide +kernel),f9]) ht rfl,opr_num ha]
   show 0≤n∧n≤1024
   rw[e]at hlast
   unfold lastNum at hlast
   rw[if_neg (by decide),if_neg (by decide),if_pos rfl,ha]at hlast
   unfold within at hlast
   simpa using hlast
  ·rw[ins_one l ⟨10,0,0,0,0⟩ p 2 (by rw[e];decide) (by rw[e,QL _ (by decide +kernel),f10]) ht rfl,opr_num ha]
   show 0≤(-a) % n∧(-a) % n≤1024
   rw[e]at hlast
   unfold lastNum at hlast
   rw[if_neg (by decide),if_neg (by decide),if_neg (by decide),if_pos rfl,ha]at hlast
   unfold isPow at hlast
   simp only[Option.getD_some,Bool.or_eq_true,beq_iff_eq]at hlast
   rcases hlast with ((((((h|h)|h)|h)|h)|h)|h)|h <;> subst h <;> omega
  ·rw[ins_one l ⟨11,0,0,0,0⟩ p 2 (by rw[e];decide) (by rw[e,QL _ (by decide +kernel),f11]) ht rfl]
   show 0≤(0:Int)∧(0:Int)≤1024
   decide
theorem st_next (org:Int) (L:List Line) (fs:List Int) (hf:fs.length=L.length) (k:Nat) (hk:k<L.length):(starts org (L.map strd) fs).getD (k+1) 0=(starts org (L.map strd) fs).getD k 0+size (ins L[k]) (fs.getD k 0) ((starts org (L.map strd) fs).getD k 0):=by
 have:=st_step org (L.map strd) fs k (by simpa using hk) (by simpa using hf)
 rw[this]
 have e:(L.map strd)[k]'(by simpa using hk)=strd L[k]:=by simp
 have e2:(L.map strd).getD k ⟨[],emptyIns⟩=strd L[k]:=by rw[gD,List.getElem?_map,gE hk];rfl
 first|rfl|(rw[e];rfl)|(simp only[e];rfl)
theorem st_rng (org:Int) (L:List Line) (fs:List Int) (hf:fs.length=L.length) (hok:∀l∈L,LineOk l) (ho:0≤org):∀k,k≤L.length→org≤(starts org (L.map strd) fs).getD k 0∧(starts org (L.map strd) fs).getD k 0≤org+1024*k
 |0,_=>by rw[st_zero];omega
 |k+1,h=>by
  have ih:=st_rng org L fs hf hok ho k (by omega)
  have hs:=size_rng L[k] (hok _ (List.getElem_mem (by omega))) (fs.getD k 0) ((starts org (L.map strd) fs).getD k 0)
  rw[st_next org L fs hf k (by omega)]
  omega
theorem bytes_step (labs:List (Bs×Int)) (org:Int) (L:List Line) (fs:List Int) (hf:fs.length=L.length) (hok:∀l∈L,LineOk l) (hfo:∀k,k<L.length→FormOk (L.getD k dl) (fs.getD k 0)) (k:Nat) (hk:k<L.length) :
  ((bytes labs (L.getD k dl) (upf (L.getD k dl) (fs.getD k 0)) ((starts org (L.map strd) fs).getD k 0)).length:Int)=(starts org (L.map strd) fs).getD (k+1) 0-(starts org (L.map strd) fs).getD k 0:=by
 have hg:L.getD k dl=L[k]:=by rw[gD,gE hk];rfl
 have hff:=hfo k hk
 rw[hg]at hff ⊢
 have hs:=size_rng L[k] (hok _ (List.getElem_mem hk)) (fs.getD k 0) ((starts org (L.map strd) fs).getD k 0)
 rw[bytes_len_tie labs L[k] (hok _ (List.getElem_mem hk)) _ _ hff,st_next org L fs hf k hk]
 omega
theorem img_len (labs:List (Bs×Int)) (org:Int) (L:List Line) (fs:List Int) (hf:fs.length=L.length) (hok:∀l∈L,LineOk l) (hfo:∀k,k<L.length→FormOk (L.getD k dl) (fs.getD k 0)):∀k,k≤L.length→(imgTo labs L fs (starts org (L.map strd) fs) k).length≤1024*k
 |0,_=>by simp[imgTo]
 |k+1,h=>by
  have ih:=img_len labs org L fs hf hok hfo k (by omega)
  have hb:=bytes_step labs org L fs hf hok hfo k (by omega)
  have hs:=size_rng L[k] (hok _ (List.getElem_mem (by omega))) (fs.getD k 0) ((starts org (L.map strd) fs).getD k 0)
  rw[st_next org L fs hf k (by omega)]at hb
  rw[imgTo_succ,List.length_append]
  omega
def missAt (L:List Line) (fs st:List Int) (k:Nat):Bool:=misses (L.map strd) st (strd (L.getD k dl)) (fs.getD k 0) (st.getD k 0)
def moreAt (L:List Line) (fs st:List Int) (k:Nat):Bool:=decide (fs.getD k 0<(ins (L.getD k dl)).op.last)&&missAt L fs st k
def moreTo (L:List Line) (fs st:List Int) (i:Nat):List Nat:=(List.range i).filter (moreAt L fs st)
def missTo (L:List Line) (fs st:List Int) (i:Nat):List Nat:=(List.range i).filter (missAt L fs st)
def badTo (L:List Line) (fs st:List Int) (i:Nat):Int:=match missTo L fs st i with
 |[]=>0
 |j::_=>(L.getD j dl).no
theorem moreTo_succ (L:List Line) (fs st:List Int) (i:Nat):moreTo L fs st (i+1)=moreTo L fs st i++(if moreAt L fs st i=true then [i] else []):=by
 unfold moreTo
 rw[List.range_succ,List.filter_append]
 congr 1
 cases h:moreAt L fs st i <;> simp[h]
theorem missTo_succ (L:List Line) (fs st:List Int) (i:Nat):missTo L fs st (i+1)=missTo L fs st i++(if missAt L fs st i=true then [i] else []):=by
 unfold missTo
 rw[List.range_succ,List.filter_append]
 congr 1
 cases h:missAt L fs st i <;> simp[h]
theorem moreTo_mem (L:List Line) (fs st:List Int) (i k:Nat):k∈moreTo L fs st i↔k<i∧moreAt L fs st k=true:=by
 unfold moreTo
 rw[List.mem_filter,List.mem_range]
theorem moreTo_nodup (L:List Line) (fs st:List Int) (i:Nat):(moreTo L fs st i).Nodup:=by
 have hp:(moreTo L fs st i).Pairwise (·<·):=List.Pairwise.filter _ List.pairwise_lt_range
 exact hp.imp (fun h=>Nat.ne_of_lt h)
theorem moreTo_len (L:List Line) (fs st:List Int) (i:Nat):(moreTo L fs st i).length≤i:=by
 have:=List.length_filter_le (moreAt L fs st) (List.range i)
 rw[List.length_range]at this
 exact this
theorem no_pos (L:List Line) (hok:∀l∈L,LineOk l) (k:Nat) (hk:k<L.length):1≤(L.getD k dl).no:=by
 rw[gD,gE hk]
 exact(hok _ (List.getElem_mem hk)).no.1
theorem badTo_succ (L:List Line) (fs st:List Int) (hok:∀l∈L,LineOk l) (i:Nat) (hi:i<L.length):badTo L fs st (i+1)=if badTo L fs st i=0 then (if missAt L fs st i=true then (L.getD i dl).no else 0) else badTo L fs st i:=by
 unfold badTo
 rw[missTo_succ]
 cases h:missTo L fs st i with
 |nil=>
  rw[if_pos rfl]
  cases hm:missAt L fs st i with
  |true=>rfl
  |false=>rfl
 |cons j t=>
  have hj:j<L.length:=by
   have:j∈missTo L fs st i:=by rw[h];simp
   unfold missTo at this
   rw[List.mem_filter,List.mem_range]at this
   omega
  have:=no_pos L hok j hj
  have hne:¬(L.getD j dl).no=0:=by omega
  show (L.getD j dl).no=if (L.getD j dl).no=0 then _ else (L.getD j dl).no
  rw[if_neg hne]
theorem getD_map (L:List Line) (k:Nat) (hk:k<L.length):(L.map strd)[k]'(by simpa using hk)=strd (L.getD k dl):=by
 rw[gD,gE hk]
 simp
theorem bad_first (L:List Line) (fs st:List Int) (hok:∀l∈L,LineOk l) (hf:fs.length=L.length) (hs:L.length≤st.length):(firstMissN (L.map strd) st (L.map fun l=>l.no.toNat) (L.map strd) fs st:Int)=badTo L fs st L.length:=by
 unfold badTo
 cases h:missTo L fs st L.length with
 |nil=>
  rw[firstMissN_none]
  ·rfl
  ·intro i hi
   have hi':i<L.length:=by simpa using hi
   rw[getD_map L i hi']
   have:i∉missTo L fs st L.length:=by rw[h];simp
   unfold missTo at this
   rw[List.mem_filter,List.mem_range]at this
   cases hm:missAt L fs st i with
   |false=>exact hm
   |true=>exact(this ⟨hi',hm⟩).elim
 |cons j t=>
  have hmem:j∈missTo L fs st L.length:=by rw[h];simp
  have hj:=hmem
  unfold missTo at hj
  rw[List.mem_filter,List.mem_range]at hj
  have hfirst:∀i,i<j→missAt L fs st i=false:=by
   intro i hij
   cases hm:missAt L fs st i with
   |false=>rfl
   |true=>
    exfalso
    have hi:i∈missTo L fs st L.length:=by
     unfold missTo
     rw[List.mem_filter,List.mem_range]
     exact⟨by omega,hm⟩
    have hp:(missTo L fs st L.length).Pairwise (·<·):=List.Pairwise.filter _ List.pairwise_lt_range
    rw[h]at hp hi
    rcases List.mem_cons.1 hi with e|e
    ·omega
    ·have:=(List.pairwise_cons.1 hp).1 i e
     omega
  rw[firstMissN_at (L.map strd) st _ (L.map strd) fs st j (by simpa using hj.1) (by simpa using hj.1) (by omega) (by omega)]
  ·simp only[List.getElem_map]
   have:=no_pos L hok j hj.1
   rw[gD,gE hj.1]at this ⊢
   simp only[Option.getD_some]at this ⊢
   omega
  ·intro i hi hij
   have hi':i<L.length:=by simpa using hi
   rw[getD_map L i hi']
   exact hfirst i hij
  ·rw[getD_map L j hj.1]
   exact hj.2
theorem longer_at (L:List Line) (fs st:List Int) (hf:fs.length=L.length) (hs:L.length≤st.length) (k:Nat) (hk:k<L.length):(longer (L.map strd) st (L.map strd) fs st).getD k 0=if moreAt L fs st k=true then fs.getD k 0+1 else fs.getD k 0:=by
 rw[longer_idx (L.map strd) st (L.map strd) fs st k (by simpa using hk) (by simpa using hf) (by simpa using hs),getD_map L k hk]
 unfold moreAt missAt
 have e:(strd (L.getD k dl)).ins=ins (L.getD k dl):=rfl
 rw[e]
 by_cases h:fs.getD k 0<(ins (L.getD k dl)).op.last∧misses (L.map strd) st (strd (L.getD k dl)) (fs.getD k 0) (st.getD k 0)=true
 ·rw[if_pos h,if_pos (by rw[Bool.and_eq_true,decide_eq_true_eq];exact h)]
 ·rw[if_neg h,if_neg (by rw[Bool.and_eq_true,decide_eq_true_eq];exact h)]
theorem longer_length (L:List Line) (fs st:List Int) (hf:fs.length=L.length) (hs:L.length≤st.length):(longer (L.map strd) st (L.map strd) fs st).length=L.length:=by
 rw[longer_len _ _ _ _ _ (by simpa using hf) (by simpa using hs)];simp
theorem more_none (L:List Line) (fs st:List Int) (hf:fs.length=L.length) (hs:L.length≤st.length):moreTo L fs st L.length=[]↔longer (L.map strd) st (L.map strd) fs st=fs:=by
 have hl:=longer_length L fs st hf hs
 constructor
 ·intro h
  apply List.ext_getElem (by omega)
  intro k h1 h2
  have:=longer_at L fs st hf hs k (by omega)
  have hn:¬moreAt L fs st k=true:=fun hm=>by
   have:k∈moreTo L fs st L.length:=(moreTo_mem L fs st L.length k).2 ⟨by omega,hm⟩
   rw[h]at this;cases this
  rw[if_neg hn,gD,gE h1,gD,gE h2]at this
  exact this
 ·intro h
  rw[List.eq_nil_iff_forall_not_mem]
  intro k hk
  obtain⟨h1,h2⟩:=(moreTo_mem L fs st L.length k).1 hk
  have:=longer_at L fs st hf hs k h1
  rw[h,if_pos h2]at this
  omega
theorem longer_in (L:List Line) (fs st:List Int) (hf:fs.length=L.length) (hs:L.length≤st.length) (hin:∀k,k<L.length→FormIn (L.getD k dl) (fs.getD k 0)):∀k,k<L.length→FormIn (L.getD k dl) ((longer (L.map strd) st (L.map strd) fs st).getD k 0):=by
 intro k hk
 rw[longer_at L fs st hf hs k hk]
 have h:=hin k hk
 unfold FormIn at h ⊢
 split
 ·rename_i hm
  unfold moreAt at hm
  simp only[Bool.and_eq_true,decide_eq_true_eq]at hm
  omega
 ·exact h
theorem settle_round (org:Int) (L:List Line) (fs:List Int) (m:Nat):settle org (L.map strd) (m+1) fs=if longer (L.map strd) (starts org (L.map strd) fs) (L.map strd) fs (starts org (L.map strd) fs)=fs then fs else settle org (L.map strd) m (longer (L.map strd) (starts org (L.map strd) fs) (L.map strd) fs (starts org (L.map strd) fs)):=rfl
def placesOp (w:Bs):Bool:=QN w||dcOp w
def knownT (L:List Line) (t:Bs):Bool:=(number t).isSome||L.any fun l=>l.label==t
def badT (L:List Line) (l:Line):Bool:=placesOp l.word&&l.texts.any fun t=>!knownT L t
def overT (labs:List (Bs×Int)) (l:Line):Bool:=dcOp l.word&&l.texts.any fun t=>!holds l.word (toN labs t)
theorem oprs_plain (l:Line) (hl:WfL l) (hk:placesOp l.word=false):∀o∈(ins l).oprs,o.name=[]:=by
 obtain⟨f1,f2,f3,f4,f5,f6,f7,f8,f9,f10,f11⟩:=fixed_ops
 rcases hl.shaped with ⟨h1,h2⟩|⟨h1,h2⟩|⟨h1,p,q,m,n,ht,ha,hb⟩|⟨h1,p,q,m,n,ht,ha,hb⟩|⟨h1,p,ht,ha⟩|⟨h1,h2,h3,h4⟩|⟨h1,p,n,ht,ha⟩
 ·unfold ins;rw[h1];intro o ho;cases ho
 ·have:(ins l).oprs=[]:=by
   unfold ins
   split
   ·rfl
   ·rw[h2];simp
  rw[this];intro o ho;cases ho
 ·have key:∀b,ins l=⟨⟨2,b,0,0,0⟩,[opr 0 p,opr 0 q]⟩→∀o∈(ins l).oprs,o.name=[]:=by
   intro b e
   rw[e,opr_reg ha,opr_reg hb]
   intro o ho
   simp at ho
   rcases ho with rfl|rfl <;> rfl
  rcases h1 with e|e|e|e
  ·exact key _ (Z1 l 2 0x3000 p q 0 0 (by rw[e];decide) (by rw[e,QL _ (by decide +kernel),f3]) ht rfl)
  ·exact key _ (Z1 l 2 0xd040 p q 0 0 (by rw[e];decide) (by rw[e,QL _ (by decide +kernel),f4]) ht rfl)
  ·exact key _ (Z1 l 2 0x9040 p q 0 0 (by rw[e];decide) (by rw[e,QL _ (by decide +kernel),f5]) ht rfl)
  ·exact key _ (Z1 l 2 0xb040 p q 0 0 (by rw[e];decide) (by rw[e,QL _ (by decide +kernel),f6]) ht rfl)
 ·have key:∀k b,ins l=⟨⟨k,b,0,0,0⟩,[opr 1 p,opr 0 q]⟩→∀o∈(ins l).oprs,o.name=[]:=by
   intro k b e
   rw[e,opr_val ha,opr_reg hb]
   intro o ho
   simp at ho
   rcases ho with rfl|rfl <;> rfl
  rcases h1 with e|e
  ·exact key _ _ (Z1 l 3 0x7000 p q 1 0 (by rw[e];decide) (by rw[e,QL _ (by decide +kernel),f7]) ht rfl)
  ·exact key _ _ (Z1 l 4 0x640 p q 1 0 (by rw[e];decide) (by rw[e,QL _ (by decide +kernel),f8]) ht rfl)
 ·exfalso
  unfold placesOp at hk
  rw[(isJump_mem _).2 h1,Bool.true_or]at hk;cases hk
 ·exfalso
  unfold placesOp at hk
  rw[h1,Bool.or_true]at hk;cases hk
 ·have key:∀k,ins l=⟨⟨k,0,0,0,0⟩,[opr 2 p]⟩→∀o∈(ins l).oprs,o.name=[]:=by
   intro k e
   rw[e,opr_num ha]
   intro o ho
   simp at ho
   subst ho;rfl
  rcases h1 with e|e|e
  ·exact key 9 (ins_one l ⟨9,0,0,0,0⟩ p 2 (by rw[e];decide) (by rw[e,QL _ (by decide +kernel),f9]) ht rfl)
  ·exact key 10 (ins_one l ⟨10,0,0,0,0⟩ p 2 (by rw[e];decide) (by rw[e,QL _ (by decide +kernel),f10]) ht rfl)
  ·exact key 11 (ins_one l ⟨11,0,0,0,0⟩ p 2 (by rw[e];decide) (by rw[e,QL _ (by decide +kernel),f11]) ht rfl)
theorem dc_shape (l:Line) (hl:WfL l) (hd:dcOp l.word=true):1≤l.texts.length∧l.texts.length≤8∧∀t∈l.texts,placeT t=true:=by
 rcases hl.shaped with ⟨h1,h2⟩|⟨h1,h2⟩|⟨h1,_⟩|⟨h1,_⟩|⟨h1,_⟩|⟨h1,h2,h3,h4⟩|⟨h1,_⟩
 ·rw[h1]at hd;exact absurd hd (by decide)
 ·rcases h1 with h|h <;> rw[h]at hd <;> exact absurd hd (by decide)
 ·rcases h1 with h|h|h|h <;> rw[h]at hd <;> exact absurd hd (by decide)
 ·rcases h1 with h|h <;> rw[h]at hd <;> exact absurd hd (by decide)
 ·have:=(numbers_jump l.word h1).2.1
  rw[this]at hd;cases hd
 ·exact⟨h2,h3,h4⟩
 ·rcases h1 with h|h|h <;> rw[h]at hd <;> exact absurd hd (by decide)
theorem places_oprs (l:Line) (hl:WfL l) (hk:placesOp l.word=true):(ins l).oprs=l.texts.map (opr 3)∧∀t∈l.texts,placeT t=true:=by
 unfold placesOp at hk
 cases hj:QN l.word with
 |true=>
  obtain⟨p,ht,hp,hi⟩:=jump_shape l hl hj
  rw[hi,ht]
  exact⟨rfl,fun t h=>by rw[List.mem_singleton]at h;subst h;exact hp⟩
 |false=>
  rw[hj,Bool.false_or]at hk
  obtain⟨h1,h2,h3⟩:=dc_shape l hl hk
  rw[ins_dc l hk h1 h2]
  exact⟨rfl,h3⟩
theorem known_tie (L:List Line) (t:Bs) (hp:placeT t=true):known (L.map strd) (opr 3 t).name=knownT L t:=by
 unfold known knownT
 rcases opr_place hp with ⟨h1,h2,h3⟩|⟨n,h1,h2,h3⟩
 ·rw[h3,h2]
  have hne:(t==[])=false:=by
   cases t with
   |nil=>exact absurd h1 (by decide)
   |cons=>rfl
  simp only[hne,Bool.false_or,Option.isSome_none,List.any_map]
  rfl
 ·rw[h3,h1];rfl
theorem bad_tie (L:List Line) (l:Line) (hl:WfL l):badL (L.map strd) (strd l)=badT L l:=by
 unfold badL badT
 have e:(strd l).ins=ins l:=rfl
 rw[e]
 cases hk:placesOp l.word with
 |false=>
  rw[Bool.false_and,List.any_eq_false]
  intro o ho
  rw[oprs_plain l hl hk o ho]
  unfold known;simp
 |true=>
  obtain⟨h1,h2⟩:=places_oprs l hl hk
  rw[h1,Bool.true_and,List.any_map]
  rw[Bool.eq_iff_iff,List.any_eq_true,List.any_eq_true]
  constructor
  ·rintro ⟨t,ht,h⟩;exact⟨t,ht,by rw[←known_tie L t (h2 t ht)];exact h⟩
  ·rintro ⟨t,ht,h⟩;exact⟨t,ht,by show (!known (L.map strd) (opr 3 t).name)=true;rw[known_tie L t (h2 t ht)];exact h⟩
theorem kind_bare (l:Line) (hl:WfL l) (h:dcOp l.word=false) (hj:QN l.word=false):placesOp l.word=false:=by
 unfold placesOp;rw[h,hj];rfl
theorem over_tie (L:List Line) (st:List Int) (l:Line) (hok:LineOk l) (hnb:badT L l=false):overflows (L.map strd) st (strd l)=overT (labsTo L st L.length) l:=by
 have hl:=hok.wf
 unfold overflows overT
 have e:(strd l).ins=ins l:=rfl
 rw[e]
 cases hd:dcOp l.word with
 |false=>
  rw[Bool.false_and,List.any_eq_false]
  intro o ho
  cases hj:QN l.word with
  |false=>
   rw[oprs_plain l hl (kind_bare l hl hd hj) o ho];simp
  |true=>
   have hk:=(kind_isJump l hl).1
   rw[hj]at hk
   unfold Strd.QN at hk
   have ha:∀n,allows (ins l).op.kind n=true:=by
    intro n
    unfold allows
    simp only[Bool.or_eq_true,beq_iff_eq]at hk
    rcases hk with h|h <;> rw[h] <;> rfl
   rw[ha];simp
 |true=>
  obtain⟨h1,h8,hp⟩:=dc_shape l hl hd
  have hk:∀t∈l.texts,knownT L t=true:=by
   intro t ht
   unfold badT placesOp at hnb
   rw[hd,Bool.or_true,Bool.true_and,List.any_eq_false]at hnb
   have:=hnb t ht
   simpa using this
  have hi:=ins_dc l hd h1 h8
  rw[hi,Bool.true_and]
  simp only[List.any_map]
  have hnum:=hok.nums
  unfold numbers at hnum
  rw[Bool.and_eq_true,List.all_eq_true]at hnum
  have hall:∀n,allows (if l.word=[100,99,46,119] then 7 else 8) n=holds l.word n:=by
   intro n
   unfold holds allows
   split <;> rfl
  rw[Bool.eq_iff_iff,List.any_eq_true,List.any_eq_true]
  have key:∀t∈l.texts,(decide ((opr 3 t).name≠[])&&!allows (if l.word=[100,99,46,119] then 7 else 8) (Q7 (L.map strd) st (opr 3 t)))=!holds l.word (toN (labsTo L st L.length) t):=by
   intro t ht
   rw[hall,toN_tie _ t (hp t ht),numIn_tie L st (opr 3 t) (by rw[known_tie L t (hp t ht)];exact hk t ht)]
   rcases opr_place (hp t ht) with ⟨a,b,c⟩|⟨n,a,b,c⟩
   ·rw[c]
    have hne:t≠[]:=by rintro rfl;exact absurd a (by decide)
    simp[hne]
   ·have hh:=hnum.1 t ht
    rw[c]
    have hv:Q7 (L.map strd) st ⟨[],n⟩=n:=by unfold Q7;rw[if_pos rfl]
    rw[hv]
    have hT:holds l.word n=true:=by
     unfold numbersT at hh
     rw[a]at hh
     rcases dc_cases hd with e|e
     ·rw[e]at hh ⊢;first|simpa [dcOp,regsOp,two] using hh|(revert hh;simp[dcOp,regsOp,two])
     ·rw[e]at hh ⊢;first|simpa [dcOp,regsOp,two] using hh|(revert hh;simp[dcOp,regsOp,two])
    rw[hT];simp
  constructor
  ·rintro ⟨t,ht,h⟩
   exact⟨t,ht,by rw[←key t ht];exact h⟩
  ·rintro ⟨t,ht,h⟩
   exact⟨t,ht,by rw[←key t ht]at h;exact h⟩
theorem rel_range {i:Nat} {r:Rd} {L:List Line} (h:Rel i r L):∀l∈r.lines,0≤l.ins.op.first∧l.ins.op.last≤2:=by
 obtain⟨ks,ho,hs,_⟩:=h.ks
 intro l hl
 rcases out_mem ks r.lines ho l hl with h1|rfl
 ·rw[hs]at h1
  obtain⟨x,hx,rfl⟩:=List.mem_map.1 h1
  have:=op_range x (h.ok x hx).wf
  exact⟨this.1,this.2.1⟩
 ·exact⟨by decide,by decide⟩
theorem settle_in (org:Int) (L:List Line):∀(m:Nat) (fs:List Int),fs.length=L.length→(∀k,k<L.length→FormIn (L.getD k dl) (fs.getD k 0))→(settle org (L.map strd) m fs).length=L.length∧∀k,k<L.length→FormIn (L.getD k dl) ((settle org (L.map strd) m fs).getD k 0)
 |0,fs,hf,hin=>⟨hf,hin⟩
 |m+1,fs,hf,hin=>by
  have hs:L.length≤(starts org (L.map strd) fs).length:=by rw[st_len _ _ _ (by simpa using hf)];simp
  rw[settle_round]
  split
  ·exact⟨hf,hin⟩
  ·exact settle_in org L m _ (longer_length L fs _ hf hs) (longer_in L fs _ hf hs hin)
theorem first_in (L:List Line) (hok:∀l∈L,LineOk l):(Q5 (L.map strd)).length=L.length∧∀k,k<L.length→FormIn (L.getD k dl) ((Q5 (L.map strd)).getD k 0):=by
 refine⟨by simp[Q5],fun k hk=>?_⟩
 have hg:L.getD k dl=L[k]:=by rw[gD,gE hk];rfl
 have hg2:(Q5 (L.map strd)).getD k 0=(ins L[k]).op.first:=by
  unfold Q5
  rw[gD,List.getElem?_map,List.getElem?_map,gE hk];rfl
 rw[hg,hg2]
 have:=op_range L[k] (hok _ (List.getElem_mem hk)).wf
 exact⟨Int.le_refl _,this.2.2.1⟩
theorem lay_in (org:Int) (L:List Line) (hok:∀l∈L,LineOk l):(QJ org (L.map strd)).length=L.length∧∀k,k<L.length→FormIn (L.getD k dl) ((QJ org (L.map strd)).getD k 0):=by
 obtain⟨a,b⟩:=first_in L hok
 unfold QJ
 exact settle_in org L _ _ a b
def stL (org:Int) (L:List Line):List Int:=starts org (L.map strd) (QJ org (L.map strd))
def badN (L:List Line):Nat:=firstN (badT L) (L.map fun l=>l.no.toNat) L
def missN (org:Int) (L:List Line):Int:=badTo L (QJ org (L.map strd)) (stL org L) L.length
def overN (org:Int) (L:List Line):Nat:=firstN (overT (labsTo L (stL org L) L.length)) (L.map fun l=>l.no.toNat) L
theorem firstN_map {α β:Type} (f:α→β) (p:β→Bool) (q:α→Bool):∀(ms:List Nat) (ls:List α),(∀l∈ls,p (f l)=q l)→firstN p ms (ls.map f)=firstN q ms ls
 |[],ls,_=>by cases ls <;> rfl
 |_::_,[],_=>rfl
 |m::ms,l::ls,h=>by
  rw[List.map_cons,firstN,firstN,h l (by simp),firstN_map f p q ms ls (fun x hx=>h x (by simp[hx]))]
theorem firstN_pos {α:Type} (p:α→Bool):∀(ms:List Nat) (ls:List α),ms.length=ls.length→(∀m∈ms,0<m)→firstN p ms ls=0→∀l∈ls,p l=false
 |[],[],_,_,_,l,h=>by cases h
 |[],_::_,h,_,_,_,_=>by cases h
 |_::_,[],h,_,_,_,_=>by cases h
 |m::ms,x::ls,h1,h2,h3,l,hl=>by
  rw[firstN]at h3
  have hm:=h2 m (by simp)
  cases hx:p x with
  |true=>rw[hx,if_pos rfl]at h3;omega
  |false=>
   rw[hx,if_neg (by decide)]at h3
   rcases List.mem_cons.1 hl with rfl|hl
   ·exact hx
   ·exact firstN_pos p ms ls (by simpa using h1) (fun m hm=>h2 m (by simp[hm])) h3 l hl
theorem asm_ref (s:Bs) (r:Rd) (L:List Line) (n:Nat) (hr:QM s=(r,0,0)) (hR:Rel n r L) :
  assemble s=if 0<badN L then ((0,[]),badN L,2) else if 0<missN r.org L then ((0,[]),(missN r.org L).toNat,6) else if 0<overN r.org L then ((0,[]),overN r.org L,4) else if (stL r.org L).getD L.length 0-1 > 0xfffffe then ((0,[]),0,7) else ((r.org,imgTo (labsTo L (stL r.org L) L.length) L (QJ r.org (L.map strd)) (stL r.org L) L.length),0,0):=by
 obtain⟨ks,ho,hs,hn⟩:=hR.ks
 obtain⟨h1,h2,h3,h4⟩:=lay_sel r.org ks r.lines ho (rel_range hR) (L.map strd) hs (L.map fun l=>l.no.toNat) (by rw[hR.len];exact hn)
 obtain⟨fl,fin⟩:=lay_in r.org L hR.ok
 have hsl:L.length≤(stL r.org L).length:=by unfold stL;rw[st_len _ _ _ (by simpa using fl)];simp
 have hnp:∀m∈(L.map fun l=>l.no.toNat),0<m:=by
  intro m hm
  obtain⟨l,hl,rfl⟩:=List.mem_map.1 hm
  have:=(hR.ok l hl).no
  omega
 have eB:firstN (badL (L.map strd)) (L.map fun l=>l.no.toNat) (L.map strd)=badN L:=firstN_map strd _ _ _ _ (fun l hl=>bad_tie L l (hR.ok l hl).wf)
 have eM:(firstMissN (L.map strd) (starts r.org (L.map strd) (QJ r.org (L.map strd))) (L.map fun l=>l.no.toNat) (L.map strd) (QJ r.org (L.map strd)) (starts r.org (L.map strd) (QJ r.org (L.map strd))):Int)=missN r.org L:=bad_first L _ _ hR.ok fl hsl
 have eM2:firstMissN (L.map strd) (starts r.org (L.map strd) (QJ r.org (L.map strd))) (L.map fun l=>l.no.toNat) (L.map strd) (QJ r.org (L.map strd)) (starts r.org (L.map strd) (QJ r.org (L.map strd)))=(missN r.org L).toNat:=by omega
 rw[eB,eM2]at h1
 have ha:assemble s=if (lay r.org r.lines).2.2≠0 then ((0,[]),(lay r.org r.lines).2.1,(lay r.org r.lines).2.2) else ((r.org,image r.lines (lay r.org r.lines).1.2 r.lines (lay r.org r.lines).1.1 (lay r.org r.lines).1.2),0,0):=by
  unfold assemble
  rw[hr]
  simp
 by_cases hb:0<badN L
 ·rw[if_pos hb]at h1 ⊢
  rw[ha,h1];simp
 ·rw[if_neg hb]at h1 ⊢
  have hnb:∀l∈L,badT L l=false:=firstN_pos (badT L) _ _ (by simp) hnp (by show badN L=0;omega)
  have eO:firstN (overflows (L.map strd) (starts r.org (L.map strd) (QJ r.org (L.map strd)))) (L.map fun l=>l.no.toNat) (L.map strd)=overN r.org L:=firstN_map strd _ _ _ _ (fun l hl=>over_tie L _ l (hR.ok l hl) (hnb l hl))
  rw[eO]at h1
  by_cases hm:0<missN r.org L
  ·rw[if_pos (by omega)]at h1
   rw[if_pos hm,ha,h1];simp
  ·rw[if_neg (by omega)]at h1
   rw[if_neg hm]
   by_cases hv:0<overN r.org L
   ·rw[if_pos hv]at h1 ⊢
    rw[ha,h1];simp
   ·rw[if_neg hv]at h1 ⊢
    rw[List.length_map]at h1
    by_cases he:(stL r.org L).getD L.length 0-1 > 0xfffffe
    ·rw[if_pos he]
     unfold stL at he
     rw[if_pos he]at h1
     rw[ha,h1];simp
    ·rw[if_neg he]
     unfold stL at he
     rw[if_neg he]at h1
     have hlay:(lay r.org r.lines).1=(QJ r.org r.lines,starts r.org r.lines (QJ r.org r.lines)):=by
      revert h1
      unfold lay
      split
      ·intro h;simp at h
      ·simp only
       split
       ·intro h;simp at h
       ·split
        ·intro h;simp at h
        ·split
         ·intro h;simp at h
         ·intro _;rfl
     rw[ha,h1]
     simp only[ne_eq,not_true_eq_false,if_false]
     rw[hlay]
     simp only
     rw[h2,imgTo_image L _ _ hR.ok (fun k hk=>(fin k hk).ok (by
      have hg:L.getD k dl=L[k]:=by rw[gD,gE hk];rfl
      rw[hg];exact(hR.ok _ (List.getElem_mem hk)).wf)) (fun l hl o ho=>?_) fl hsl]
     ·rfl
     ·have hb2:=hnb l hl
      rw[←bad_tie L l (hR.ok l hl).wf]at hb2
      unfold badL at hb2
      rw[List.any_eq_false]at hb2
      have:=hb2 o ho
      simpa using this
def aboveB (last:Option Bs) (x:Bs):Bool:=match last with
 |none=>true
 |some y=>decide (y<x)
def nameAt (xs:List (Bs×Int)) (k:Int):Bs:=(xs.getD k.toNat ([],0)).1
def bestTo (xs:List (Bs×Int)) (last:Option Bs):Nat→Int
 |0=>-1
 |i+1=>if aboveB last (nameAt xs i)=true∧(bestTo xs last i<0∨nameAt xs i<nameAt xs (bestTo xs last i)) then i else bestTo xs last i
theorem best_spec (xs:List (Bs×Int)) (last:Option Bs):∀i,(bestTo xs last i=-1∧∀j:Nat,j<i→aboveB last (nameAt xs j)=false)∨(∃b:Nat,bestTo xs last i=b∧b<i∧aboveB last (nameAt xs b)=true∧∀j:Nat,j<i→aboveB last (nameAt xs j)=true→nameAt xs b≤nameAt xs j)
 |0=>.inl ⟨rfl,fun j h=>by omega⟩
 |i+1=>by
  rw[bestTo]
  rcases best_spec xs last i with ⟨h1,h2⟩|⟨b,h1,h2,h3,h4⟩
  ·rw[h1]
   cases ha:aboveB last (nameAt xs i) with
   |true=>
    rw[if_pos ⟨rfl,.inl (by omega)⟩]
    refine .inr ⟨i,rfl,by omega,ha,fun j hj hja=>?_⟩
    rcases Nat.lt_succ_iff_lt_or_eq.1 hj with h|h
    ·rw[h2 j h]at hja;cases hja
    ·subst h;exact List.le_refl _
   |false=>
    rw[if_neg (by rintro ⟨h,_⟩;cases h)]
    refine .inl ⟨rfl,fun j hj=>?_⟩
    rcases Nat.lt_succ_iff_lt_or_eq.1 hj with h|h
    ·exact h2 j h
    ·subst h;exact ha
  ·rw[h1]
   by_cases hc:aboveB last (nameAt xs i)=true∧((b:Int)<0∨nameAt xs i<nameAt xs b)
   ·rw[if_pos hc]
    have hlt:nameAt xs i<nameAt xs b:=hc.2.resolve_left (by omega)
    refine .inr ⟨i,rfl,by omega,hc.1,fun j hj hja=>?_⟩
    rcases Nat.lt_succ_iff_lt_or_eq.1 hj with h|h
    ·exact List.le_trans (List.le_of_lt hlt) (h4 j h hja)
    ·subst h;exact List.le_refl _
   ·rw[if_neg hc]
    refine .inr ⟨b,rfl,by omega,h3,fun j hj hja=>?_⟩
    rcases Nat.lt_succ_iff_lt_or_eq.1 hj with h|h
    ·exact h4 j h hja
    ·subst h
     have:¬nameAt xs j<nameAt xs b:=fun h=>hc ⟨hja,.inr h⟩
     exact List.not_lt.1 this
def lastOf (S:List (Bs×Int)) (k:Nat):Option Bs:=if k=0 then none else some (nameAt S ((k:Int)-1))
theorem nameAt_get (S:List (Bs×Int)) (k:Nat) (h:k<S.length):nameAt S k=S[k].1:=by
 unfold nameAt
 rw[Int.toNat_natCast,gD,gE h];rfl
theorem best_is (xs S:List (Bs×Int)) (hp:S.Perm xs) (hs:S.Pairwise fun a b=>a.1<b.1) (k:Nat) (hk:k<S.length):∃b:Nat,∃h:b<xs.length,bestTo xs (lastOf S k) xs.length=b∧xs[b]=S[k]:=by
 have hab:∀j (hj:j<S.length),aboveB (lastOf S k) S[j].1=decide (k≤j):=by
  intro j hj
  unfold lastOf
  by_cases h0:k=0
  ·rw[if_pos h0];subst h0;simp[aboveB]
  ·rw[if_neg h0]
   have e:((k:Int)-1)=((k-1:Nat):Int):=by omega
   rw[e,nameAt_get S (k-1) (by omega)]
   show decide (S[k-1].1<S[j].1)=decide (k≤j)
   by_cases hkj:k≤j
   ·have:=(List.pairwise_iff_getElem.1 hs) (k-1) j (by omega) hj (by omega)
    simp[hkj,this]
   ·have hle:¬S[k-1].1<S[j].1:=by
     by_cases hjk:j=k-1
     ·subst hjk;exact List.lt_irrefl _
     ·have:=(List.pairwise_iff_getElem.1 hs) j (k-1) hj (by omega) (by omega)
      exact fun h=>List.lt_asymm this h
    simp[hkj,hle]
 obtain⟨m,hm,hme⟩:=List.mem_iff_getElem.1 (hp.mem_iff.1 (List.getElem_mem hk))
 rcases best_spec xs (lastOf S k) xs.length with ⟨h1,h2⟩|⟨b,h1,h2,h3,h4⟩
 ·have:=h2 m hm
  rw[nameAt_get xs m hm,hme,hab k hk]at this
  simp at this
 ·refine⟨b,h2,h1,?_⟩
  obtain⟨j,hj,hje⟩:=List.mem_iff_getElem.1 (hp.mem_iff.2 (List.getElem_mem h2))
  rw[nameAt_get xs b h2,←hje,hab j hj,decide_eq_true_eq]at h3
  have hle:=h4 m hm (by rw[nameAt_get xs m hm,hme,hab k hk];simp)
  rw[nameAt_get xs m hm,hme,nameAt_get xs b h2,←hje]at hle
  have:j=k:=by
   by_cases e:j=k
   ·exact e
   ·have:=(List.pairwise_iff_getElem.1 hs) k j hk hj (by omega)
    exact(List.not_lt.2 hle this).elim
  subst this
  exact hje.symm
def incs (F:List Int) (ks:List Nat):List Int:=ks.foldl (fun F k=>F.set k (F.getD k 0+1)) F
theorem incs_len:∀(ks:List Nat) (F:List Int),(incs F ks).length=F.length
 |[],_=>rfl
 |k::ks,F=>by
  show (incs (F.set k (F.getD k 0+1)) ks).length=_
  rw[incs_len ks];simp
theorem incs_step (F:List Int) (ks:List Nat) (i:Nat) (h:i<ks.length):incs F (ks.take (i+1))=(incs F (ks.take i)).set ks[i] ((incs F (ks.take i)).getD ks[i] 0+1):=by
 unfold incs
 rw[List.take_add_one,gE h,List.foldl_append]
 rfl
theorem incs_get:∀(ks:List Nat) (F:List Int) (k:Nat),ks.Nodup→k<F.length→(incs F ks).getD k 0=if k∈ks then F.getD k 0+1 else F.getD k 0
 |[],F,k,_,_=>by simp[incs]
 |j::ks,F,k,hn,hk=>by
  show (incs (F.set j (F.getD j 0+1)) ks).getD k 0=_
  rw[List.nodup_cons]at hn
  rw[incs_get ks _ k hn.2 (by simpa using hk)]
  by_cases e:k=j
  ·subst e
   rw[if_neg hn.1,if_pos (by simp)]
   rw[gD,List.getElem?_set_self hk];rfl
  ·have hs:(F.set j (F.getD j 0+1)).getD k 0=F.getD k 0:=by
    rw[gD,List.getElem?_set_ne (fun h=>e h.symm),gD]
   rw[hs]
   simp[e]
theorem up_get (L:List Line) (fs:List Int) (hf:fs.length=L.length) (k:Nat) (hk:k<L.length):(List.zipWith upf L fs).getD k 0=upf (L.getD k dl) (fs.getD k 0):=by
 rw[gD,gE (by rw[List.length_zipWith];omega),Option.getD_some,List.getElem_zipWith,gD,gE hk,gD,gE (by omega)]
 rfl
theorem miss_jump (L:List Line) (fs st:List Int) (hok:∀l∈L,LineOk l) (k:Nat) (hk:k<L.length) (h:missAt L fs st k=true):QN (L.getD k dl).word=true:=by
 have hg:L.getD k dl=L[k]:=by rw[gD,gE hk];rfl
 unfold missAt misses at h
 rw[hg]at h ⊢
 rw[Bool.and_eq_true]at h
 rw[←(kind_isJump L[k] (hok _ (List.getElem_mem hk)).wf).1]
 exact h.1
theorem incs_all (L:List Line) (fs st:List Int) (hok:∀l∈L,LineOk l) (hf:fs.length=L.length) (hs:L.length≤st.length):incs (List.zipWith upf L fs) (moreTo L fs st L.length)=List.zipWith upf L (longer (L.map strd) st (L.map strd) fs st):=by
 have hl:=longer_length L fs st hf hs
 have hz:(List.zipWith upf L fs).length=L.length:=by rw[List.length_zipWith];omega
 apply List.ext_getElem
 ·rw[incs_len,hz,List.length_zipWith];omega
 ·intro k h1 h2
  rw[incs_len,hz]at h1
  have e1:=incs_get (moreTo L fs st L.length) (List.zipWith upf L fs) k (moreTo_nodup L fs st L.length) (by omega)
  have e2:=up_get L (longer (L.map strd) st (L.map strd) fs st) hl k h1
  rw[longer_at L fs st hf hs k h1]at e2
  have e3:=up_get L fs hf k h1
  have g1:(incs (List.zipWith upf L fs) (moreTo L fs st L.length)).getD k 0=(incs (List.zipWith upf L fs) (moreTo L fs st L.length))[k]'(by rw[incs_len,hz];exact h1):=by
   rw[gD,gE (by rw[incs_len,hz];exact h1)];rfl
  have g2:(List.zipWith upf L (longer (L.map strd) st (L.map strd) fs st)).getD k 0=(List.zipWith upf L (longer (L.map strd) st (L.map strd) fs st))[k]'h2:=by
   rw[gD,gE h2];rfl
  rw[←g1,←g2,e1,e2,e3]
  have hm:=moreTo_mem L fs st L.length k
  by_cases hk:moreAt L fs st k=true
  ·rw[if_pos (hm.2 ⟨h1,hk⟩),if_pos hk]
   have hmiss:missAt L fs st k=true:=by
    unfold moreAt at hk
    rw[Bool.and_eq_true]at hk;exact hk.2
   have hj:=miss_jump L fs st hok k h1 hmiss
   unfold upf
   rw[if_pos hj,if_pos hj]
  ·rw[if_neg (fun h=>hk (hm.1 h).2),if_neg hk]
theorem inc_small (L:List Line) (fs st:List Int) (hok:∀l∈L,LineOk l) (hf:fs.length=L.length) (hin:∀k,k<L.length→FormIn (L.getD k dl) (fs.getD k 0)) (i:Nat) (hi:i<(moreTo L fs st L.length).length):(moreTo L fs st L.length)[i]<L.length∧0≤(incs (List.zipWith upf L fs) ((moreTo L fs st L.length).take i)).getD (moreTo L fs st L.length)[i] 0∧(incs (List.zipWith upf L fs) ((moreTo L fs st L.length).take i)).getD (moreTo L fs st L.length)[i] 0≤2:=by
 have hm:=(moreTo_mem L fs st L.length (moreTo L fs st L.length)[i]).1 (List.getElem_mem hi)
 refine⟨hm.1,?_⟩
 have hnd:=moreTo_nodup L fs st L.length
 have hz:(List.zipWith upf L fs).length=L.length:=by rw[List.length_zipWith];omega
 rw[incs_get _ _ _ ((List.take_sublist _ _).nodup hnd) (by rw[hz];exact hm.1)]
 have hnot:(moreTo L fs st L.length)[i]∉(moreTo L fs st L.length).take i:=by
  intro hmem
  obtain⟨j,hj,e⟩:=List.mem_iff_getElem.1 hmem
  rw[List.getElem_take]at e
  rw[List.length_take]at hj
  have:=(List.pairwise_iff_getElem.1 hnd) j i (by omega) hi (by omega)
  exact this e
 rw[if_neg hnot,up_get L fs hf _ hm.1]
 have hmore:=hm.2
 unfold moreAt at hmore
 rw[Bool.and_eq_true,decide_eq_true_eq]at hmore
 have hj:=miss_jump L fs st hok _ hm.1 hmore.2
 have hg:L.getD (moreTo L fs st L.length)[i] dl=L[(moreTo L fs st L.length)[i]]:=by rw[gD,gE hm.1];rfl
 have hfi:=hin _ hm.1
 have hr:=op_range _ (hok _ (List.getElem_mem hm.1)).wf
 unfold upf
 rw[if_pos hj]
 unfold FormIn at hfi
 rw[hg]at hfi hmore
 omega
theorem digits_rng (base:Nat) (hb:base≤16):∀(s:Bs) (acc v:Nat),QY base acc s=some v→v<(acc+1)*16^s.length
 |[],acc,v,h=>by
  simp only[QY,Option.some.injEq]at h
  subst h;simp
 |c::t,acc,v,h=>by
  rw[QY]at h
  split at h
  ·rename_i hd
   have:=digits_rng base hb t _ v h
   have h0:acc*base≤acc*16:=Nat.mul_le_mul_left _ hb
   have h2:(acc*base+digitVal c+1)*16^t.length≤((acc+1)*16)*16^t.length:=Nat.mul_le_mul_right _ (by omega)
   rw[List.length_cons,Nat.pow_succ]
   calc v<(acc*base+digitVal c+1)*16^t.length:=this
    _≤((acc+1)*16)*16^t.length:=h2
    _=(acc+1)*(16^t.length*16):=by rw[Nat.mul_assoc,Nat.mul_comm 16]
  ·cases h
theorem number_rng (s:Bs) (v:Int) (h:number s=some v):-2^32<v∧v<2^32:=by
 unfold number at h
 simp only at h
 split at h
 ·rename_i hl
  obtain⟨n',hn',e⟩:=Option.map_eq_some_iff.1 h
  obtain⟨n,hn,e'⟩:=Option.bind_eq_some_iff.1 hn'
  have e'':n'=(n:Int):=(Option.some.inj e').symm
  subst e''
  have hr:=digits_rng (if (ZB 36 (ZB 45 s).1).2=true then 16 else 10) (by split <;> omega) _ _ _ hn
  have hp:16^(ZB 36 (ZB 45 s).1).1.length≤16^8:=Nat.pow_le_pow_right (by omega) hl.2
  have:n<2^32:=by
   have e8:(16:Nat)^8=2^32:=by decide
   omega
  subst e
  split <;> omega
 ·cases h
theorem toN_rng (labs:List (Bs×Int)) (hl:∀p∈labs,0≤p.2∧p.2≤2^31) (t:Bs):-2^40≤toN labs t∧toN labs t≤2^40:=by
 unfold toN place
 cases hn:number t with
 |some v=>
  have:=number_rng t v hn
  simp only[Option.getD_some]
  omega
 |none=>
  simp only
  unfold look
  cases hf:labs.find? fun p=>p.1==t with
  |none=>simp
  |some p=>
   have:=hl p (List.mem_of_find?_eq_some hf)
   simp only[Option.map_some,Option.getD_some]
   omega
theorem labs_rng (org:Int) (L:List Line) (fs:List Int) (hf:fs.length=L.length) (hok:∀l∈L,LineOk l) (ho:0≤org∧org≤2^24) (hL:L.length≤4001):∀p∈labsTo L (starts org (L.map strd) fs) L.length,0≤p.2∧p.2≤2^31:=by
 intro p hp
 unfold labsTo at hp
 rw[List.mem_flatMap]at hp
 obtain⟨k,hk,hp⟩:=hp
 split at hp
 ·cases hp
 ·rw[List.mem_singleton]at hp
  subst hp
  have:=st_rng org L fs hf hok ho.1 k (by have:=List.mem_range.1 hk;omega)
  have hk':=List.mem_range.1 hk
  simp only
  omega
end Go.Proofs.YtegiloiojloaoaaGreatDoor.Rf
