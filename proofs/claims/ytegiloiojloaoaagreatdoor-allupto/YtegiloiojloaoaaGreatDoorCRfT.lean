/- What the reference tries of the bytes: the first that makes them is the program's. -/
import Derived.Test.YtegiloiojloaoaaGreatDoorCSpec
import Derived.Test.YtegiloiojloaoaaGreatDoorCRf0
import Derived.Test.YtegiloiojloaoaaGreatDoorCBk
set_option linter.unusedVariables false
set_option linter.unusedSimpArgs false
namespace Go.Proofs.YtegiloiojloaoaaGreatDoor.Rf
open Strd
def fx (k b:Int):Op:=⟨k,b,0,0,0⟩
def candsW (b:Bs) (a:Int):List Ins:=
 [QQ (fx 1 0x4e71) [],QQ (fx 1 0x4e75) [],QQ (fx 2 0x3000) [QG b 0 % 8,QG b 0 / 512 % 8],QQ (fx 2 0xd040) [QG b 0 % 8,QG b 0 / 512 % 8],QQ (fx 2 0x9040) [QG b 0 % 8,QG b 0 / 512 % 8],QQ (fx 2 0xb040) [QG b 0 % 8,QG b 0 / 512 % 8],QQ (fx 3 0x7000) [sgn8 (QG b 0),QG b 0 / 512 % 8]]
 ++ (List.range' 1 8).map (fun (n:Nat)=>QQ (fx 4 0x640) [(n:Int),QG b 0 % 8])
 ++ [QQ (jumpOp (QG b 0 / 256 % 16) 0 0) [a+2+sgn8 (QG b 0)]]
 ++ (if 4≤b.length then [QQ (jumpOp (QG b 0 / 256 % 16) 1 1) [a+2+sgn16 (QG b 2)],QQ (ZZ 0x4ef8 1 1) [QG b 2],QQ (ZZ 0x4eb8 1 1) [QG b 2],QQ (fx 4 0x640) [QG b 2,QG b 0 % 8]]++(if 6≤b.length then [QQ (ZZ 0x4ef8 2 2) [65536*QG b 2+QG b 4],QQ (ZZ 0x4eb8 2 2) [65536*QG b 2+QG b 4]] else []) else [])
def cands (b:Bs) (a:Int):List Ins:=(if 2≤b.length then candsW b a++[QQ wordsOp [QG b 0]] else [])++[QQ bytesOp [((b.getD 0 0).toNat:Int)]]
def opFor (w:Int):Op:=
 if w=0x4e71 then fx 1 0x4e71 else if w=0x4e75 then fx 1 0x4e75
 else if w / 4096=3 then fx 2 0x3000 else if w / 4096=13 then fx 2 0xd040 else if w / 4096=9 then fx 2 0x9040 else if w / 4096=11 then fx 2 0xb040
 else if w / 4096=7 then fx 3 0x7000 else if w / 4096=5∨w / 4096=0 then fx 4 0x640
 else if w / 4096=6 then (if w % 256=0 then jumpOp (w / 256 % 16) 1 1 else jumpOp (w / 256 % 16) 0 0)
 else if w=0x4ef8 then ZZ 0x4ef8 1 1 else if w=0x4ef9 then ZZ 0x4ef8 2 2 else if w=0x4eb8 then ZZ 0x4eb8 1 1 else ZZ 0x4eb8 2 2
theorem mem_match (o:Op):o∈ZL↔(o=fx 1 0x4e71∨o=fx 1 0x4e75∨o=fx 2 0x3000∨o=fx 2 0xd040∨o=fx 2 0x9040∨o=fx 2 0xb040∨o=fx 3 0x7000∨o=fx 4 0x640)∨(∃n:Nat,n<16∧(o=jumpOp n 0 0∨o=jumpOp n 1 1))∨(o=ZZ 0x4ef8 1 1∨o=ZZ 0x4ef8 2 2∨o=ZZ 0x4eb8 1 1∨o=ZZ 0x4eb8 2 2):=by
 unfold ZL
 rw[List.mem_append,List.mem_append,or_assoc]
 refine or_congr ?_ (or_congr ?_ ?_)
 ·simp[fixedWords,fx]
 ·rw[List.mem_flatten]
  constructor
  ·rintro ⟨l,hl,ho⟩
   obtain⟨n,hn,rfl⟩:=List.mem_map.1 hl
   exact⟨n,List.mem_range.1 hn,by simpa using ho⟩
  ·rintro ⟨n,hn,ho⟩
   exact⟨_,List.mem_map.2 ⟨n,List.mem_range.2 hn,rfl⟩,by simpa using ho⟩
 ·simp[farWords]
theorem opFor_mem (w:Int):opFor w∈ZL:=by
 rw[mem_match]
 have hc:∃n:Nat,n<16∧w / 256 % 16=(n:Int):=⟨(w / 256 % 16).toNat,by omega,by omega⟩
 obtain⟨n,hn,e⟩:=hc
 unfold opFor
 rw[e]
 by_cases c0:w=0x4e71
 ·rw[if_pos c0]
  exact .inl (.inl rfl)
 rw[if_neg c0]
 by_cases c1:w=0x4e75
 ·rw[if_pos c1]
  exact .inl (.inr (.inl rfl))
 rw[if_neg c1]
 by_cases c2:w / 4096=3
 ·rw[if_pos c2]
  exact .inl (.inr (.inr (.inl rfl)))
 rw[if_neg c2]
 by_cases c3:w / 4096=13
 ·rw[if_pos c3]
  exact .inl (.inr (.inr (.inr (.inl rfl))))
 rw[if_neg c3]
 by_cases c4:w / 4096=9
 ·rw[if_pos c4]
  exact .inl (.inr (.inr (.inr (.inr (.inl rfl)))))
 rw[if_neg c4]
 by_cases c5:w / 4096=11
 ·rw[if_pos c5]
  exact .inl (.inr (.inr (.inr (.inr (.inr (.inl rfl))))))
 rw[if_neg c5]
 by_cases c6:w / 4096=7
 ·rw[if_pos c6]
  exact .inl (.inr (.inr (.inr (.inr (.inr (.inr (.inl rfl)))))))
 rw[if_neg c6]
 by_cases c7:w / 4096=5∨w / 4096=0
 ·rw[if_pos c7]
  exact .inl (.inr (.inr (.inr (.inr (.inr (.inr (.inr rfl)))))))
 rw[if_neg c7]
 by_cases c8:w / 4096=6
 ·rw[if_pos c8]
  by_cases d:w % 256=0
  ·rw[if_pos d];exact .inr (.inl ⟨n,hn,.inr rfl⟩)
  ·rw[if_neg d];exact .inr (.inl ⟨n,hn,.inl rfl⟩)
 rw[if_neg c8]
 by_cases c9:w=0x4ef8
 ·rw[if_pos c9]
  exact .inr (.inr (.inl rfl))
 rw[if_neg c9]
 by_cases c10:w=0x4ef9
 ·rw[if_pos c10]
  exact .inr (.inr (.inr (.inl rfl)))
 rw[if_neg c10]
 by_cases c11:w=0x4eb8
 ·rw[if_pos c11]
  exact .inr (.inr (.inr (.inr (.inl rfl))))
 rw[if_neg c11]
 exact .inr (.inr (.inr (.inr (.inr rfl))))
theorem u8_of (n:Int) (h0:0≤n) (h:n<256):((n.toNat.toUInt8).toNat:Int)=n:=by
 have:n.toNat<256:=by omega
 have e:(n.toNat.toUInt8).toNat=n.toNat % 256:=by first|rfl|simp
 rw[e,Nat.mod_eq_of_lt this];omega
theorem pre_word {x:Int} {r b:Bs} (h:(QI x++r).isPrefixOf b=true):2≤b.length∧QG b 0=x % 65536∧r.isPrefixOf (b.drop 2)=true:=by
 rw[List.isPrefixOf_iff_prefix]at h
 obtain⟨t,rfl⟩:=h
 unfold QI
 refine⟨by simp,?_,?_⟩
 ·unfold QG
  rw[if_pos (by simp)]
  have h1:=u8_of ((x / 256) % 256) (by omega) (by omega)
  have h2:=u8_of (x % 256) (by omega) (by omega)
  simp only[List.cons_append,List.nil_append,List.getD_cons_zero,List.getD_cons_succ,Nat.zero_add]
  rw[h1,h2]
  omega
 ·rw[List.isPrefixOf_iff_prefix];exact⟨t,by simp⟩
theorem wordAt_drop (b:Bs) (k:Nat) (h:2≤b.length):QG (b.drop 2) k=QG b (k+2):=by
 unfold QG
 rw[List.length_drop]
 by_cases hk:k+2≤b.length-2
 ·rw[if_pos hk,if_pos (by omega)]
  simp only[gD,List.getElem?_drop]
  have e1:2+k=k+2:=by omega
  have e2:2+(k+1)=k+2+1:=by omega
  rw[e1,e2]
 ·rw[if_neg hk,if_neg (by omega)]
theorem begins_pre {i:Ins} {s:Bs} {a:Int} (h:begins i s a=true):(Strd.bytes i i.op.first a).isPrefixOf s=true∧(Strd.QN i.op=true→Strd.fits i.op i.op.first a (num i 0)=true):=by
 unfold begins at h
 split at h
 ·cases h
 ·rename_i hn
  refine⟨h,fun hj=>?_⟩
  cases hf:Strd.fits i.op i.op.first a (num i 0) with
  |true=>rfl
  |false=>exact(hn ⟨hj,hf⟩).elim
theorem pre_nil {x:Int} {b:Bs} (h:(QI x).isPrefixOf b=true):2≤b.length∧QG b 0=x % 65536:=by
 have:=pre_word (r:=[]) (x:=x) (b:=b) (by simpa using h)
 exact⟨this.1,this.2.1⟩
theorem pre_two {x y:Int} {b:Bs} (h:(QI x++QI y).isPrefixOf b=true):4≤b.length∧QG b 0=x % 65536∧QG b 2=y % 65536:=by
 obtain⟨h1,h2,h3⟩:=pre_word h
 obtain⟨h4,h5⟩:=pre_nil h3
 rw[List.length_drop]at h4
 rw[wordAt_drop b 0 h1]at h5
 exact⟨by omega,h2,h5⟩
theorem pre_three {x y z:Int} {b:Bs} (h:(QI x++QI y++QI z).isPrefixOf b=true):6≤b.length∧QG b 0=x % 65536:=by
 rw[List.append_assoc]at h
 obtain⟨h1,h2,h3⟩:=pre_word h
 obtain⟨h4,_⟩:=pre_two h3
 rw[List.length_drop]at h4
 exact⟨by omega,h2⟩
def D (b:Bs) (a:Int):Ins:=QQ (opFor (QG b 0)) (QK (opFor (QG b 0)) b a)
theorem add_short {x:Int} (h:addsShort x=true):1≤x∧x≤8:=by unfold addsShort within at h;simpa using h
theorem js_fit {n a t:Int} (h:Strd.fits (jumpOp n 0 0) 0 a t=true):-128≤t-a-2∧t-a-2≤127∧t-a-2≠0:=by
 unfold Strd.fits at h
 simp only[jumpOp]at h
 split at h
 ·cases h
 ·simp at h
  unfold within at h
  simp at h
  omega
theorem sgn8_mod (w:Int):(sgn8 w) % 256=w % 256:=by unfold sgn8;omega
theorem match_is (b:Bs) (a:Int) (o:Op) (ho:o∈ZL) (h:begins (QQ o (QK o b a)) b a=true):2≤b.length∧o=opFor (QG b 0)∧QQ o (QK o b a)∈candsW b a:=by
 obtain⟨hp,hf⟩:=begins_pre h
 have hr:=QV b 0
 have hr2:=QV b 2
 rcases (mem_match o).1 ho with h1|⟨n,hn,h1⟩|h1
 ·rcases h1 with rfl|rfl|rfl|rfl|rfl|rfl|rfl|rfl
  ·obtain⟨p1,p2⟩:=pre_nil hp
   refine⟨p1,?_,List.mem_append_left _ (List.mem_append_left _ (List.mem_append_left _ (by simp[QK,fx])))⟩
   rw[p2];rfl
  ·obtain⟨p1,p2⟩:=pre_nil hp
   refine⟨p1,?_,List.mem_append_left _ (List.mem_append_left _ (List.mem_append_left _ (by simp[QK,fx])))⟩
   rw[p2];rfl
  ·have hp':(QI (0x3000+512*(QG b 0 / 512 % 8)+QG b 0 % 8)).isPrefixOf b=true:=hp
   obtain⟨p1,p2⟩:=pre_nil hp'
   have e:QG b 0 / 4096=3:=by omega
   refine⟨p1,?_,List.mem_append_left _ (List.mem_append_left _ (List.mem_append_left _ (by simp[QK,fx])))⟩
   unfold opFor
   rw[if_neg (by omega),if_neg (by omega),if_pos e]
  ·have hp':(QI (0xd040+512*(QG b 0 / 512 % 8)+QG b 0 % 8)).isPrefixOf b=true:=hp
   obtain⟨p1,p2⟩:=pre_nil hp'
   have e:QG b 0 / 4096=13:=by omega
   refine⟨p1,?_,List.mem_append_left _ (List.mem_append_left _ (List.mem_append_left _ (by simp[QK,fx])))⟩
   unfold opFor
   rw[if_neg (by omega),if_neg (by omega),if_neg (by omega),if_pos e]
  ·have hp':(QI (0x9040+512*(QG b 0 / 512 % 8)+QG b 0 % 8)).isPrefixOf b=true:=hp
   obtain⟨p1,p2⟩:=pre_nil hp'
   have e:QG b 0 / 4096=9:=by omega
   refine⟨p1,?_,List.mem_append_left _ (List.mem_append_left _ (List.mem_append_left _ (by simp[QK,fx])))⟩
   unfold opFor
   rw[if_neg (by omega),if_neg (by omega),if_neg (by omega),if_neg (by omega),if_pos e]
  ·have hp':(QI (0xb040+512*(QG b 0 / 512 % 8)+QG b 0 % 8)).isPrefixOf b=true:=hp
   obtain⟨p1,p2⟩:=pre_nil hp'
   have e:QG b 0 / 4096=11:=by omega
   refine⟨p1,?_,List.mem_append_left _ (List.mem_append_left _ (List.mem_append_left _ (by simp[QK,fx])))⟩
   unfold opFor
   rw[if_neg (by omega),if_neg (by omega),if_neg (by omega),if_neg (by omega),if_neg (by omega),if_pos e]
  ·have hp':(QI (0x7000+512*(QG b 0 / 512 % 8)+sgn8 (QG b 0) % 256)).isPrefixOf b=true:=hp
   obtain⟨p1,p2⟩:=pre_nil hp'
   have e:QG b 0 / 4096=7:=by omega
   refine⟨p1,?_,List.mem_append_left _ (List.mem_append_left _ (List.mem_append_left _ (by simp[QK,fx])))⟩
   unfold opFor
   rw[if_neg (by omega),if_neg (by omega),if_neg (by omega),if_neg (by omega),if_neg (by omega),if_neg (by omega),if_pos e]
  ·by_cases hw:QG b 0<0x5040
   ·have eo:QK (fx 4 0x640) b a=[QG b 2,QG b 0 % 8]:=by
     show (if QG b 0<0x5040 then [QG b 2,QG b 0 % 8] else _)=_
     rw[if_pos hw]
    rw[eo]at hp ⊢
    have hp':(if addsShort (QG b 2)=true then QI (0x5040+512*(QG b 2 % 8)+QG b 0 % 8) else QI (0x640+QG b 0 % 8)++QI (QG b 2)).isPrefixOf b=true:=hp
    split at hp'
    ·obtain⟨p1,p2⟩:=pre_nil hp'
     omega
    ·obtain⟨p1,p2,p3⟩:=pre_two hp'
     refine⟨by omega,?_,List.mem_append_right _ (by rw[if_pos p1];simp)⟩
     have e:QG b 0 / 4096=5∨QG b 0 / 4096=0:=by omega
     unfold opFor
     rw[if_neg (by omega),if_neg (by omega),if_neg (by omega),if_neg (by omega),if_neg (by omega),if_neg (by omega),if_neg (by omega),if_pos e]
   ·have eo:QK (fx 4 0x640) b a=[(QG b 0 / 512 % 8+7) % 8+1,QG b 0 % 8]:=by
     show (if QG b 0<0x5040 then [QG b 2,QG b 0 % 8] else _)=_
     rw[if_neg hw]
    rw[eo]at hp ⊢
    have hp':(if addsShort ((QG b 0 / 512 % 8+7) % 8+1)=true then QI (0x5040+512*(((QG b 0 / 512 % 8+7) % 8+1) % 8)+QG b 0 % 8) else QI (0x640+QG b 0 % 8)++QI ((QG b 0 / 512 % 8+7) % 8+1)).isPrefixOf b=true:=hp
    split at hp'
    ·obtain⟨p1,p2⟩:=pre_nil hp'
     refine⟨p1,?_,List.mem_append_left _ (List.mem_append_left _ (List.mem_append_right _ (List.mem_map.2 ⟨((QG b 0 / 512 % 8+7) % 8+1).toNat,by rw[List.mem_range'_1];omega,?_⟩)))⟩
     ·have e:QG b 0 / 4096=5∨QG b 0 / 4096=0:=by omega
      unfold opFor
      rw[if_neg (by omega),if_neg (by omega),if_neg (by omega),if_neg (by omega),if_neg (by omega),if_neg (by omega),if_neg (by omega),if_pos e]
     ·have e:((((QG b 0 / 512 % 8+7) % 8+1).toNat:Nat):Int)=(QG b 0 / 512 % 8+7) % 8+1:=by omega
      show QQ (fx 4 0x640) [((((QG b 0 / 512 % 8+7) % 8+1).toNat:Nat):Int),_]=_
      rw[e]
    ·obtain⟨p1,p2,p3⟩:=pre_two hp'
     omega
 ·rcases h1 with rfl|rfl
  ·have hp':(QI (0x6000+0x100*(n:Int)+(a+2+sgn8 (QG b 0)-a-2) % 256)).isPrefixOf b=true:=hp
   have hf':=js_fit (hf rfl)
   have hn0:num (QQ (jumpOp n 0 0) (QK (jumpOp n 0 0) b a)) 0=a+2+sgn8 (QG b 0):=rfl
   rw[hn0]at hf'
   obtain⟨p1,p2⟩:=pre_nil hp'
   have hs:=sgn8_mod (QG b 0)
   have hsr:=sgn8_rng (QG b 0)
   have e:QG b 0 / 4096=6:=by omega
   have e2:QG b 0 / 256 % 16=(n:Int):=by omega
   have e3:¬QG b 0 % 256=0:=by omega
   refine⟨p1,?_,List.mem_append_left _ (List.mem_append_right _ (by rw[e2];exact List.mem_singleton.2 rfl))⟩
   unfold opFor
   rw[if_neg (by omega),if_neg (by omega),if_neg (by omega),if_neg (by omega),if_neg (by omega),if_neg (by omega),if_neg (by omega),if_neg (by omega),if_pos e,if_neg e3,e2]
  ·have hp':(QI (0x6000+0x100*(n:Int))++QI (a+2+sgn16 (QG b 2)-a-2)).isPrefixOf b=true:=hp
   obtain⟨p1,p2,p3⟩:=pre_two hp'
   have e:QG b 0 / 4096=6:=by omega
   have e2:QG b 0 / 256 % 16=(n:Int):=by omega
   have e3:QG b 0 % 256=0:=by omega
   refine⟨by omega,?_,List.mem_append_right _ (by rw[if_pos p1,e2];exact List.mem_append_left _ (List.mem_cons_self))⟩
   unfold opFor
   rw[if_neg (by omega),if_neg (by omega),if_neg (by omega),if_neg (by omega),if_neg (by omega),if_neg (by omega),if_neg (by omega),if_neg (by omega),if_pos e,if_pos e3,e2]
 ·rcases h1 with rfl|rfl|rfl|rfl
  ·have hp':(QI 0x4ef8++QI (QG b 2)).isPrefixOf b=true:=hp
   obtain⟨p1,p2,p3⟩:=pre_two hp'
   refine⟨by omega,?_,List.mem_append_right _ (by rw[if_pos p1];exact List.mem_append_left _ (by simp[QK,ZZ]))⟩
   rw[p2];rfl
  ·have hp':(QI (0x4ef8+1)++QI ((65536*QG b 2+QG b 4) / 65536)++QI (65536*QG b 2+QG b 4)).isPrefixOf b=true:=hp
   obtain⟨p1,p2⟩:=pre_three hp'
   refine⟨by omega,?_,List.mem_append_right _ (by rw[if_pos (show 4≤b.length by omega),if_pos p1];exact List.mem_append_right _ (by simp[QK,ZZ]))⟩
   rw[p2];rfl
  ·have hp':(QI 0x4eb8++QI (QG b 2)).isPrefixOf b=true:=hp
   obtain⟨p1,p2,p3⟩:=pre_two hp'
   refine⟨by omega,?_,List.mem_append_right _ (by rw[if_pos p1];exact List.mem_append_left _ (by simp[QK,ZZ]))⟩
   rw[p2];rfl
  ·have hp':(QI (0x4eb8+1)++QI ((65536*QG b 2+QG b 4) / 65536)++QI (65536*QG b 2+QG b 4)).isPrefixOf b=true:=hp
   obtain⟨p1,p2⟩:=pre_three hp'
   refine⟨by omega,?_,List.mem_append_right _ (by rw[if_pos (show 4≤b.length by omega),if_pos p1];exact List.mem_append_right _ (by simp[QK,ZZ]))⟩
   rw[p2];rfl
theorem of_match (b:Bs) (a:Int) (o:Op) (ho:o∈ZL) (x:Ins) (e:x=QQ o (QK o b a)) (h:begins x b a=true):x=D b a:=by
 subst e
 have:=(match_is b a o ho h).2.1
 unfold D
 rw[←this]
theorem fx_mem:fx 1 0x4e71∈ZL∧fx 1 0x4e75∈ZL∧fx 2 0x3000∈ZL∧fx 2 0xd040∈ZL∧fx 2 0x9040∈ZL∧fx 2 0xb040∈ZL∧fx 3 0x7000∈ZL∧fx 4 0x640∈ZL∧ZZ 0x4ef8 1 1∈ZL∧ZZ 0x4ef8 2 2∈ZL∧ZZ 0x4eb8 1 1∈ZL∧ZZ 0x4eb8 2 2∈ZL:=by
 simp only[mem_match]
 simp
theorem jump_mem (w f:Int) (hf:f=0∨f=1):jumpOp (w / 256 % 16) f f∈ZL:=by
 have hc:∃n:Nat,n<16∧w / 256 % 16=(n:Int):=⟨(w / 256 % 16).toNat,by omega,by omega⟩
 obtain⟨n,hn,e⟩:=hc
 rw[e,mem_match]
 rcases hf with rfl|rfl
 ·exact .inr (.inl ⟨n,hn,.inl rfl⟩)
 ·exact .inr (.inl ⟨n,hn,.inr rfl⟩)
theorem addi_is (b:Bs) (a x:Int) (hx:0≤x∧x≤65535) (h4:addsShort x=false→x=QG b 2) (h:begins (QQ (fx 4 0x640) [x,QG b 0 % 8]) b a=true):QQ (fx 4 0x640) [x,QG b 0 % 8]=QQ (fx 4 0x640) (QK (fx 4 0x640) b a):=by
 obtain⟨hp,_⟩:=begins_pre h
 have hp':(if addsShort x=true then QI (0x5040+512*(x % 8)+QG b 0 % 8) else QI (0x640+QG b 0 % 8)++QI x).isPrefixOf b=true:=hp
 have eo:QK (fx 4 0x640) b a=if QG b 0<0x5040 then [QG b 2,QG b 0 % 8] else [(QG b 0 / 512 % 8+7) % 8+1,QG b 0 % 8]:=rfl
 have hr:=QV b 0
 rw[eo]
 split at hp'
 ·rename_i hs
  obtain⟨p1,p2⟩:=pre_nil hp'
  have hs':=add_short hs
  rw[if_neg (by omega)]
  have:(QG b 0 / 512 % 8+7) % 8+1=x:=by omega
  rw[this]
 ·rename_i hs
  obtain⟨p1,p2,p3⟩:=pre_two hp'
  rw[if_pos (by omega),h4 (by simpa using hs)]
theorem cand_is (b:Bs) (a:Int) (x:Ins) (hx:x∈candsW b a) (h:begins x b a=true):x=D b a:=by
 obtain⟨m1,m2,m3,m4,m5,m6,m7,m8,m9,m10,m11,m12⟩:=fx_mem
 have hr2:=QV b 2
 unfold candsW at hx
 rw[List.mem_append,List.mem_append,List.mem_append]at hx
 rcases hx with ((hx|hx)|hx)|hx
 ·simp only[List.mem_cons,List.not_mem_nil,or_false]at hx
  rcases hx with rfl|rfl|rfl|rfl|rfl|rfl|rfl
  ·exact of_match b a _ m1 _ rfl h
  ·exact of_match b a _ m2 _ rfl h
  ·exact of_match b a _ m3 _ rfl h
  ·exact of_match b a _ m4 _ rfl h
  ·exact of_match b a _ m5 _ rfl h
  ·exact of_match b a _ m6 _ rfl h
  ·exact of_match b a _ m7 _ rfl h
 ·obtain⟨n,hn,rfl⟩:=List.mem_map.1 hx
  rw[List.mem_range'_1]at hn
  refine of_match b a _ m8 _ (addi_is b a n (by omega) (fun hs=>?_) h) h
  exfalso
  have:addsShort (n:Int)=true:=by unfold addsShort within;simp;omega
  rw[this]at hs;cases hs
 ·rw[List.mem_singleton]at hx
  subst hx
  exact of_match b a _ (jump_mem _ 0 (.inl rfl)) _ rfl h
 ·split at hx
  ·rw[List.mem_append]at hx
   rcases hx with hx|hx
   ·simp only[List.mem_cons,List.not_mem_nil,or_false]at hx
    rcases hx with rfl|rfl|rfl|rfl
    ·exact of_match b a _ (jump_mem _ 1 (.inr rfl)) _ rfl h
    ·exact of_match b a _ m9 _ rfl h
    ·exact of_match b a _ m11 _ rfl h
    ·exact of_match b a _ m8 _ (addi_is b a _ hr2 (fun _=>rfl) h) h
   ·split at hx
    ·simp only[List.mem_cons,List.not_mem_nil,or_false]at hx
     rcases hx with rfl|rfl
     ·exact of_match b a _ m10 _ rfl h
     ·exact of_match b a _ m12 _ rfl h
    ·cases hx
  ·cases hx
theorem find_same {α:Type} (p:α→Bool) (d:α) (l m:List α) (h1:∀x∈l,p x=true→x=d∧x∈m) (h2:∀x∈m,p x=true→x=d∧x∈l):l.find? p=m.find? p:=by
 cases hl:l.find? p with
 |none=>
  cases hm:m.find? p with
  |none=>rfl
  |some y=>
   have hy:=List.mem_of_find?_eq_some hm
   have py:=List.find?_some hm
   rw[List.find?_eq_none]at hl
   exact(hl y (h2 y hy py).2 py).elim
 |some x=>
  have hx:=List.mem_of_find?_eq_some hl
  have px:=List.find?_some hl
  obtain⟨e,hxm⟩:=h1 x hx px
  cases hm:m.find? p with
  |none=>
   rw[List.find?_eq_none]at hm
   exact(hm x hxm px).elim
  |some y=>
   have hy:=List.mem_of_find?_eq_some hm
   have py:=List.find?_some hm
   rw[e,(h2 y hy py).1]
theorem match_cands (b:Bs) (a:Int):matchIns b a=if 2≤b.length then (candsW b a).find? (fun i=>begins i b a) else none:=by
 unfold matchIns
 by_cases hl:2≤b.length
 ·rw[if_pos hl]
  refine find_same _ (D b a) _ _ (fun x hx px=>?_) (fun x hx px=>?_)
  ·obtain⟨o,ho,rfl⟩:=List.mem_map.1 hx
   exact⟨of_match b a o ho _ rfl px,(match_is b a o ho px).2.2⟩
  ·have e:=cand_is b a x hx px
   refine⟨e,?_⟩
   rw[e]
   exact List.mem_map.2 ⟨opFor (QG b 0),opFor_mem _,rfl⟩
 ·rw[if_neg hl,List.find?_eq_none]
  intro x hx px
  obtain⟨o,ho,rfl⟩:=List.mem_map.1 hx
  exact hl (match_is b a o ho px).1
theorem first_cand (b:Bs) (hb:b≠[]) (a:Int):(cands b a).find? (fun i=>begins i b a)=some (ZH b a):=by
 unfold cands ZH
 rw[match_cands b a]
 by_cases hl:2≤b.length
 ·rw[if_pos hl,if_pos hl,List.append_assoc,List.find?_append]
  cases hm:(candsW b a).find? (fun i=>begins i b a) with
  |some i=>rfl
  |none=>
   simp only[Option.none_or]
   rw[if_neg (by omega)]
   match b,hl with
   |x::y::r,_=>
    have hg:=(good_word x y r a).pre
    have hw:QG (x::y::r) 0=256*(x.toNat:Int)+(y.toNat:Int):=by unfold QG;rw[if_pos (by simp)];rfl
    rw[hw]
    show List.find? _ (QQ wordsOp [256*(x.toNat:Int)+(y.toNat:Int)]::_)=some (QQ wordsOp [256*(x.toNat:Int)+(y.toNat:Int)])
    rw[List.find?_cons]
    have hb:begins (QQ wordsOp [256*(x.toNat:Int)+(y.toNat:Int)]) (x::y::r) a=true:=by
     unfold begins
     rw[if_neg (by rintro ⟨h,_⟩;cases h),List.isPrefixOf_iff_prefix]
     exact hg
    rw[hb]
 ·obtain⟨x,rfl⟩:∃x,b=[x]:=by
   cases b with
   |nil=>exact(hb rfl).elim
   |cons x t=>
    cases t with
    |nil=>exact⟨x,rfl⟩
    |cons y t=>exact(hl (by simp)).elim
  ·rw[if_neg (by simp),if_neg (by simp)]
   simp only[List.nil_append,List.length_singleton,if_true]
   have hg:=(good_byte x a).pre
   show List.find? _ [QQ bytesOp [(x.toNat:Int)]]=some (QQ bytesOp [(x.toNat:Int)])
   rw[List.find?_cons]
   have hb:begins (QQ bytesOp [(x.toNat:Int)]) [x] a=true:=by
    unfold begins
    rw[if_neg (by rintro ⟨h,_⟩;cases h),List.isPrefixOf_iff_prefix]
    exact hg
   rw[hb]
theorem digits_lt:∀(s:Bs) (acc v:Nat),QY 10 acc s=some v→v<(acc+1)*10^s.length
 |[],acc,v,h=>by
  simp only[QY,Option.some.injEq]at h
  subst h;simp
 |c::t,acc,v,h=>by
  rw[QY]at h
  split at h
  ·rename_i hd
   have:=digits_lt t _ v h
   have h2:(acc*10+digitVal c+1)*10^t.length≤((acc+1)*10)*10^t.length:=Nat.mul_le_mul_right _ (by omega)
   rw[List.length_cons,Nat.pow_succ]
   calc v<(acc*10+digitVal c+1)*10^t.length:=this
    _≤((acc+1)*10)*10^t.length:=h2
    _=(acc+1)*(10^t.length*10):=by rw[Nat.mul_assoc,Nat.mul_comm 10]
  ·cases h
theorem dec_long (n:Nat) (h:10^8≤n):9≤(dec n).length:=by
 have:=digits_lt (dec n) 0 n (dec_val n)
 rw[Nat.zero_add,Nat.one_mul]at this
 have h2:¬(dec n).length≤8:=fun hl=>by
  have:=Nat.pow_le_pow_right (n:=10) (by omega) hl
  omega
 omega
theorem number_big (n:Int) (h:100000000≤n):number (itoa n)=none:=by
 unfold itoa
 rw[if_neg (by omega)]
 have hl:=dec_long n.toNat (by omega)
 have hd:=dec_digs n.toNat
 generalize dec n.toNat=s at *
 cases s with
 |nil=>simp at hl
 |cons c t=>
  obtain⟨d,hd10,rfl⟩:=hd c (by simp)
  have hdv:=dig_val d hd10
  have e1:ZB 45 ((48+d).toUInt8::t)=((48+d).toUInt8::t,false):=by
   rw[ZB,if_neg]
   first|exact hdv.2.2.2.2.2.2.2.2|exact hdv.2.2.2.2.2.2.1|exact hdv.2.2.2.2.2.2.2.2.1|(intro h;have:=congrArg UInt8.toNat h;simp at this;omega)
  have e2:ZB 36 ((48+d).toUInt8::t)=((48+d).toUInt8::t,false):=by rw[ZB,if_neg hdv.2.2.2.2.2.2.2.1]
  unfold number
  simp only[e1,e2]
  rw[if_neg (by rintro ⟨_,h8⟩;omega)]
theorem far_none (bs:Int) (hb:bs=0x4ef8∨bs=0x4eb8) (n:Int) (h:100000000≤n):readLine (Q8 (QQ (ZZ bs 2 2) [n]))=none:=by
 have hpl:=itoa_plain n
 have hps:=itoa_pos n
 obtain⟨u,hu,huf,hup⟩:∃u,Q2 (ZZ bs 2 2)=u∧Strd.find u=some (ZZ bs 2 2)∧(u≠[]∧u.all plainSign=true):=by
  rcases hb with rfl|rfl
  ·exact⟨[106,109,112,46,108],by decide +kernel,by rfl,by decide⟩
  ·exact⟨[106,115,114,46,108],by decide +kernel,by rfl,by decide⟩
 have ht:Q8 (QQ (ZZ bs 2 2) [n])=u++[32]++itoa n:=by
  show Q2 (ZZ bs 2 2)++joined [ZE 3 n]=_
  rw[hu]
  simp[joined,ZE,mark]
 have hup':∀c∈u,plainSign c=true:=fun c hc=>List.all_eq_true.1 hup.2 c hc
 have hs:∀c∈Q8 (QQ (ZZ bs 2 2) [n]),c≠58∧c≠59∧c≠10:=by
  rw[ht]
  intro c hc
  simp only[List.mem_append,List.mem_cons,List.not_mem_nil,or_false]at hc
  rcases hc with (hc|rfl)|hc
  ·exact(ZW (hup' c hc)).2.2
  ·decide
  ·exact(ZW (hpl c hc)).2.2
 have hi:=instruction_at [] u [32] (itoa n) [] blanks_nil (fun c hc=>(ZW (hup' c hc)).1) hup.1 (by intro c hc;rw[List.mem_singleton]at hc;subst hc;decide) (by simp) (tight_all _ fun c hc=>(ZW (hpl c hc)).1) hps blanks_nil (ZZ bs 2 2) huf
 rw[operands_one _ _ hpl]at hi
 have hr:ropsAll (roles (ZZ bs 2 2).kind 1) [itoa n]=none:=by
  show ropsAll [3] [itoa n]=none
  have h3:QR 3 (itoa n)=none:=by rw[rO_place,itoa_noName,number_big n h];rfl
  simp only[ropsAll,h3,Option.bind_none]
 rw[hr]at hi
 have:=readLine_bare (Q8 (QQ (ZZ bs 2 2) [n])) [] (fun c hc=>⟨(hs c hc).1,(hs c hc).2.1⟩) (.inl rfl)
 rw[List.append_nil]at this
 rw[this,ht]
 simp only[List.nil_append,List.append_nil]at hi
 rw[hi]
 rfl
theorem told0 (o:Op) (ho:o∈toldOps) (hr:roles o.kind 0=[]):Told (QQ o []) o []:=⟨rfl,ho,by rw[show ([]:List Int).length=0 from rfl,hr];rfl,by simp,by rw[show ([]:List Int).length=0 from rfl,hr];intro p hp;cases hp⟩
theorem told1 (o:Op) (n r:Int) (ho:o∈toldOps) (hr:roles o.kind 1=[r]) (h:OprOk o.kind r n):Told (QQ o [n]) o [n]:=⟨rfl,ho,by rw[show [n].length=1 from rfl,hr];rfl,by simp,by
 rw[show [n].length=1 from rfl,hr]
 intro p hp
 simp only[List.zip_cons_cons,List.zip_nil_right,List.mem_singleton]at hp
 subst hp;exact h⟩
theorem told2 (o:Op) (n m r q:Int) (ho:o∈toldOps) (hr:roles o.kind 2=[r,q]) (h:OprOk o.kind r n) (h':OprOk o.kind q m):Told (QQ o [n,m]) o [n,m]:=⟨rfl,ho,by rw[show [n,m].length=2 from rfl,hr];rfl,by simp,by
 rw[show [n,m].length=2 from rfl,hr]
 intro p hp
 simp only[List.zip_cons_cons,List.zip_nil_right,List.mem_cons,List.not_mem_nil,or_false]at hp
 rcases hp with rfl|rfl
 ·exact h
 ·exact h'⟩
theorem ok_reg (k n:Int) (h:0≤n∧n≤7):OprOk k 0 n:=⟨.inl ⟨rfl,h.1,h.2⟩,fun h=>(h rfl).elim⟩
theorem ok_three (n:Int) (h:-128≤n∧n≤127):OprOk 3 1 n:=⟨.inr ⟨.inl rfl,by omega,by omega⟩,fun _=>within_mk h.1 h.2⟩
theorem ok_four (n:Int) (h:0≤n∧n≤65535):OprOk 4 1 n:=⟨.inr ⟨.inl rfl,by omega,by omega⟩,fun _=>within_mk (by omega) h.2⟩
theorem ok_jump (k n:Int) (hk:k=5∨k=6) (h:-100000000<n∧n<100000000):OprOk k 3 n:=⟨.inr ⟨.inr (.inr rfl),h.1,h.2⟩,fun _=>by rcases hk with rfl|rfl <;> rfl⟩
theorem far_beg (bs:Int) (n:Int) (h:100000000≤n) (b:Bs) (a:Int):begins (QQ (ZZ bs 2 2) [n]) b a=false:=by
 unfold begins
 rw[if_pos]
 refine⟨rfl,?_⟩
 show Strd.fits (ZZ bs 2 2) 2 a n=false
 unfold Strd.fits
 rw[if_pos]
 left
 unfold Strd.isPlace within
 have:decide (n≤0xfffffe)=false:=by simp;omega
 rw[this];simp
theorem far_len (bs:Int) (hb:bs=0x4ef8∨bs=0x4eb8) (n:Int) (h0:0≤n) (h:n<2^33):(Q8 (QQ (ZZ bs 2 2) [n])).length≤2^20:=by
 have hn:(itoa n).length≤10:=by
  unfold itoa
  rw[if_neg (by omega)]
  exact dec_len _ 9 (by omega)
 have hw:(Q2 (ZZ bs 2 2)).length≤5:=by rcases hb with rfl|rfl <;> decide +kernel
 have ht:Q8 (QQ (ZZ bs 2 2) [n])=Q2 (ZZ bs 2 2)++[32]++itoa n:=by
  show Q2 (ZZ bs 2 2)++joined [ZE 3 n]=_
  simp[joined,ZE,mark]
 rw[ht]
 simp only[List.length_append,List.length_singleton]
 omega
theorem cand_told (b:Bs) (a:Int) (ha:0≤a∧a≤20000000) (i:Ins) (hi:i∈cands b a):(∃o ns,Told i o ns∧o.kind≠11∧o.kind≠0)∨(begins i b a=false∧readLine (Q8 i)=none∧(Q8 i).length≤2^20):=by
 obtain⟨m1,m2,m3,m4,m5,m6,m7,m8,m9,m10,m11,m12⟩:=fx_mem
 have hw:=QV b 0
 have hw2:=QV b 2
 have hw4:=QV b 4
 have hs:=sgn8_rng (QG b 0)
 have hs2:-32768≤sgn16 (QG b 2)∧sgn16 (QG b 2)≤32767:=by unfold sgn16;omega
 have hbyte:(b.getD 0 0).toNat<256:=(b.getD 0 0).toNat_lt
 unfold cands at hi
 rw[List.mem_append]at hi
 rcases hi with hi|hi
 ·split at hi
  ·rw[List.mem_append]at hi
   rcases hi with hi|hi
   ·unfold candsW at hi
    rw[List.mem_append,List.mem_append,List.mem_append]at hi
    rcases hi with ((hi|hi)|hi)|hi
    ·simp only[List.mem_cons,List.not_mem_nil,or_false]at hi
     rcases hi with rfl|rfl|rfl|rfl|rfl|rfl|rfl
     ·exact .inl ⟨_,_,told0 _ (told_mem m1) rfl,by simp[fx],by simp[fx]⟩
     ·exact .inl ⟨_,_,told0 _ (told_mem m2) rfl,by simp[fx],by simp[fx]⟩
     ·exact .inl ⟨_,_,told2 _ _ _ 0 0 (told_mem m3) rfl (ok_reg _ _ (by omega)) (ok_reg _ _ (by omega)),by simp[fx],by simp[fx]⟩
     ·exact .inl ⟨_,_,told2 _ _ _ 0 0 (told_mem m4) rfl (ok_reg _ _ (by omega)) (ok_reg _ _ (by omega)),by simp[fx],by simp[fx]⟩
     ·exact .inl ⟨_,_,told2 _ _ _ 0 0 (told_mem m5) rfl (ok_reg _ _ (by omega)) (ok_reg _ _ (by omega)),by simp[fx],by simp[fx]⟩
     ·exact .inl ⟨_,_,told2 _ _ _ 0 0 (told_mem m6) rfl (ok_reg _ _ (by omega)) (ok_reg _ _ (by omega)),by simp[fx],by simp[fx]⟩
     ·exact .inl ⟨_,_,told2 _ _ _ 1 0 (told_mem m7) rfl (ok_three _ hs) (ok_reg _ _ (by omega)),by simp[fx],by simp[fx]⟩
    ·obtain⟨n,hn,rfl⟩:=List.mem_map.1 hi
     rw[List.mem_range'_1]at hn
     exact .inl ⟨_,_,told2 _ _ _ 1 0 (told_mem m8) rfl (ok_four _ (by omega)) (ok_reg _ _ (by omega)),by simp[fx],by simp[fx]⟩
    ·rw[List.mem_singleton]at hi
     subst hi
     exact .inl ⟨_,_,told1 _ _ 3 (told_mem (jump_mem _ 0 (.inl rfl))) rfl (ok_jump _ _ (.inl rfl) (by omega)),by simp[jumpOp],by simp[jumpOp]⟩
    ·split at hi
     ·rw[List.mem_append]at hi
      rcases hi with hi|hi
      ·simp only[List.mem_cons,List.not_mem_nil,or_false]at hi
       rcases hi with rfl|rfl|rfl|rfl
       ·exact .inl ⟨_,_,told1 _ _ 3 (told_mem (jump_mem _ 1 (.inr rfl))) rfl (ok_jump _ _ (.inl rfl) (by omega)),by simp[jumpOp],by simp[jumpOp]⟩
       ·exact .inl ⟨_,_,told1 _ _ 3 (told_mem m9) rfl (ok_jump _ _ (.inr rfl) (by omega)),by simp[ZZ],by simp[ZZ]⟩
       ·exact .inl ⟨_,_,told1 _ _ 3 (told_mem m11) rfl (ok_jump _ _ (.inr rfl) (by omega)),by simp[ZZ],by simp[ZZ]⟩
       ·exact .inl ⟨_,_,told2 _ _ _ 1 0 (told_mem m8) rfl (ok_four _ hw2) (ok_reg _ _ (by omega)),by simp[fx],by simp[fx]⟩
      ·split at hi
       ·simp only[List.mem_cons,List.not_mem_nil,or_false]at hi
        by_cases hb:65536*QG b 2+QG b 4<100000000
        ·rcases hi with rfl|rfl
         ·exact .inl ⟨_,_,told1 _ _ 3 (told_mem m10) rfl (ok_jump _ _ (.inr rfl) (by omega)),by simp[ZZ],by simp[ZZ]⟩
         ·exact .inl ⟨_,_,told1 _ _ 3 (told_mem m12) rfl (ok_jump _ _ (.inr rfl) (by omega)),by simp[ZZ],by simp[ZZ]⟩
        ·rcases hi with rfl|rfl
         ·exact .inr ⟨far_beg _ _ (by omega) b a,far_none _ (.inl rfl) _ (by omega),far_len _ (.inl rfl) _ (by omega) (by omega)⟩
         ·exact .inr ⟨far_beg _ _ (by omega) b a,far_none _ (.inr rfl) _ (by omega),far_len _ (.inr rfl) _ (by omega) (by omega)⟩
       ·cases hi
     ·cases hi
   ·rw[List.mem_singleton]at hi
    subst hi
    exact .inl ⟨_,_,told_of _ _ mem_words (.inl rfl) hw.1 hw.2 (fun h=>by simp[wordsOp]at h),by simp[wordsOp],by simp[wordsOp]⟩
  ·cases hi
 ·rw[List.mem_singleton]at hi
  subst hi
  exact .inl ⟨_,_,told_of _ _ mem_bytes (.inr rfl) (by omega) (by omega) (fun _=>by omega),by simp[bytesOp],by simp[bytesOp]⟩
theorem t_one (bs:Int) (u:Bs) (hu:Q2 (fx 1 bs)=u):Q8 (QQ (fx 1 bs) [])=u:=by
 show Q2 (fx 1 bs)++joined []=_
 rw[hu];simp[joined]
theorem t_two (bs:Int) (u:Bs) (hu:Q2 (fx 2 bs)=u) (x y:Int):Q8 (QQ (fx 2 bs) [x,y])=u++[32,100]++itoa x++[44,100]++itoa y:=by
 show Q2 (fx 2 bs)++joined [ZE 0 x,ZE 0 y]=_
 rw[hu];simp[joined,ZE,mark,QQ]
theorem t_val (k bs:Int) (hk:k=3∨k=4) (u:Bs) (hu:Q2 (fx k bs)=u) (x y:Int):Q8 (QQ (fx k bs) [x,y])=u++[32,35]++itoa x++[44,100]++itoa y:=by
 have hr:roles k 2=[1,0]:=by rcases hk with rfl|rfl <;> rfl
 show Q2 (fx k bs)++joined (List.zipWith _ (roles k 2) _)=_
 rw[hr,hu]
 simp[joined,ZE,mark,QQ]
theorem t_jump (o:Op) (hk:o.kind=5∨o.kind=6) (u:Bs) (hu:Q2 o=u) (x:Int):Q8 (QQ o [x])=u++[32]++itoa x:=by
 have hr:roles o.kind 1=[3]:=by rcases hk with e|e <;> rw[e] <;> rfl
 show Q2 o++joined (List.zipWith _ (roles o.kind 1) _)=_
 rw[hr,hu]
 simp[joined,ZE,mark,QQ]
theorem t_dc (o:Op) (hk:o.kind=7∨o.kind=8) (u:Bs) (hu:Q2 o=u) (x:Int):Q8 (QQ o [x])=u++[32]++itoa x:=by
 have hr:roles o.kind 1=[3]:=by rcases hk with e|e <;> rw[e] <;> rfl
 show Q2 o++joined (List.zipWith _ (roles o.kind 1) _)=_
 rw[hr,hu]
 simp[joined,ZE,mark,QQ]
def mvT (u:Bs) (x y:Int):Bs:=u++[32,100]++itoa x++[44,100]++itoa y
def vlT (u:Bs) (x y:Int):Bs:=u++[32,35]++itoa x++[44,100]++itoa y
def jpT (u:Bs) (x:Int):Bs:=u++[32]++itoa x
def condT (b:Bs):Bs:=jumpWords.getD (QG b 0 / 256 % 16).toNat []
def triesB (b:Bs) (a:Int):List Bs:=
 (if 2≤b.length then
  ([[110,111,112],[114,116,115],mvT [109,111,118,101] (QG b 0 % 8) (QG b 0 / 512 % 8),mvT [97,100,100] (QG b 0 % 8) (QG b 0 / 512 % 8),mvT [115,117,98] (QG b 0 % 8) (QG b 0 / 512 % 8),mvT [99,109,112] (QG b 0 % 8) (QG b 0 / 512 % 8),vlT [109,111,118,101,113] (sgn8 (QG b 0)) (QG b 0 / 512 % 8)]
  ++ (List.range' 1 8).map (fun (n:Nat)=>vlT [97,100,100,105] (n:Int) (QG b 0 % 8))
  ++ [jpT (condT b++[46,115]) (a+2+sgn8 (QG b 0))]
  ++ (if 4≤b.length then [jpT (condT b++[46,119]) (a+2+sgn16 (QG b 2)),jpT [106,109,112,46,119] (QG b 2),jpT [106,115,114,46,119] (QG b 2),vlT [97,100,100,105] (QG b 2) (QG b 0 % 8)]++(if 6≤b.length then [jpT [106,109,112,46,108] (65536*QG b 2+QG b 4),jpT [106,115,114,46,108] (65536*QG b 2+QG b 4)] else []) else []))
  ++ [jpT [100,99,46,119] (QG b 0)] else [])++[jpT [100,99,46,98] ((b.getD 0 0).toNat:Int)]
theorem word_jump (c f:Int) (hf:f=0∨f=1):Q2 (jumpOp c f f)=jumpWords.getD c.toNat []++(if f=0 then [46,115] else [46,119]):=by
 unfold Q2
 rw[if_pos (show (jumpOp c f f).kind=5 from rfl)]
 show jumpWords.getD c.toNat []++Strd.ending (jumpOp c f f)=_
 rcases hf with rfl|rfl <;> rfl
theorem tries_cands (b:Bs) (a:Int):triesB b a=(cands b a).map Q8:=by
 have w1:Q2 (fx 1 0x4e71)=[110,111,112]:=by decide +kernel
 have w2:Q2 (fx 1 0x4e75)=[114,116,115]:=by decide +kernel
 have w3:Q2 (fx 2 0x3000)=[109,111,118,101]:=by decide +kernel
 have w4:Q2 (fx 2 0xd040)=[97,100,100]:=by decide +kernel
 have w5:Q2 (fx 2 0x9040)=[115,117,98]:=by decide +kernel
 have w6:Q2 (fx 2 0xb040)=[99,109,112]:=by decide +kernel
 have w7:Q2 (fx 3 0x7000)=[109,111,118,101,113]:=by decide +kernel
 have w8:Q2 (fx 4 0x640)=[97,100,100,105]:=by decide +kernel
 have w9:Q2 (ZZ 0x4ef8 1 1)=[106,109,112,46,119]:=by decide +kernel
 have w10:Q2 (ZZ 0x4eb8 1 1)=[106,115,114,46,119]:=by decide +kernel
 have w11:Q2 (ZZ 0x4ef8 2 2)=[106,109,112,46,108]:=by decide +kernel
 have w12:Q2 (ZZ 0x4eb8 2 2)=[106,115,114,46,108]:=by decide +kernel
 have w13:Q2 wordsOp=[100,99,46,119]:=by decide +kernel
 have w14:Q2 bytesOp=[100,99,46,98]:=by decide +kernel
 have w15:Q2 (jumpOp (QG b 0 / 256 % 16) 0 0)=condT b++[46,115]:=word_jump _ 0 (.inl rfl)
 have w16:Q2 (jumpOp (QG b 0 / 256 % 16) 1 1)=condT b++[46,119]:=word_jump _ 1 (.inr rfl)
 unfold triesB cands candsW
 rw[List.map_append]
 congr 1
 ·by_cases h2:2≤b.length
  ·rw[if_pos h2,if_pos h2,List.map_append,List.map_append,List.map_append,List.map_append]
   congr 1
   ·congr 1
    ·congr 1
     ·congr 1
      ·simp only[List.map_cons,List.map_nil,t_one _ _ w1,t_one _ _ w2,t_two _ _ w3,t_two _ _ w4,t_two _ _ w5,t_two _ _ w6,t_val 3 _ (.inl rfl) _ w7]
       rfl
      ·rw[List.map_map]
       refine List.map_congr_left (fun n _=>?_)
       show _=Q8 (QQ (fx 4 0x640) [(n:Int),QG b 0 % 8])
       rw[t_val 4 _ (.inr rfl) _ w8];rfl
     ·rw[List.map_singleton,t_jump _ (.inl rfl) _ w15];rfl
    ·by_cases h4:4≤b.length
     ·rw[if_pos h4,if_pos h4,List.map_append]
      congr 1
      ·simp only[List.map_cons,List.map_nil,t_jump _ (.inl rfl) _ w16,t_jump _ (.inr rfl) _ w9,t_jump _ (.inr rfl) _ w10,t_val 4 _ (.inr rfl) _ w8]
       rfl
      ·by_cases h6:6≤b.length
       ·rw[if_pos h6,if_pos h6]
        simp only[List.map_cons,List.map_nil,t_jump _ (.inr rfl) _ w11,t_jump _ (.inr rfl) _ w12]
        rfl
       ·rw[if_neg h6,if_neg h6];rfl
     ·rw[if_neg h4,if_neg h4];rfl
   ·rw[List.map_singleton,t_dc _ (.inl rfl) _ w13];rfl
  ·rw[if_neg h2,if_neg h2];rfl
 ·rw[List.map_singleton,t_dc _ (.inr rfl) _ w14];rfl
end Go.Proofs.YtegiloiojloaoaaGreatDoor.Rf
