/- The reference's small functions: in, word, long, find, two, register. -/
import Derived.Test.YtegiloiojloaoaaGreatDoorCSpec
import Derived.Test.YtegiloiojloaoaaGreatDoorCRoles
import Derived.Test.YtegiloiojloaoaaGreatDoorCRf0
import Derived.Laws.BytesArg
set_option linter.unusedVariables false
set_option linter.unusedSimpArgs false
set_option maxHeartbeats 4000000
set_option maxRecDepth 100000
namespace Go.Proofs.YtegiloiojloaoaaGreatDoor
open Go.RowKit Go.Shelf Go.Sort Go.Maps
namespace Rf
theorem ZQ {S:Strd.Bs} {i:Nat} {c:UInt8} (h:S[i]? = some c):∀h':i<(bstr S).size,(bstr S)[i]'h'=c:=fun h'=>by
 have h2:i<S.length:=by rw[ZA]at h';exact h'
 rw[gE h2]at h
 have:=Option.some.inj h
 rw[←this]
 rfl
theorem strOf_bytes (bs:Strd.Bs):strOfNums (bs.map fun b=>(b.toNat:Int))=bstr bs:=by
 unfold strOfNums
 have:(bs.map (fun b=>(b.toNat:Int))).map (fun n=>UInt8.ofNat n.toNat)=bs:=by
  rw[List.map_map]
  conv=>rhs;rw[←List.map_id bs]
  exact List.map_congr_left fun b _=>by simp
 rw[this]
theorem conv88 {base:Nat} {W:World} {v:Value} {bs:Strd.Bs} (h:Q1 base W v bs):(convert 88 9 v).run Tryz.prog W=.ok (.string (bstr bs)) W:=by
 rcases h.2 with ⟨rfl,h0⟩|⟨g,cap,cur,rfl,hb,hx,_,_,hsz,htk⟩
 ·have e:=List.eq_nil_of_length_eq_zero h0
  subst e
  exact run_convert_bytes_nil W 88 5 Tryz.underlying88 Tryz.underlying5 0 0 9 Tryz.underlying9
 ·have:=run_convert_bytes_arg (P:=Tryz.prog) W 88 5 Tryz.underlying88 Tryz.underlying5 g 0 bs.length cap (bs.map fun b=>(b.toNat:Int)) (by simp) (fun i hi=>by
   have hc:=QC hx i
   rw[Nat.zero_add,hc]
   have e:cur[i]? = (bs.map encB)[i]?:=by
    rw[←htk,List.getElem?_take,if_pos (by omega)]
    simp
   rw[e]
   simp[gE hi,encB,gD]) 9 Tryz.underlying9
  rw[strOf_bytes]at this
  exact this
end Rf
theorem in_r (v lo hi:Int) (w:World):Calls Tryz.prog 115 #[.int .i64 v,.int .i64 lo,.int .i64 hi] w fun e w'=>e=.returned (.bool (Strd.within v lo hi))∧w'=w:=by
 generalize hX:Strd.within v lo hi=X
 unfold Strd.within at hX
 have HX:=QB hX
 by_cases h1:lo≤v
 ·by_cases h2:v≤hi
  ·have HT:Hid (X=true):=QB (by rw[←hX];simp[h1,h2])
   clear hX
   go_enter Tryz.func115,Tryz.ntmps115
   go_wp2
   go_ret
   exact⟨by rw[QA HT];simp[h2],rfl⟩
  ·have HT:Hid (X=false):=QB (by rw[←hX];simp[h2])
   clear hX
   go_enter Tryz.func115,Tryz.ntmps115
   go_wp2
   go_ret
   exact⟨by rw[QA HT];first|(simp;omega)|(simp;done)|(simp[h2]),rfl⟩
 ·have HT:Hid (X=false):=QB (by rw[←hX];simp[h1])
  clear hX
  go_enter Tryz.func115,Tryz.ntmps115
  go_wp2
  go_ret
  exact⟨by rw[QA HT];rfl,rfl⟩
theorem find_r (s:Strd.Bs) (c:UInt8) (w:World) (hl:s.length≤2^40):Calls Tryz.prog 106 #[.string (bstr s),.int .u8 (c.toNat:Int)] w fun e w'=>e=.returned (.int .i64 (Rf.find s c))∧w'=w:=by
 have Hat:=QB (fun k h hno=>Rf.find_at (s:=s) (c:=c) (k:=k) h hno)
 have Hno:=QB (Rf.find_no (s:=s) (c:=c))
 generalize Rf.find s c=X at *
 go_enter Tryz.func106,Tryz.ntmps106
 go_wp2
 go_loopw [5] (fun c5 wr=>∃k:Nat,k≤s.length∧c5=.int .i64 k∧(∀i,i<k→s[i]?≠some c)∧wr=w) (fun c _=>s.length-(intOf c).toNat)
 case atStart=>exact⟨0,by omega,rfl,fun i hi=>by omega,rfl⟩
 case round=>
  obtain⟨k,hk,rfl,hnot,hwr⟩:=hrel
  have hwr':=hwr.symm
  subst hwr'
  have Hnot:=QB hnot
  clear hnot
  by_cases hlt:k<s.length
  ·have hltI:(k:Int)<(s.length:Int):=by omega
   have g0:s[k]? = some s[k]:=gE hlt
   have e0:=Rf.ZQ g0
   have G0:=QB g0
   have hw1:IntKind.i64.wrap ((k:Int)+1)=(k:Int)+1:=IntWalk.i64_in _ (by omega)
   generalize s[k]=d at *
   clear g0
   by_cases hd:d=c
   ·have HF:Hid (X=(k:Int)):=QB (QA Hat k (hd ▸ QA G0) (QA Hnot))
    have hb:((d.toNat:Int)==(c.toNat:Int))=true:=by rw[hd];simp
    clear hd
    go_wp2
    go_ret
    exact⟨by rw[QA HF];rfl,rfl⟩
   ·have hb:((d.toNat:Int)==(c.toNat:Int))=false:=by
     simp only[beq_eq_false_iff_ne,ne_eq]
     intro h
     exact hd (UInt8.toNat_inj.1 (by omega))
    have HN:Hid (∀i,i<k+1→s[i]?≠some c):=QB (fun i hi=>by
     by_cases e:i=k
     ·subst e;rw[QA G0];intro h;cases h;exact hd rfl
     ·exact QA Hnot i (by omega))
    clear hd
    go_wp2
    go_roundw
    case rel=>exact⟨k+1,by omega,by go_num,QA HN,trivial⟩
    case measure=>simp[intOf];omega
  ·obtain rfl:k=s.length:=by omega
   have HF:Hid (X=-1):=QB (QA Hno (QA Hnot))
   go_wp2
   go_ret
   exact⟨by rw[QA HF];rfl,rfl⟩
theorem list_beq (a b:Strd.Bs):(a==b)=decide (a=b):=by
 by_cases h:a=b
 ·simp[h]
 ·simp[h]
theorem two_r (s:Strd.Bs) (w:World):Calls Tryz.prog 113 #[.string (bstr s)] w fun e w'=>e=.returned (.int .i64 (Rf.two s))∧w'=w:=by
 generalize hX:Rf.two s=X
 unfold Rf.two at hX
 by_cases h1:s=[109,111,118,101]
 ·subst h1
  have HX:=QB hX
  clear hX
  go_enter Tryz.func113,Tryz.ntmps113
  go_wp2
  go_ret
  exact⟨by rw[←QA HX];rfl,rfl⟩
 ·rw[if_neg h1]at hX
  by_cases h2:s=[97,100,100]
  ·subst h2
   have HX:=QB hX
   clear hX h1
   go_enter Tryz.func113,Tryz.ntmps113
   go_wp2
   go_ret
   exact⟨by rw[←QA HX];rfl,rfl⟩
  ·rw[if_neg h2]at hX
   by_cases h3:s=[115,117,98]
   ·subst h3
    have HX:=QB hX
    clear hX h1 h2
    go_enter Tryz.func113,Tryz.ntmps113
    go_wp2
    go_ret
    exact⟨by rw[←QA HX];rfl,rfl⟩
   ·rw[if_neg h3]at hX
    by_cases h4:s=[99,109,112]
    ·subst h4
     have HX:=QB hX
     clear hX h1 h2 h3
     go_enter Tryz.func113,Tryz.ntmps113
     go_wp2
     go_ret
     exact⟨by rw[←QA HX];rfl,rfl⟩
    ·rw[if_neg h4]at hX
     have HX:=QB hX
     clear hX
     have b1:(s==[109,111,118,101])=false:=by rw[list_beq];simp[h1]
     have b2:(s==[97,100,100])=false:=by rw[list_beq];simp[h2]
     have b3:(s==[115,117,98])=false:=by rw[list_beq];simp[h3]
     have b4:(s==[99,109,112])=false:=by rw[list_beq];simp[h4]
     clear h1 h2 h3 h4
     go_enter Tryz.func113,Tryz.ntmps113
     go_wp2
     go_ret
     exact⟨by rw[←QA HX];rfl,rfl⟩
def strLenOf:Value→Nat
 |.string b=>b.size
 |_=>0
theorem ext_from (S:Strd.Bs) (k:Nat):(bstr S).extract k S.length=bstr (S.drop k):=QZ (by
 rw[ZV,Q4,Q4,List.take_length])
theorem ext_to (S:Strd.Bs) (n:Nat):(bstr S).extract 0 n=bstr (S.take n):=QZ (by
 rw[ZV,Q4,Q4,List.drop_zero])
namespace Rf
def trimR (s:Strd.Bs):Strd.Bs:=(Strd.trimL s.reverse).reverse
theorem trim_eq (s:Strd.Bs):Strd.trim s=trimR (Strd.trimL s):=rfl
theorem trimL_step {s:Strd.Bs} {c:UInt8} (h:s[0]? = some c) (hb:Strd.blank c=true):Strd.trimL (s.drop 1)=Strd.trimL s:=by
 cases s with
 |nil=>cases h
 |cons x t=>
  simp only[gZ,Option.some.injEq]at h
  subst h
  simp[Strd.trimL,List.dropWhile_cons,hb]
theorem trimL_stop {s:Strd.Bs} {c:UInt8} (h:s[0]? = some c) (hb:Strd.blank c=false):Strd.trimL s=s:=by
 cases s with
 |nil=>cases h
 |cons x t=>
  simp only[gZ,Option.some.injEq]at h
  subst h
  simp[Strd.trimL,List.dropWhile_cons,hb]
theorem rev_last {s:Strd.Bs} {c:UInt8} (h:s[s.length-1]? = some c):∃t,s=t++[c]∧s.take (s.length-1)=t:=by
 rcases List.eq_nil_or_concat s with rfl|⟨t,x,rfl⟩
 ·cases h
 ·rw[List.concat_eq_append]at *
  simp at h
  subst h
  exact⟨t,rfl,by simp⟩
theorem trimR_step {s:Strd.Bs} {c:UInt8} (h:s[s.length-1]? = some c) (hb:Strd.blank c=true):trimR (s.take (s.length-1))=trimR s:=by
 obtain⟨t,e,e2⟩:=rev_last h
 rw[e2]
 unfold trimR
 rw[e]
 simp[Strd.trimL,List.dropWhile_cons,hb]
theorem trimR_stop {s:Strd.Bs} {c:UInt8} (h:s[s.length-1]? = some c) (hb:Strd.blank c=false):trimR s=s:=by
 obtain⟨t,e,e2⟩:=rev_last h
 unfold trimR
 rw[e]
 simp[Strd.trimL,List.dropWhile_cons,hb]
end Rf
theorem trim_r (s:Strd.Bs) (w:World) (hl:s.length≤2^40):Calls Tryz.prog 107 #[.string (bstr s)] w fun e w'=>e=.returned (.string (bstr (Strd.trim s)))∧w'=w:=by
 have HE:=QB (Rf.trim_eq s)
 generalize Strd.trim s=X at *
 generalize hL:Strd.trimL s=L at *
 have HL:=QB hL
 clear hL
 go_enter Tryz.func107,Tryz.ntmps107
 go_wp2
 go_loopw [0] (fun c0 wr=>∃t:Strd.Bs,c0=.string (bstr t)∧Strd.trimL t=L∧t.length≤s.length∧wr=w) (fun c _=>strLenOf c)
 case atStart=>exact⟨s,rfl,QA HL,Nat.le_refl _,rfl⟩
 case round=>
  obtain⟨t,rfl,hLt,htl,hwr⟩:=hrel
  have hwr':=hwr.symm
  subst hwr'
  have HLt:=QB hLt
  clear hLt
  have hgo:t=[]∨∃c,t[0]? = some c∧0<t.length:=by
   cases t with
   |nil=>exact .inl rfl
   |cons c r=>exact .inr ⟨c,rfl,by simp⟩
  have hsub:=ext_from t 1
  have hmain:(∃c,t[0]? = some c∧Strd.blank c=true∧0<t.length)∨L=t:=by
   rcases hgo with rfl|⟨c,hc,h0⟩
   ·exact .inr (QA HLt).symm
   ·cases hb:Strd.blank c with
    |true=>exact .inl ⟨c,hc,hb,h0⟩
    |false=>exact .inr ((QA HLt).symm.trans (Rf.trimL_stop hc hb))
  rcases hmain with ⟨c,hc,hb,h0⟩|hLL
  ·have h0I:(0:Int)<(t.length:Int):=by omega
   have e0:=Rf.ZQ hc
   have HN:Hid (Strd.trimL (t.drop 1)=L):=QB ((Rf.trimL_step hc hb).trans (QA HLt))
   have hdl:(t.drop 1).length=t.length-1:=by simp
   have Hdl:=QB hdl
   unfold Strd.blank at hb
   have hcc:c=32∨c=9:=by simpa using hb
   clear hgo hc hb hdl
   rcases hcc with rfl|rfl
   ·go_wp2
    go_roundw
    case rel=>exact⟨t.drop 1,by first|rfl|exact congrArg Value.string hsub|(rw[List.drop_one];done)|simp,QA HN,by have:=QA Hdl;omega,trivial⟩
    case measure=>simp only[strLenOf];simp[ZA];omega
   ·go_wp2
    go_roundw
    case rel=>exact⟨t.drop 1,by first|rfl|exact congrArg Value.string hsub|(rw[List.drop_one];done)|simp,QA HN,by have:=QA Hdl;omega,trivial⟩
    case measure=>simp only[strLenOf];simp[ZA];omega
  ·have Hre:=QB hLL.symm
   have hg2:(t=[])∨(∃c,t[0]? = some c∧Strd.blank c=false∧0<t.length):=by
    rcases hgo with h|⟨c,hc,h0⟩
    ·exact .inl h
    ·cases hb:Strd.blank c with
     |false=>exact .inr ⟨c,hc,hb,h0⟩
     |true=>
      exfalso
      have h1:=Rf.trimL_step hc hb
      rw[QA HLt,hLL]at h1
      have h2:(Strd.trimL (t.drop 1)).length≤(t.drop 1).length:=(List.dropWhile_sublist _).length_le
      rw[h1,List.length_drop]at h2
      omega
   have HX2:Hid (X=Rf.trimR t):=QB (by rw[QA HE,hLL])
   clear HLt hgo HE HL hLL Hre
   rcases hg2 with rfl|⟨c,hc,hb,h0⟩
   ·have HX3:Hid (X=[]):=QB (by rw[QA HX2];rfl)
    clear HX2
    go_upto_region 3 with fail
    go_loopw [0] (fun c0 wq=>c0=.string (bstr [])∧wq=w) (fun _ _=>0)
    case atStart=>exact⟨rfl,rfl⟩
    case round=>
     obtain⟨rfl,hwr⟩:=hrel
     have hwr':=hwr.symm
     subst hwr'
     go_wp2
     go_ret
     exact⟨by rw[QA HX3];rfl,rfl⟩
   ·have h0I:(0:Int)<(t.length:Int):=by omega
    have e0:=Rf.ZQ hc
    unfold Strd.blank at hb
    have hc1:((c.toNat:Int)==32)=false:=by
     simp only[beq_eq_false_iff_ne,ne_eq];intro h
     have:c=32:=UInt8.toNat_inj.1 (by show c.toNat=32;omega)
     rw[this]at hb;cases hb
    have hc2:((c.toNat:Int)==9)=false:=by
     simp only[beq_eq_false_iff_ne,ne_eq];intro h
     have:c=9:=UInt8.toNat_inj.1 (by show c.toNat=9;omega)
     rw[this]at hb;cases hb
    clear hb hc
    go_upto_region 3 with fail
    clear e0 hc1 hc2 hsub
    go_loopw [0] (fun c0 wq=>∃u:Strd.Bs,c0=.string (bstr u)∧Rf.trimR u=X∧u.length≤t.length∧wq=w) (fun c _=>strLenOf c)
    case atStart=>exact⟨t,rfl,(QA HX2).symm,Nat.le_refl _,rfl⟩
    case round=>
     clear HX2 h0 h0I
     obtain⟨u,rfl,hXu,hul,hwr⟩:=hrel
     have hwr':=hwr.symm
     subst hwr'
     have HXu:=QB hXu
     clear hXu
     have hcase:u=[]∨∃c,u[u.length-1]? = some c∧0<u.length:=by
      rcases List.eq_nil_or_concat u with rfl|⟨r,x,rfl⟩
      ·exact .inl rfl
      ·exact .inr ⟨x,by simp,by simp⟩
     rcases hcase with rfl|⟨c,hc,h0⟩
     ·have HF:Hid (X=[]):=QB (by rw[←QA HXu];rfl)
      clear HXu
      go_wp2
      go_ret
      exact⟨by rw[QA HF];rfl,rfl⟩
     ·have h0I:(0:Int)<(u.length:Int):=by omega
      have e0:=Rf.ZQ hc
      have hw1:IntKind.i64.wrap ((u.length:Int)-1)=(u.length:Int)-1:=IntWalk.i64_in _ (by omega)
      have hw2:((u.length:Int)-1).toNat=u.length-1:=by omega
      have hw3:¬((u.length:Int)-1<0):=by omega
      have hw4:(0:Int)≤(u.length:Int)-1:=by omega
      have hw5:(u.length:Int)-1<(u.length:Int):=by omega
      have hw6:(u.length:Int)-1≤(u.length:Int):=by omega
      have hsub:=ext_to u (u.length-1)
      cases hb:Strd.blank c with
      |true=>
       have HN:Hid (Rf.trimR (u.take (u.length-1))=X):=QB ((Rf.trimR_step hc hb).trans (QA HXu))
       have hdl:(u.take (u.length-1)).length=u.length-1:=by simp
       have Hdl:=QB hdl
       unfold Strd.blank at hb
       have hcc:c=32∨c=9:=by simpa using hb
       clear hc hb hdl HXu
       rcases hcc with rfl|rfl
       ·go_wp2
        go_roundw
        case rel=>exact⟨u.take (u.length-1),by first|rfl|exact congrArg Value.string hsub|(simp;done),QA HN,by have:=QA Hdl;omega,trivial⟩
        case measure=>simp only[strLenOf];simp[ZA];omega
       ·go_wp2
        go_roundw
        case rel=>exact⟨u.take (u.length-1),by first|rfl|exact congrArg Value.string hsub|(simp;done),QA HN,by have:=QA Hdl;omega,trivial⟩
        case measure=>simp only[strLenOf];simp[ZA];omega
      |false=>
       have HF:Hid (X=u):=QB (by rw[←QA HXu];exact Rf.trimR_stop hc hb)
       unfold Strd.blank at hb
       have hc1:((c.toNat:Int)==32)=false:=by
        simp only[beq_eq_false_iff_ne,ne_eq];intro h
        have:c=32:=UInt8.toNat_inj.1 (by show c.toNat=32;omega)
        rw[this]at hb;cases hb
       have hc2:((c.toNat:Int)==9)=false:=by
        simp only[beq_eq_false_iff_ne,ne_eq];intro h
        have:c=9:=UInt8.toNat_inj.1 (by show c.toNat=9;omega)
        rw[this]at hb;cases hb
       clear hb hc HXu
       go_wp2
       go_ret
       exact⟨by rw[QA HF];rfl,rfl⟩
theorem encB_rem (x:Int):encB ((x % 256).toNat.toUInt8)=.int .u8 (x % 256):=by
 unfold encB
 have h:(x % 256).toNat<256:=by omega
 have:((x % 256).toNat.toUInt8).toNat=(x % 256).toNat:=by
  rw[UInt8.toNat_ofNat']
  omega
 rw[this]
 congr 1
 omega
theorem bytes_fresh (w:World) (bs:Strd.Bs) (cs:Array Value) (hc:cs=(bs.map encB).toArray) (hl:bs.length≤100):Q1 0 (w.alloc (.cells cs 5)) (.slice (some ⟨w.heap.size,0,none⟩) bs.length bs.length) bs:=by
 subst hc
 exact⟨by simp,.inr ⟨w.heap.size,bs.length,_,rfl,Nat.zero_le _,QH w _,Nat.le_refl _,by unfold maxLen;omega,by simp,by simp only[Nat.mul_one];rw[List.take_of_length_le (by simp)]⟩⟩
theorem word_r (n:Int) (w:World):Calls Tryz.prog 116 #[.int .i64 n] w fun e w'=>e=.returned (.string (bstr (Strd.QI n)))∧Below w.heap.size w w':=by
 have hconv:=Rf.conv88 (bytes_fresh w (Strd.QI n) #[.int .u8 (n / 256 % 256),.int .u8 (n % 256)] (by simp[Strd.QI,encB_rem]) (by simp[Strd.QI]))
 rw[show (Strd.QI n).length=2 from rfl]at hconv
 have hba:=QF w (.cells #[.int .u8 (n / 256 % 256),.int .u8 (n % 256)] 5)
 generalize Strd.QI n=X at *
 go_enter Tryz.func116,Tryz.ntmps116
 go_wp2
 go_ret
 exact⟨rfl,hba⟩
theorem long_r (n:Int) (w:World):Calls Tryz.prog 138 #[.int .i64 n] w fun e w'=>e=.returned (.string (bstr (Strd.QI (n / 65536)++Strd.QI n)))∧Below w.heap.size w w':=by
 have hl1:(Strd.QI (n / 65536)).length=2:=rfl
 have hl2:(Strd.QI n).length=2:=rfl
 have H1:=QB (fun W=>word_r (n / 65536) W)
 have H2:=QB (fun W=>word_r n W)
 generalize Strd.QI (n / 65536)=X at *
 generalize Strd.QI n=Y at *
 have s1:¬9223372036854775807<List.length X+List.length Y:=by omega
 clear hl1 hl2
 go_enter Tryz.func138,Tryz.ntmps138
 go_wp2_with fail
 refine(QA H1 w).mono ?_
 rintro e w1 ⟨rfl,hb1⟩
 go_wp2_with fail
 refine(QA H2 w1).mono ?_
 rintro e w2 ⟨rfl,hb2⟩
 go_wp2
 go_ret
 exact⟨congrArg (fun b=>Ending.returned (Value.string b)) (QZ (by simp)),QE hb1 hb2⟩
namespace Rf
theorem find_digit:∀c:UInt8,find [48,49,50,51,52,53,54,55,56,57,97,98,99,100,101,102] c=if Strd.digitVal c<16 then (Strd.digitVal c:Int) else -1:=by
 intro c
 have:∀n:Fin 256,find [48,49,50,51,52,53,54,55,56,57,97,98,99,100,101,102] (UInt8.ofNat n.1)=if Strd.digitVal (UInt8.ofNat n.1)<16 then (Strd.digitVal (UInt8.ofNat n.1):Int) else -1:=by decide +kernel
 have h:=this ⟨c.toNat,c.toNat_lt⟩
 simpa using h
theorem cut_head (m c:UInt8) (t:Strd.Bs):(Strd.ZB m (c::t)).2=((c.toNat:Int)==(m.toNat:Int)):=by
 show (if c=m then (t,true) else (c::t,false)).2=_
 by_cases hc:c=m
 ·rw[if_pos hc,hc];simp
 ·rw[if_neg hc]
  symm
  simp only[beq_eq_false_iff_ne,ne_eq];intro h
  exact hc (UInt8.toNat_inj.1 (by omega))
theorem cut_true {m:UInt8} {s:Strd.Bs} (h:(Strd.ZB m s).2=true):(Strd.ZB m s).1=s.drop 1∧1≤s.length:=by
 cases s with
 |nil=>cases h
 |cons c t=>
  have e:Strd.ZB m (c::t)=if c=m then (t,true) else (c::t,false):=rfl
  rw[e]at h ⊢
  by_cases hc:c=m
  ·rw[if_pos hc];exact⟨rfl,by simp⟩
  ·rw[if_neg hc]at h;cases h
theorem cut_false {m:UInt8} {s:Strd.Bs} (h:(Strd.ZB m s).2=false):(Strd.ZB m s).1=s:=by
 cases s with
 |nil=>rfl
 |cons c t=>
  have e:Strd.ZB m (c::t)=if c=m then (t,true) else (c::t,false):=rfl
  rw[e]at h ⊢
  by_cases hc:c=m
  ·rw[if_pos hc]at h;cases h
  ·rw[if_neg hc]
theorem cut_len (m:UInt8) (s:Strd.Bs):(Strd.ZB m s).1.length≤s.length:=by
 cases h:(Strd.ZB m s).2 with
 |true=>rw[(cut_true h).1,List.length_drop];omega
 |false=>rw[cut_false h];exact Nat.le_refl _
end Rf
theorem number_ref (s:Strd.Bs) (w:World) (hl:s.length≤2^40):Calls Tryz.prog 74 #[.string (bstr s)] w fun e w'=>e=.returned (.tuple #[.int .i64 ((Strd.number s).getD 0),.bool (Strd.number s).isSome])∧w'=w:=by
 generalize hX:Strd.number s=X
 unfold Strd.number at hX
 simp only at hX
 go_enter Tryz.func74,Tryz.ntmps74
 go_upto_region 1 with fail
 go_cut [4] (fun c4 wc=>c4=.bool (Strd.ZB 45 s).2∧wc=w)
 case first=>
  clear hX
  cases s with
  |nil=>
   go_wp2
   go_meet
   exact⟨rfl,rfl⟩
  |cons c t=>
   have e0:=Rf.ZQ (show (c::t)[0]? = some c from rfl)
   have h0:(0:Int)<(((c::t).length:Nat):Int):=by simp only[List.length_cons];omega
   have HC:Hid ((Strd.ZB 45 (c::t)).2=((c.toNat:Int)==45)):=QB (Rf.cut_head 45 c t)
   generalize (Strd.ZB 45 (c::t)).2=NG at *
   generalize (c::t)=S at *
   go_wp2
   go_meet
   exact⟨by rw[QA HC],rfl⟩
 case rest=>
  obtain⟨rfl,hwc⟩:=hcut
  have hwc':=hwc.symm
  subst hwc'
  have Ht:=QB (Rf.cut_true (m:=45) (s:=s))
  have Hf:=QB (Rf.cut_false (m:=45) (s:=s))
  have hl1:=Rf.cut_len 45 s
  have hsub:=ext_from s 1
  generalize hp:Strd.ZB 45 s=p at *
  obtain⟨s1,ng⟩:=p
  simp only at hX Ht Hf hl1 ⊢
  clear hp
  go_upto_if 17 with fail
  go_cut [0] (fun c0 wc=>c0=.string (bstr s1)∧wc=w)
  case first=>
   cases ng with
   |true=>
    obtain⟨e1,h1⟩:=QA Ht rfl
    have He:=QB e1
    have h1I:(1:Int)≤(s.length:Int):=by omega
    clear hX e1 Ht Hf
    go_wp2
    go_meet
    exact⟨by rw[QA He];first|rfl|exact congrArg Value.string hsub|simp,rfl⟩
   |false=>
    have He:=QB (QA Hf rfl)
    clear hX Ht Hf
    go_wp2
    go_meet
    exact⟨by rw[QA He],rfl⟩
  case rest=>
   obtain⟨rfl,hwc⟩:=hcut
   have hwc':=hwc.symm
   subst hwc'
   clear Ht Hf hsub
   go_upto_region 5 with fail
   go_cut [27] (fun c27 wc=>c27=.bool (Strd.ZB 36 s1).2∧wc=w)
   case first=>
    clear hX
    cases s1 with
    |nil=>
     go_wp2
     go_meet
     exact⟨rfl,rfl⟩
    |cons c t=>
     have e0:=Rf.ZQ (show (c::t)[0]? = some c from rfl)
     have h0:(0:Int)<(((c::t).length:Nat):Int):=by simp only[List.length_cons];omega
     have HC:Hid ((Strd.ZB 36 (c::t)).2=((c.toNat:Int)==36)):=QB (Rf.cut_head 36 c t)
     generalize (Strd.ZB 36 (c::t)).2=NG at *
     generalize (c::t)=S at *
     go_wp2
     go_meet
     exact⟨by rw[QA HC],rfl⟩
   case rest=>
    obtain⟨rfl,hwc⟩:=hcut
    have hwc':=hwc.symm
    subst hwc'
    have Ht:=QB (Rf.cut_true (m:=36) (s:=s1))
    have Hf:=QB (Rf.cut_false (m:=36) (s:=s1))
    have hl2:=Rf.cut_len 36 s1
    have hsub:=ext_from s1 1
    generalize hp:Strd.ZB 36 s1=p at *
    obtain⟨s2,hx⟩:=p
    simp only at hX Ht Hf hl2 ⊢
    clear hp
    go_upto_if 27 with fail
    go_cut [0,5] (fun c0 c5 wc=>c0=.string (bstr s2)∧c5=.int .i64 ((if hx then 16 else 10:Nat):Int)∧wc=w)
    case first=>
     cases hx with
     |true=>
      obtain⟨e1,h1⟩:=QA Ht rfl
      have He:=QB e1
      have h1I:(1:Int)≤(s1.length:Int):=by omega
      clear hX e1 Ht Hf
      go_wp2
      go_meet
      exact⟨by rw[QA He];first|rfl|exact congrArg Value.string hsub|simp,rfl,rfl⟩
     |false=>
      have He:=QB (QA Hf rfl)
      clear hX Ht Hf
      go_wp2
      go_meet
      exact⟨by rw[QA He],rfl,rfl⟩
    case rest=>
     obtain⟨rfl,rfl,hwc⟩:=hcut
     have hwc':=hwc.symm
     subst hwc'
     clear Ht Hf hsub
     have hb16:(if hx then 16 else 10:Nat)≤16:=by cases hx <;> decide
     have hb10:10≤(if hx then 16 else 10:Nat):=by cases hx <;> decide
     have hXb:(if 1≤s2.length∧s2.length≤8 then (Strd.QY (if hx then 16 else 10:Nat) 0 s2).map (fun v=>if ng then -(v:Int) else (v:Int)) else none)=X:=by rw[←hX]
     generalize (if hx then 16 else 10:Nat)=B at *
     clear hX
     by_cases hlen:1≤s2.length∧s2.length≤8
     ·rw[if_pos hlen]at hXb
      have hn1:¬(s2.length:Int)<1:=by omega
      have hn8:¬(8:Int)<(s2.length:Int):=by omega
      have HX:=QB hXb
      clear hXb
      go_wp2
      go_loopw [6,7] (fun c6 c7 wq=>∃k acc:Nat,k≤s2.length∧c7=.int .i64 k∧c6=.int .i64 acc∧Strd.QY B 0 s2=Strd.QY B acc (s2.drop k)∧acc<16^k∧wq=w) (fun _ c _=>s2.length-(intOf c).toNat)
      case atStart=>exact⟨0,0,by omega,rfl,rfl,by simp,by simp,rfl⟩
      case round=>
       obtain⟨k,acc,hk,rfl,rfl,hD,hacc,hwr⟩:=hrel
       have hwr':=hwr.symm
       subst hwr'
       have HD:=QB hD
       clear hD
       have hp8:(16:Nat)^k≤16^8:=Nat.pow_le_pow_right (by decide) (by omega)
       have hacc8:acc<4294967296:=Nat.lt_of_lt_of_le hacc (Nat.le_trans hp8 (by decide))
       by_cases hlt:k<s2.length
       ·have hltI:(k:Int)<(s2.length:Int):=by omega
        have g0:s2[k]? = some s2[k]:=gE hlt
        have e0:=Rf.ZQ g0
        have hdr:s2.drop k=s2[k]::s2.drop (k+1):=List.drop_eq_getElem_cons hlt
        have Hstep:Hid (Strd.QY B 0 s2=if Strd.digitVal s2[k]<B then Strd.QY B (acc*B+Strd.digitVal s2[k]) (s2.drop (k+1)) else none):=QB (by rw[QA HD,hdr];rfl)
        have CF:=QB (fun W=>find_r [48,49,50,51,52,53,54,55,56,57,97,98,99,100,101,102] s2[k] W (by decide))
        rw[Rf.find_digit]at CF
        generalize Strd.digitVal s2[k]=d at *
        generalize s2[k]=c at *
        have hw1:IntKind.i64.wrap ((k:Int)+1)=(k:Int)+1:=IntWalk.i64_in _ (by omega)
        clear g0 hdr
        by_cases hd:d<B
        ·have hd16:d<16:=by omega
         rw[if_pos hd16]at CF
         have hdI:¬((d:Int)<0):=by omega
         have hdB:¬((B:Int)≤(d:Int)):=by omega
         have hmul:acc*B≤acc*16:=Nat.mul_le_mul_left _ hb16
         have hmc:B*acc=acc*B:=Nat.mul_comm _ _
         have hmI:(B:Int)*(acc:Int)=((acc*B:Nat):Int):=by rw[←hmc];push_cast;rfl
         have HN:Hid (Strd.QY B 0 s2=Strd.QY B (acc*B+d) (s2.drop (k+1))):=QB (by rw[QA Hstep,if_pos hd])
         have hnew:acc*B+d<16^(k+1):=by rw[Nat.pow_succ];omega
         have hw2:IntKind.i64.wrap ((B:Int)*(acc:Int))=((acc*B:Nat):Int):=by rw[hmI];exact IntWalk.i64_in _ (by omega)
         have hw3:IntKind.i64.wrap (((acc*B:Nat):Int)+(d:Int))=((acc*B:Nat):Int)+(d:Int):=IntWalk.i64_in _ (by omega)
         generalize acc*B=AB at *
         clear hmc hmI
         go_wp2_with (go_at_call 106;refine(QA CF w).mono ?_;rintro e w' ⟨rfl,rfl⟩)
         go_roundw
         case rel=>exact⟨k+1,AB+d,by omega,by go_num,by go_num,QA HN,hnew,trivial⟩
         case measure=>simp[intOf];omega
        ·have HF:Hid (X=none):=QB (by rw[←QA HX,QA Hstep,if_neg hd];rfl)
         by_cases hd16:d<16
         ·rw[if_pos hd16]at CF
          have hdI:¬((d:Int)<0):=by omega
          have hdB:(B:Int)≤(d:Int):=by omega
          go_wp2_with (go_at_call 106;refine(QA CF w).mono ?_;rintro e w' ⟨rfl,rfl⟩)
          go_ret2
          exact⟨by rw[QA HF];rfl,rfl⟩
         ·rw[if_neg hd16]at CF
          go_wp2_with (go_at_call 106;refine(QA CF w).mono ?_;rintro e w' ⟨rfl,rfl⟩)
          go_ret2
          exact⟨by rw[QA HF];rfl,rfl⟩
       ·obtain rfl:k=s2.length:=by omega
        have HF:Hid (X=some (if ng then -(acc:Int) else (acc:Int))):=QB (by
         rw[←QA HX,QA HD,List.drop_length];rfl)
        have hw4:IntKind.i64.wrap (-(acc:Int))=-(acc:Int):=IntWalk.i64_in _ (by omega)
        cases ng with
        |true=>
         go_wp2
         go_ret2
         exact⟨by rw[QA HF];rfl,rfl⟩
        |false=>
         go_wp2
         go_ret2
         exact⟨by rw[QA HF];rfl,rfl⟩
     ·rw[if_neg hlen]at hXb
      have HX:=QB hXb
      clear hXb
      by_cases hn1:(s2.length:Int)<1
      ·go_wp2
       go_ret2
       exact⟨by rw[←QA HX];rfl,rfl⟩
      ·have hn8:(8:Int)<(s2.length:Int):=by omega
       go_wp2
       go_ret2
       exact⟨by rw[←QA HX];rfl,rfl⟩
namespace Rf
theorem u8_sub:∀k:UInt8,48≤k→k≤57→IntKind.u8.wrap ((k.toNat:Int)-48)=(k.toNat:Int)-48:=by
 intro k h1 h2
 have:∀n:Fin 256,48≤n.1→n.1≤57→IntKind.u8.wrap ((n.1:Int)-48)=(n.1:Int)-48:=by decide +kernel
 exact this ⟨k.toNat,k.toNat_lt⟩ (by have:=UInt8.le_iff_toNat_le.1 h1;simpa using this) (by have:=UInt8.le_iff_toNat_le.1 h2;simpa using this)
end Rf
theorem value_ref (s:Strd.Bs) (w:World) (hl:s.length≤2^40):Calls Tryz.prog 114 #[.string (bstr s)] w fun e w'=>e=.returned (.tuple #[.int .i64 ((Rf.value s).getD 0),.bool (Rf.value s).isSome])∧w'=w:=by
 generalize hX:Rf.value s=X
 cases s with
 |nil=>
  have HX:=QB hX
  clear hX
  go_enter Tryz.func114,Tryz.ntmps114
  go_wp2
  go_ret2
  exact⟨by rw[←QA HX];rfl,rfl⟩
 |cons c t=>
  have e0:=Rf.ZQ (show (c::t)[0]? = some c from rfl)
  have h1:¬((((c::t).length:Nat):Int)<1):=by simp only[List.length_cons];omega
  have h1I:(1:Int)≤(((c::t).length:Nat):Int):=by simp only[List.length_cons];omega
  have hsub:=ext_from (c::t) 1
  rw[List.drop_one,List.tail_cons]at hsub
  have CN:=QB (number_ref t w (by simp only[List.length_cons]at hl;omega))
  have hX':(if c=35 then Strd.number t else none)=X:=hX
  clear hX
  generalize (c::t)=S at *
  by_cases hc:c=35
  ·rw[if_pos hc]at hX'
   rw[hX']at CN
   have b0:((c.toNat:Int)==35)=true:=by rw[hc];rfl
   clear hc hX'
   go_enter Tryz.func114,Tryz.ntmps114
   go_wp2_with (go_at_call 74;refine(QA CN).mono ?_;rintro e w' ⟨rfl,rfl⟩)
   go_ret2
   exact⟨rfl,rfl⟩
  ·rw[if_neg hc]at hX'
   have HX:=QB hX'
   have b0:((c.toNat:Int)==35)=false:=Rf.beq_u8 c 35 hc
   clear hc hX'
   go_enter Tryz.func114,Tryz.ntmps114
   go_wp2
   go_ret2
   exact⟨by rw[←QA HX];rfl,rfl⟩
theorem register_ref (s:Strd.Bs) (w:World) (hl:s.length≤2^40):Calls Tryz.prog 112 #[.string (bstr s)] w fun e w'=>e=.returned (.tuple #[.int .i64 ((Rf.register s).getD 0),.bool (Rf.register s).isSome])∧w'=w:=by
 generalize hX:Rf.register s=X
 by_cases h2:s.length=2
 ·obtain⟨d,k,rfl⟩:∃d k,s=[d,k]:=by
   cases s with
   |nil=>cases h2
   |cons d t=>
    cases t with
    |nil=>cases h2
    |cons k t=>
     cases t with
     |nil=>exact⟨d,k,rfl⟩
     |cons _ _=>simp at h2
  have hX':(if d=100∧48≤k∧k≤57 then some ((k.toNat:Int)-48) else none)=X:=hX
  have e0:=Rf.ZQ (show [d,k][0]? = some d from rfl)
  have e1:=Rf.ZQ (show [d,k][1]? = some k from rfl)
  have hlI:(([d,k].length:Nat):Int)=2:=rfl
  clear hX h2
  by_cases hd:d=100
  ·have b0:((d.toNat:Int) != 100)=false:=by rw[hd];rfl
   by_cases hk:48≤k
   ·have b1:¬((k.toNat:Int)<48):=by have:=UInt8.le_iff_toNat_le.1 hk;simp at this;omega
    by_cases hk9:k≤57
    ·have b2:¬(57<(k.toNat:Int)):=by have:=UInt8.le_iff_toNat_le.1 hk9;simp at this;omega
     rw[if_pos ⟨hd,hk,hk9⟩]at hX'
     have HX:=QB hX'
     have hw1:=Rf.u8_sub k hk hk9
     have hw2:IntKind.i64.wrap ((k.toNat:Int)-48)=(k.toNat:Int)-48:=IntWalk.i64_in _ (by have:=k.toNat_lt;omega)
     clear hd hX' hk hk9
     go_enter Tryz.func112,Tryz.ntmps112
     go_wp2
     go_ret2
     exact⟨by rw[←QA HX];rfl,rfl⟩
    ·have b2:57<(k.toNat:Int):=by have:¬k.toNat≤57:=fun h=>hk9 (UInt8.le_iff_toNat_le.2 (by simpa using h));omega
     rw[if_neg (fun h=>hk9 h.2.2)]at hX'
     have HX:=QB hX'
     clear hd hX' hk hk9
     go_enter Tryz.func112,Tryz.ntmps112
     go_wp2
     go_ret2
     exact⟨by rw[←QA HX];rfl,rfl⟩
   ·have b1:(k.toNat:Int)<48:=by have:¬48≤k.toNat:=fun h=>hk (UInt8.le_iff_toNat_le.2 (by simpa using h));omega
    rw[if_neg (fun h=>hk h.2.1)]at hX'
    have HX:=QB hX'
    clear hd hX' hk
    go_enter Tryz.func112,Tryz.ntmps112
    go_wp2
    go_ret2
    exact⟨by rw[←QA HX];rfl,rfl⟩
  ·have b0:((d.toNat:Int) != 100)=true:=by have:=Rf.beq_u8 d 100 hd;simp only[bne];rw[show ((d.toNat:Int)==100)=false from this];rfl
   rw[if_neg (fun h=>hd h.1)]at hX'
   have HX:=QB hX'
   clear hd hX'
   go_enter Tryz.func112,Tryz.ntmps112
   go_wp2
   go_ret2
   exact⟨by rw[←QA HX];rfl,rfl⟩
 ·have HX:Hid (X=none):=QB (by
   rw[←hX]
   unfold Rf.register
   split
   ·simp at h2
   ·rfl)
  have h2I:((s.length:Int) != 2)=true:=by simp only[bne_iff_ne,ne_eq];omega
  clear hX h2
  go_enter Tryz.func112,Tryz.ntmps112
  go_wp2
  go_ret2
  exact⟨by rw[QA HX];rfl,rfl⟩
abbrev jumpLit:Array Value:=#[.string ⟨#[98,114,97]⟩,.string ⟨#[98,115,114]⟩,.string ⟨#[98,104,105]⟩,.string ⟨#[98,108,115]⟩,.string ⟨#[98,99,99]⟩,.string ⟨#[98,99,115]⟩,.string ⟨#[98,110,101]⟩,.string ⟨#[98,101,113]⟩,.string ⟨#[98,118,99]⟩,.string ⟨#[98,118,115]⟩,.string ⟨#[98,112,108]⟩,.string ⟨#[98,109,105]⟩,.string ⟨#[98,103,101]⟩,.string ⟨#[98,108,116]⟩,.string ⟨#[98,103,116]⟩,.string ⟨#[98,108,101]⟩]
theorem jump_lit:jumpLit=jumpCells:=by kernel_rfl
theorem condition_ref (s:Strd.Bs) (w:World) (hl:s.length≤2^40):Calls Tryz.prog 109 #[.string (bstr s)] w fun e w'=>e=.returned (.int .i64 (Rf.condition s))∧Below w.heap.size w w':=by
 have Hat:=QB (fun k hk h hno=>Rf.cond_at (w:=s) (k:=k) hk h hno)
 have Hno:=QB (Rf.cond_no (w:=s))
 generalize Rf.condition s=X at *
 have hba:=QF w (.cells jumpLit 9)
 have Hbx:=QB (QH w (.cells jumpLit 9))
 go_enter Tryz.func109,Tryz.ntmps109
 go_upto_region 3 with fail
 generalize w.alloc (.cells jumpLit 9)=w1 at *
 have hcell:∀k,k<16→w1.cell? ⟨w.heap.size,k,none⟩=some (.string (bstr (Strd.jumpWords.getD k []))):=fun k hk=>by
  rw[QC (QA Hbx),jump_lit]
  unfold jumpCells
  rw[gA,List.getElem?_map,gD,gE (by exact hk)]
  rfl
 have Hcell:=QB hcell
 have hltB:=QD (QA Hbx)
 clear hcell
 go_loopw [4] (fun c4 wq=>∃k:Nat,k≤16∧c4=.int .i64 k∧(∀i,i<k→Strd.jumpWords.getD i []≠s)∧wq=w1) (fun c _=>16-(intOf c).toNat)
 case atStart=>exact⟨0,by omega,rfl,fun i hi=>by omega,rfl⟩
 case round=>
  obtain⟨k,hk,rfl,hnot,hwr⟩:=hrel
  have hwr':=hwr.symm
  subst hwr'
  have Hnot:=QB hnot
  clear hnot
  by_cases hlt:k<16
  ·have hltI:(k:Int)<16:=by omega
   have e0:=QA Hcell k hlt
   have Hk:Hid (Strd.jumpWords.getD k []=s→X=(k:Int)):=QB (fun h=>QA Hat k hlt h (QA Hnot))
   have HN:Hid (Strd.jumpWords.getD k []≠s→∀i,i<k+1→Strd.jumpWords.getD i []≠s):=QB (fun h i hi=>by
    by_cases e:i=k
    ·subst e;exact h
    ·exact QA Hnot i (by omega))
   generalize Strd.jumpWords.getD k []=J at *
   have hw1:IntKind.i64.wrap ((k:Int)+1)=(k:Int)+1:=IntWalk.i64_in _ (by omega)
   by_cases hd:J=s
   ·have HF:=QB (QA Hk hd)
    have hb:(J==s)=true:=by rw[list_beq];simp[hd]
    clear hd
    go_wp2
    go_ret
    exact⟨by rw[QA HF];rfl,hba⟩
   ·have HN2:=QB (QA HN hd)
    have hb:(J==s)=false:=by rw[list_beq];simp[hd]
    clear hd
    go_wp2
    go_roundw
    case rel=>exact⟨k+1,by omega,by go_num,QA HN2,trivial⟩
    case measure=>simp[intOf];omega
  ·obtain rfl:k=16:=by omega
   have HF:Hid (X=-1):=QB (QA Hno (QA Hnot))
   go_wp2
   go_ret
   exact⟨by rw[QA HF];rfl,hba⟩
theorem isJump_ref (s:Strd.Bs) (w:World) (hl:s.length≤2^40):Calls Tryz.prog 75 #[.string (bstr s)] w fun e w'=>e=.returned (.bool (Rf.QN s))∧Below w.heap.size w w':=by
 have CC:=QB (condition_ref s w hl)
 generalize hX:Rf.QN s=X
 unfold Rf.QN Rf.far at hX
 generalize Rf.condition s=c at *
 by_cases hc:0≤c
 ·have HX:Hid (X=true):=QB (by rw[←hX];simp[hc])
  clear hX
  go_enter Tryz.func75,Tryz.ntmps75
  go_wp2_with (go_at_call 109;refine(QA CC).mono ?_;rintro e w' ⟨rfl,hb⟩)
  go_ret
  exact⟨by rw[QA HX];rfl,hb⟩
 ·have HX:Hid (X=(s==[106,109,112]||s==[106,115,114])):=QB (by rw[←hX];simp[hc])
  clear hX
  cases h1:(s==[106,109,112]) with
  |true=>
   rw[h1]at HX
   go_enter Tryz.func75,Tryz.ntmps75
   go_wp2_with (go_at_call 109;refine(QA CC).mono ?_;rintro e w' ⟨rfl,hb⟩)
   go_ret
   exact⟨by rw[QA HX];rfl,hb⟩
  |false=>
   rw[h1]at HX
   cases h2:(s==[106,115,114]) with
   |true=>
    rw[h2]at HX
    go_enter Tryz.func75,Tryz.ntmps75
    go_wp2_with (go_at_call 109;refine(QA CC).mono ?_;rintro e w' ⟨rfl,hb⟩)
    go_ret
    exact⟨by rw[QA HX];rfl,hb⟩
   |false=>
    rw[h2]at HX
    go_enter Tryz.func75,Tryz.ntmps75
    go_wp2_with (go_at_call 109;refine(QA CC).mono ?_;rintro e w' ⟨rfl,hb⟩)
    go_ret
    exact⟨by rw[QA HX];simp[hc],hb⟩
theorem holds_ref (s:Strd.Bs) (v:Int) (w:World):Calls Tryz.prog 78 #[.string (bstr s),.int .i64 v] w fun e w'=>e=.returned (.bool (Rf.holds s v))∧w'=w:=by
 generalize hX:Rf.holds s v=X
 unfold Rf.holds at hX
 by_cases hc:s=[100,99,46,119]
 ·rw[if_pos hc]at hX
  have CI:=QB (in_r v (-0x8000) 0xffff w)
  rw[hX]at CI
  have hb:(s==[100,99,46,119])=true:=by rw[list_beq];simp[hc]
  clear hc hX
  go_enter Tryz.func78,Tryz.ntmps78
  go_wp2_with (go_at_call 115;refine(QA CI).mono ?_;rintro e w' ⟨rfl,rfl⟩)
  go_ret
  exact⟨rfl,rfl⟩
 ·rw[if_neg hc]at hX
  have CI:=QB (in_r v (-0x80) 0xff w)
  rw[hX]at CI
  have hb:(s==[100,99,46,119])=false:=by rw[list_beq];simp[hc]
  clear hc hX
  go_enter Tryz.func78,Tryz.ntmps78
  go_wp2_with (go_at_call 115;refine(QA CI).mono ?_;rintro e w' ⟨rfl,rfl⟩)
  go_ret
  exact⟨rfl,rfl⟩
theorem shape_ref (s:Strd.Bs) (w:World) (hl:s.length≤2^40):Calls Tryz.prog 110 #[.string (bstr s)] w fun e w'=>e=.returned (.tuple #[.string (bstr ((Rf.shape s).getD [])),.bool (Rf.shape s).isSome])∧Below w.heap.size w w':=by
 have CC:=QB (condition_ref s w hl)
 have CT:=QB (fun W=>two_r s W)
 generalize hX:Rf.shape s=X
 unfold Rf.shape at hX
 generalize Rf.condition s=c at *
 generalize Rf.two s=t at *
 cases h0:(s==[110,111,112]) with
 |true=>
  rw[if_pos h0]at hX
  have HX:=QB hX
  clear hX
  go_enter Tryz.func110,Tryz.ntmps110
  go_wp2_with (first|(go_at_call 109;refine(QA CC).mono ?_;rintro e wc ⟨rfl,hb⟩)|(go_at_call 113;refine(QA CT _).mono ?_;rintro e w' ⟨rfl,rfl⟩))
  go_ret2
  exact⟨by rw[←QA HX];rfl,hb⟩
 |false=>
  rw[if_neg (by rw[h0];decide)]at hX
  cases h1:(s==[114,116,115]) with
  |true=>
   rw[if_pos h1]at hX
   have HX:=QB hX
   clear hX
   go_enter Tryz.func110,Tryz.ntmps110
   go_wp2_with (first|(go_at_call 109;refine(QA CC).mono ?_;rintro e wc ⟨rfl,hb⟩)|(go_at_call 113;refine(QA CT _).mono ?_;rintro e w' ⟨rfl,rfl⟩))
   go_ret2
   exact⟨by rw[←QA HX];rfl,hb⟩
  |false=>
   rw[if_neg (by rw[h1];decide)]at hX
   by_cases h2:0<t
   ·rw[if_pos h2]at hX
    have HX:=QB hX
    clear hX
    go_enter Tryz.func110,Tryz.ntmps110
    go_wp2_with (first|(go_at_call 109;refine(QA CC).mono ?_;rintro e wc ⟨rfl,hb⟩)|(go_at_call 113;refine(QA CT _).mono ?_;rintro e w' ⟨rfl,rfl⟩))
    go_ret2
    exact⟨by rw[←QA HX];rfl,hb⟩
   ·rw[if_neg h2]at hX
    cases h3:(s==[109,111,118,101,113]) with
    |true=>
     rw[if_pos h3]at hX
     have HX:=QB hX
     clear hX
     go_enter Tryz.func110,Tryz.ntmps110
     go_wp2_with (first|(go_at_call 109;refine(QA CC).mono ?_;rintro e wc ⟨rfl,hb⟩)|(go_at_call 113;refine(QA CT _).mono ?_;rintro e w' ⟨rfl,rfl⟩))
     go_ret2
     exact⟨by rw[←QA HX];rfl,hb⟩
    |false=>
     rw[if_neg (by rw[h3];decide)]at hX
     cases h4:(s==[97,100,100,105]) with
     |true=>
      rw[if_pos h4]at hX
      have HX:=QB hX
      clear hX
      go_enter Tryz.func110,Tryz.ntmps110
      go_wp2_with (first|(go_at_call 109;refine(QA CC).mono ?_;rintro e wc ⟨rfl,hb⟩)|(go_at_call 113;refine(QA CT _).mono ?_;rintro e w' ⟨rfl,rfl⟩))
      go_ret2
      exact⟨by rw[←QA HX];rfl,hb⟩
     |false=>
      rw[if_neg (by rw[h4];decide)]at hX
      by_cases h5:0≤c
      ·rw[if_pos h5]at hX
       have HX:=QB hX
       clear hX
       go_enter Tryz.func110,Tryz.ntmps110
       go_wp2_with (first|(go_at_call 109;refine(QA CC).mono ?_;rintro e wc ⟨rfl,hb⟩)|(go_at_call 113;refine(QA CT _).mono ?_;rintro e w' ⟨rfl,rfl⟩))
       go_ret2
       exact⟨by rw[←QA HX];rfl,hb⟩
      ·rw[if_neg h5]at hX
       cases h6:(s==[106,109,112]) with
       |true=>
        rw[if_pos h6]at hX
        have HX:=QB hX
        clear hX
        go_enter Tryz.func110,Tryz.ntmps110
        go_wp2_with (first|(go_at_call 109;refine(QA CC).mono ?_;rintro e wc ⟨rfl,hb⟩)|(go_at_call 113;refine(QA CT _).mono ?_;rintro e w' ⟨rfl,rfl⟩))
        go_ret2
        exact⟨by rw[←QA HX];rfl,hb⟩
       |false=>
        rw[if_neg (by rw[h6];decide)]at hX
        cases h7:(s==[106,115,114]) with
        |true=>
         rw[if_pos h7]at hX
         have HX:=QB hX
         clear hX
         go_enter Tryz.func110,Tryz.ntmps110
         go_wp2_with (first|(go_at_call 109;refine(QA CC).mono ?_;rintro e wc ⟨rfl,hb⟩)|(go_at_call 113;refine(QA CT _).mono ?_;rintro e w' ⟨rfl,rfl⟩))
         go_ret2
         exact⟨by rw[←QA HX];rfl,hb⟩
        |false=>
         rw[if_neg (by rw[h7];decide)]at hX
         cases h8:(s==[100,99,46,119]) with
         |true=>
          rw[if_pos h8]at hX
          have HX:=QB hX
          clear hX
          go_enter Tryz.func110,Tryz.ntmps110
          go_wp2_with (first|(go_at_call 109;refine(QA CC).mono ?_;rintro e wc ⟨rfl,hb⟩)|(go_at_call 113;refine(QA CT _).mono ?_;rintro e w' ⟨rfl,rfl⟩))
          go_ret2
          exact⟨by rw[←QA HX];rfl,hb⟩
         |false=>
          rw[if_neg (by rw[h8];decide)]at hX
          cases h9:(s==[100,99,46,98]) with
          |true=>
           rw[if_pos h9]at hX
           have HX:=QB hX
           clear hX
           go_enter Tryz.func110,Tryz.ntmps110
           go_wp2_with (first|(go_at_call 109;refine(QA CC).mono ?_;rintro e wc ⟨rfl,hb⟩)|(go_at_call 113;refine(QA CT _).mono ?_;rintro e w' ⟨rfl,rfl⟩))
           go_ret2
           exact⟨by rw[←QA HX];rfl,hb⟩
          |false=>
           rw[if_neg (by rw[h9];decide)]at hX
           cases h10:(s==[100,115]) with
           |true=>
            rw[if_pos h10]at hX
            have HX:=QB hX
            clear hX
            go_enter Tryz.func110,Tryz.ntmps110
            go_wp2_with (first|(go_at_call 109;refine(QA CC).mono ?_;rintro e wc ⟨rfl,hb⟩)|(go_at_call 113;refine(QA CT _).mono ?_;rintro e w' ⟨rfl,rfl⟩))
            go_ret2
            exact⟨by rw[←QA HX];rfl,hb⟩
           |false=>
            rw[if_neg (by rw[h10];decide)]at hX
            cases h11:(s==[97,108,105,103,110]) with
            |true=>
             rw[if_pos h11]at hX
             have HX:=QB hX
             clear hX
             go_enter Tryz.func110,Tryz.ntmps110
             go_wp2_with (first|(go_at_call 109;refine(QA CC).mono ?_;rintro e wc ⟨rfl,hb⟩)|(go_at_call 113;refine(QA CT _).mono ?_;rintro e w' ⟨rfl,rfl⟩))
             go_ret2
             exact⟨by rw[←QA HX];rfl,hb⟩
            |false=>
             rw[if_neg (by rw[h11];decide)]at hX
             cases h12:(s==[111,114,103]) with
             |true=>
              rw[if_pos h12]at hX
              have HX:=QB hX
              clear hX
              go_enter Tryz.func110,Tryz.ntmps110
              go_wp2_with (first|(go_at_call 109;refine(QA CC).mono ?_;rintro e wc ⟨rfl,hb⟩)|(go_at_call 113;refine(QA CT _).mono ?_;rintro e w' ⟨rfl,rfl⟩))
              go_ret2
              exact⟨by rw[←QA HX];rfl,hb⟩
             |false=>
              rw[if_neg (by rw[h12];decide)]at hX
              have HX:=QB hX
              clear hX
              go_enter Tryz.func110,Tryz.ntmps110
              go_wp2_with (first|(go_at_call 109;refine(QA CC).mono ?_;rintro e wc ⟨rfl,hb⟩)|(go_at_call 113;refine(QA CT _).mono ?_;rintro e w' ⟨rfl,rfl⟩))
              go_ret2
              exact⟨by rw[←QA HX];rfl,hb⟩
theorem fits_ref (s:Strd.Bs) (form a b:Int) (w:World) (ha:-2^40≤a∧a≤2^40) (ht:-2^40≤b∧b≤2^40):Calls Tryz.prog 95 #[.string (bstr s),.int .i64 form,.int .i64 a,.int .i64 b] w fun e w'=>e=.returned (.bool (Rf.fits s form a b))∧w'=w:=by
 generalize hX:Rf.fits s form a b=X
 unfold Rf.fits at hX
 by_cases h1:a % 2=0
 ·rw[if_neg (fun h=>h h1)]at hX
  by_cases h2:b % 2=0
  ·rw[if_neg (fun h=>h h2)]at hX
   have t1:a.tmod 2=0:=(Rf.tmod_two a).2 h1
   have t2:b.tmod 2=0:=(Rf.tmod_two b).2 h2
   have hw1:IntKind.i64.wrap (b-a)=b-a:=IntWalk.i64_in _ (by omega)
   have hw2:IntKind.i64.wrap (b-a-2)=b-a-2:=IntWalk.i64_in _ (by omega)
   by_cases h3:b<0
   ·rw[if_pos h3]at hX
    have HX:=QB hX
    clear hX
    go_enter Tryz.func95,Tryz.ntmps95
    go_wp2
    go_ret
    exact⟨by rw[←QA HX];rfl,rfl⟩
   ·rw[if_neg h3]at hX
    by_cases h4:16777214<b
    ·rw[if_pos h4]at hX
     have HX:=QB hX
     clear hX
     go_enter Tryz.func95,Tryz.ntmps95
     go_wp2
     go_ret
     exact⟨by rw[←QA HX];rfl,rfl⟩
    ·rw[if_neg h4]at hX
     clear h1 h2
     unfold Rf.far Strd.within at hX
     generalize hdd:b-a-2=d at *
     cases f1:(s==[106,109,112]) with
     |true=>
      by_cases hf1:form=1
      ·subst hf1
       rw[if_pos rfl]at hX
       by_cases d0:d=0
       ·have hX2:X=false:=by rw[←hX];simp[d0]
        clear hX
        have HX:=QB hX2.symm
        clear hX2
        go_enter Tryz.func95,Tryz.ntmps95
        go_wp2
        go_ret
        exact⟨by rw[←QA HX];rfl,rfl⟩
       ·by_cases d1:-128≤d
        ·by_cases d2:d≤127
         ·have hX2:X=true:=by rw[←hX];simp[d0,d1,d2]
          clear hX
          have HX:=QB hX2.symm
          clear hX2
          go_enter Tryz.func95,Tryz.ntmps95
          go_wp2
          go_ret
          exact⟨by rw[←QA HX];first|rfl|(simp[d0,d1,d2];done)|(simp;omega),rfl⟩
         ·have hX2:X=false:=by rw[←hX];simp[d0,d1,d2]
          clear hX
          have HX:=QB hX2.symm
          clear hX2
          go_enter Tryz.func95,Tryz.ntmps95
          go_wp2
          go_ret
          exact⟨by rw[←QA HX];first|rfl|(simp[d0,d1,d2];done)|(simp;omega),rfl⟩
        ·have hX2:X=false:=by rw[←hX];simp[d1]
         clear hX
         have HX:=QB hX2.symm
         clear hX2
         go_enter Tryz.func95,Tryz.ntmps95
         go_wp2
         go_ret
         exact⟨by rw[←QA HX];first|rfl|(simp[d0,d1];done)|(simp;omega),rfl⟩
      ·rw[if_neg hf1]at hX
       by_cases hf2:form=2
       ·subst hf2
        rw[if_pos rfl]at hX
        rw[if_pos (by simp[f1])]at hX
        have HX:=QB hX
        clear hX
        go_enter Tryz.func95,Tryz.ntmps95
        go_wp2
        go_ret
        exact⟨by rw[←QA HX];first|rfl|(simp;done),rfl⟩
       ·rw[if_neg hf2]at hX
        have hfa:(form==1)=false:=by simpa using hf1
        have hfb:(form==2)=false:=by simpa using hf2
        have HX:=QB hX
        clear hX
        go_enter Tryz.func95,Tryz.ntmps95
        go_wp2
        go_ret
        exact⟨by rw[←QA HX];rfl,rfl⟩
     |false=>
      cases f2:(s==[106,115,114]) with
      |true=>
       by_cases hf1:form=1
       ·subst hf1
        rw[if_pos rfl]at hX
        by_cases d0:d=0
        ·have hX2:X=false:=by rw[←hX];simp[d0]
         clear hX
         have HX:=QB hX2.symm
         clear hX2
         go_enter Tryz.func95,Tryz.ntmps95
         go_wp2
         go_ret
         exact⟨by rw[←QA HX];rfl,rfl⟩
        ·by_cases d1:-128≤d
         ·by_cases d2:d≤127
          ·have hX2:X=true:=by rw[←hX];simp[d0,d1,d2]
           clear hX
           have HX:=QB hX2.symm
           clear hX2
           go_enter Tryz.func95,Tryz.ntmps95
           go_wp2
           go_ret
           exact⟨by rw[←QA HX];first|rfl|(simp[d0,d1,d2];done)|(simp;omega),rfl⟩
          ·have hX2:X=false:=by rw[←hX];simp[d0,d1,d2]
           clear hX
           have HX:=QB hX2.symm
           clear hX2
           go_enter Tryz.func95,Tryz.ntmps95
           go_wp2
           go_ret
           exact⟨by rw[←QA HX];first|rfl|(simp[d0,d1,d2];done)|(simp;omega),rfl⟩
         ·have hX2:X=false:=by rw[←hX];simp[d1]
          clear hX
          have HX:=QB hX2.symm
          clear hX2
          go_enter Tryz.func95,Tryz.ntmps95
          go_wp2
          go_ret
          exact⟨by rw[←QA HX];first|rfl|(simp[d0,d1];done)|(simp;omega),rfl⟩
       ·rw[if_neg hf1]at hX
        by_cases hf2:form=2
        ·subst hf2
         rw[if_pos rfl]at hX
         rw[if_pos (by simp[f1,f2])]at hX
         have HX:=QB hX
         clear hX
         go_enter Tryz.func95,Tryz.ntmps95
         go_wp2
         go_ret
         exact⟨by rw[←QA HX];first|rfl|(simp;done),rfl⟩
        ·rw[if_neg hf2]at hX
         have hfa:(form==1)=false:=by simpa using hf1
         have hfb:(form==2)=false:=by simpa using hf2
         have HX:=QB hX
         clear hX
         go_enter Tryz.func95,Tryz.ntmps95
         go_wp2
         go_ret
         exact⟨by rw[←QA HX];rfl,rfl⟩
      |false=>
       by_cases hf1:form=1
       ·subst hf1
        rw[if_pos rfl]at hX
        by_cases d0:d=0
        ·have hX2:X=false:=by rw[←hX];simp[d0]
         clear hX
         have HX:=QB hX2.symm
         clear hX2
         go_enter Tryz.func95,Tryz.ntmps95
         go_wp2
         go_ret
         exact⟨by rw[←QA HX];rfl,rfl⟩
        ·by_cases d1:-128≤d
         ·by_cases d2:d≤127
          ·have hX2:X=true:=by rw[←hX];simp[d0,d1,d2]
           clear hX
           have HX:=QB hX2.symm
           clear hX2
           go_enter Tryz.func95,Tryz.ntmps95
           go_wp2
           go_ret
           exact⟨by rw[←QA HX];first|rfl|(simp[d0,d1,d2];done)|(simp;omega),rfl⟩
          ·have hX2:X=false:=by rw[←hX];simp[d0,d1,d2]
           clear hX
           have HX:=QB hX2.symm
           clear hX2
           go_enter Tryz.func95,Tryz.ntmps95
           go_wp2
           go_ret
           exact⟨by rw[←QA HX];first|rfl|(simp[d0,d1,d2];done)|(simp;omega),rfl⟩
         ·have hX2:X=false:=by rw[←hX];simp[d1]
          clear hX
          have HX:=QB hX2.symm
          clear hX2
          go_enter Tryz.func95,Tryz.ntmps95
          go_wp2
          go_ret
          exact⟨by rw[←QA HX];first|rfl|(simp[d0,d1];done)|(simp;omega),rfl⟩
       ·rw[if_neg hf1]at hX
        by_cases hf2:form=2
        ·subst hf2
         rw[if_pos rfl]at hX
         rw[if_neg (by simp[f1,f2])]at hX
         by_cases d1:-32768≤d
         ·by_cases d2:d≤32767
          ·have hX2:X=true:=by rw[←hX];simp[d1,d2]
           clear hX
           have HX:=QB hX2.symm
           clear hX2
           go_enter Tryz.func95,Tryz.ntmps95
           go_wp2
           go_ret
           exact⟨by rw[←QA HX];first|rfl|(simp[d1,d2];done)|(simp;omega),rfl⟩
          ·have hX2:X=false:=by rw[←hX];simp[d1,d2]
           clear hX
           have HX:=QB hX2.symm
           clear hX2
           go_enter Tryz.func95,Tryz.ntmps95
           go_wp2
           go_ret
           exact⟨by rw[←QA HX];first|rfl|(simp[d1,d2];done)|(simp;omega),rfl⟩
         ·have hX2:X=false:=by rw[←hX];simp[d1]
          clear hX
          have HX:=QB hX2.symm
          clear hX2
          go_enter Tryz.func95,Tryz.ntmps95
          go_wp2
          go_ret
          exact⟨by rw[←QA HX];first|rfl|(simp[d1];done)|(simp;omega),rfl⟩
        ·rw[if_neg hf2]at hX
         have hfa:(form==1)=false:=by simpa using hf1
         have hfb:(form==2)=false:=by simpa using hf2
         have HX:=QB hX
         clear hX
         go_enter Tryz.func95,Tryz.ntmps95
         go_wp2
         go_ret
         exact⟨by rw[←QA HX];rfl,rfl⟩
  ·rw[if_pos h2]at hX
   have t1:a.tmod 2=0:=(Rf.tmod_two a).2 h1
   have t2:¬b.tmod 2=0:=fun h=>h2 ((Rf.tmod_two b).1 h)
   have HX:=QB hX
   clear hX
   go_enter Tryz.func95,Tryz.ntmps95
   go_wp2
   go_ret
   exact⟨by rw[←QA HX];rfl,rfl⟩
 ·rw[if_pos h1]at hX
  have t1:¬a.tmod 2=0:=fun h=>h1 ((Rf.tmod_two a).1 h)
  have HX:=QB hX
  clear hX
  go_enter Tryz.func95,Tryz.ntmps95
  go_wp2
  go_ret
  exact⟨by rw[←QA HX];rfl,rfl⟩
end Go.Proofs.YtegiloiojloaoaaGreatDoor
namespace Go.Proofs.YtegiloiojloaoaaGreatDoor.Rf
open Strd
theorem fits_tie (s:Bs) (o:Strd.Op) (f a b:Int) (hf:f=0∨f=1∨f=2) (h6:o.kind=6→f≠0) (hk:o.kind=5∨o.kind=6) (hfar:far s=decide (o.kind=6)):Rf.fits s (f+1) a b=Strd.fits o f a b:=by
 unfold Rf.fits Strd.fits
 have hpl:(isPlace b=false∨isOdd a=true)↔(a % 2≠0∨b % 2≠0∨b<0∨16777214<b):=by
  unfold isPlace isOdd within
  simp only[Bool.and_eq_false_iff,decide_eq_false_iff_not,Bool.not_eq_false',bne_iff_ne]
  omega
 by_cases h:a % 2≠0∨b % 2≠0∨b<0∨16777214<b
 ·rw[if_pos (hpl.2 h)]
  by_cases h1:a % 2≠0
  ·rw[if_pos h1]
  ·rw[if_neg h1]
   by_cases h2:b % 2≠0
   ·rw[if_pos h2]
   ·rw[if_neg h2]
    by_cases h3:b<0
    ·rw[if_pos h3]
    ·rw[if_neg h3,if_pos (by omega)]
 ·rw[if_neg (fun h'=>h (hpl.1 h')),if_neg (by omega),if_neg (by omega),if_neg (by omega),if_neg (by omega)]
  rcases hf with rfl|rfl|rfl
  ·have h5:o.kind=5:=hk.resolve_right (fun h=>h6 h rfl)
   rw[if_pos (by decide),if_neg (by decide),if_neg (by omega),if_pos rfl]
   rw[Bool.and_comm]
   congr 1
   by_cases hd:b-a-2=0
   ·simp[hd]
   ·simp[hd]
  ·rcases hk with h5|h6'
   ·have hn:¬o.kind=6:=by omega
    have hff:¬far s=true:=by rw[hfar];simp[hn]
    simp only[hff,hn,if_false]
    simp
   ·have hff:far s=true:=by rw[hfar];simp[h6']
    simp only[hff,h6',if_true]
    simp
  ·rw[if_neg (by decide),if_neg (by decide),if_pos rfl]
end Go.Proofs.YtegiloiojloaoaaGreatDoor.Rf
