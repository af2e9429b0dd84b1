/- Plain facts on bits of 64-bit numbers. -/
import Derived.Test.YtegiloiojloaoaaGreatDoorCSpec
import Derived.WalkKit
import Derived.Test.YtegiloiojloaoaaGreatDoorProg
import Derived.WalkSpells
import Derived.WalkLawsBesides
import Derived.Handy
set_option linter.unusedVariables false
set_option linter.unusedSimpArgs false
set_option maxHeartbeats 1000000
namespace Go.Proofs.YtegiloiojloaoaaGreatDoor
open Go.RowKit
theorem bits_and_toNat (a:Int) (m:Nat) (hm:m<2^63):bits .and .i64 a (m:Int)=(((a % 2^64).toNat &&& m:Nat):Int):=by
 have hlt:((a % 2^64).toNat &&& m)<2^63:=Nat.lt_of_le_of_lt Nat.and_le_right hm
 have e1:(BitVec.ofInt 64 (m:Int)).toNat=m:=by
  rw[BitVec.toNat_ofInt];omega
 have e2:(BitVec.ofInt 64 a).toNat=(a % 2^64).toNat:=by
  rw[BitVec.toNat_ofInt];rfl
 show IntKind.i64.wrap ((BitVec.ofInt 64 a &&& BitVec.ofInt 64 (m:Int)).toNat:Int)=_
 rw[BitVec.toNat_and,e1,e2]
 generalize ((a % 2^64).toNat &&& m)=x at hlt ⊢
 exact IntWalk.i64_in _ (by omega)
theorem bits_and_pow (a:Int) (k:Nat) (hk:k≤32):bits .and .i64 a (((2^k-1:Nat)):Int)=a % ((2^k:Nat):Int):=by
 have hp:2^k≤2^32:=Nat.pow_le_pow_right (by omega) hk
 have hp0:0<2^k:=Nat.two_pow_pos k
 rw[bits_and_toNat a _ (by omega),Nat.and_two_pow_sub_one_eq_mod]
 have hd:((2:Nat)^k) ∣ 2^64:=Nat.pow_dvd_pow 2 (by omega)
 have hd':((2^k:Nat):Int) ∣ (2:Int)^64:=by
  have:=Int.natCast_dvd_natCast.2 hd;simpa using this
 rw[Int.natCast_emod,Int.toNat_of_nonneg (by omega),Int.emod_emod_of_dvd _ hd']
theorem bits_and_1 (a:Int):bits .and .i64 a 1=a % 2:=bits_and_pow a 1 (by omega)
theorem bits_and_255 (a:Int):bits .and .i64 a 255=a % 256:=bits_and_pow a 8 (by omega)
theorem bits_and_7 (a:Int):bits .and .i64 a 7=a % 8:=bits_and_pow a 3 (by omega)
theorem bits_and_pows (a n:Int) (h:n=2∨n=4∨n=8∨n=16∨n=32∨n=64∨n=128∨n=256):bits .and .i64 a (n-1)=a % n:=by
 rcases h with rfl|rfl|rfl|rfl|rfl|rfl|rfl|rfl
 ·exact bits_and_pow a 1 (by omega)
 ·exact bits_and_pow a 2 (by omega)
 ·exact bits_and_pow a 3 (by omega)
 ·exact bits_and_pow a 4 (by omega)
 ·exact bits_and_pow a 5 (by omega)
 ·exact bits_and_pow a 6 (by omega)
 ·exact bits_and_pow a 7 (by omega)
 ·exact bits_and_pow a 8 (by omega)
def isPowD (n:Nat):Bool:=(n==2||n==4||n==8||n==16||n==32||n==64||n==128||n==256)
theorem and_pred_all:∀n:Fin 257,2≤n.val→((n.val &&& (n.val-1))==0)=isPowD n.val:=by decide +kernel
theorem bits_and_pred (n:Int) (h0:2≤n) (h1:n≤256):(bits .and .i64 n (n-1)==0)=isPowD n.toNat:=by
 obtain⟨m,rfl⟩:=Int.eq_ofNat_of_zero_le (show 0≤n by omega)
 have e:((m:Int)-1)=((m-1:Nat):Int):=by omega
 rw[e,bits_and_toNat _ _ (by omega)]
 have e2:((m:Int) % 2^64).toNat=m:=by omega
 rw[e2,Int.toNat_natCast,←and_pred_all ⟨m,by omega⟩ (by show 2≤m;omega)]
 show (((m &&& (m-1):Nat):Int)==0)=((m &&& (m-1))==0)
 rw[Bool.eq_iff_iff,beq_iff_eq,beq_iff_eq]
 omega
theorem xor_one_all:∀c:Fin 16,bits .xor .i64 ((c.val:Nat):Int) 1=if c.val % 2=0 then ((c.val:Nat):Int)+1 else ((c.val:Nat):Int)-1:=by decide +kernel
theorem bits_xor_1 (c:Int) (h0:0≤c) (h1:c<16):bits .xor .i64 c 1=if c % 2=0 then c+1 else c-1:=by
 obtain⟨m,rfl⟩:=Int.eq_ofNat_of_zero_le h0
 have:=xor_one_all ⟨m,by omega⟩
 simp only at this
 rw[this]
 have e:((m:Int) % 2=0)↔(m % 2=0):=by omega
 simp only[e]
theorem QB {p:Prop} (h:p):Hid p:=h
theorem QA {p:Prop} (h:Hid p):p:=h
theorem ret_bool {a b:Bool} (h:a=b):Ending.returned (.bool a)=.returned (.bool b):=by rw[h]
theorem ret_int {k:IntKind} {a b:Int} (h:a=b):Ending.returned (.int k a)=.returned (.int k b):=by rw[h]
theorem within_c (n lo hi:Int) (w:World) :
  Calls Tryz.prog 121 #[.int .i64 n,.int .i64 lo,.int .i64 hi] w fun e w'=>e=.returned (.bool (Strd.within n lo hi))∧w'=w:=by
 go_enter Tryz.func121,Tryz.ntmps121
 go_wp2
 all_goals go_ret
 all_goals refine⟨ret_bool ?_,rfl⟩
 all_goals simp[Strd.within]
 all_goals omega
theorem isOdd_c (n:Int) (w:World) :
  Calls Tryz.prog 135 #[.int .i64 n] w fun e w'=>e=.returned (.bool (Strd.isOdd n))∧w'=w:=by
 go_enter Tryz.func135,Tryz.ntmps135
 go_wp2
 go_ret
 exact⟨ret_bool (by rw[bits_and_1];rfl),rfl⟩
theorem isPlace_c (n:Int) (w:World) :
  Calls Tryz.prog 122 #[.int .i64 n] w fun e w'=>e=.returned (.bool (Strd.isPlace n))∧w'=w:=by
 have H:Hid (Strd.isPlace n=(Strd.within n 0 0xfffffe&&!Strd.isOdd n)):=rfl
 cases h:Strd.within n 0 0xfffffe
 all_goals
  have HH:=QB h
  clear h
  go_enter Tryz.func122,Tryz.ntmps122
  go_wp2_with fail
  refine(within_c _ _ _ _).mono ?_
  rintro e w' ⟨rfl,rfl⟩
  rw[show (16777214:Int)=0xfffffe from rfl,QA HH]
  go_wp2_with (go_at_call 135;refine(isOdd_c _ _).mono ?_;rintro e w' ⟨rfl,rfl⟩)
  go_ret
  exact⟨ret_bool (by rw[QA H,QA HH];simp),rfl⟩
theorem distance_c (a t:Int) (w:World) (ha:-2^60≤a∧a≤2^60) (ht:-2^60≤t∧t≤2^60) :
  Calls Tryz.prog 102 #[.int .i64 a,.int .i64 t] w fun e w'=>e=.returned (.int .i64 (t-a-2))∧w'=w:=by
 go_enter Tryz.func102,Tryz.ntmps102
 go_wp2
 go_ret
 exact⟨ret_int (by go_arith),rfl⟩
theorem addsShort_c (n:Int) (w:World) :
  Calls Tryz.prog 93 #[.int .i64 n] w fun e w'=>e=.returned (.bool (Strd.addsShort n))∧w'=w:=by
 go_enter Tryz.func93,Tryz.ntmps93
 go_wp2_with (go_at_call 121;refine(within_c _ _ _ _).mono ?_;rintro e w' ⟨rfl,rfl⟩)
 go_ret
 exact⟨rfl,rfl⟩
theorem opposite_c (n:Int) (w:World) (h0:0≤n) (h1:n<16) :
  Calls Tryz.prog 105 #[.int .i64 n] w fun e w'=>e=.returned (.int .i64 (Strd.opp n))∧w'=w:=by
 go_enter Tryz.func105,Tryz.ntmps105
 go_wp2
 go_ret
 exact⟨ret_int (bits_xor_1 n h0 h1),rfl⟩
theorem IsJump_c (o:Strd.Op) (w:World) :
  Calls Tryz.prog 100 #[.agg #[.int .i64 o.kind,.int .i64 o.base,.int .i64 o.number,.int .i64 o.first,.int .i64 o.last]] w fun e w'=>e=.returned (.bool (Strd.QN o))∧Below w.heap.size w w':=by
 go_enter Tryz.func100,Tryz.ntmps100
 go_wp2
 all_goals go_ret
 all_goals refine⟨ret_bool ?_,(Below.refl _ _).alloc (Nat.le_refl _) _⟩
 all_goals simp_all [Strd.QN]
theorem isCond_c (o:Strd.Op) (w:World) :
  Calls Tryz.prog 104 #[.agg #[.int .i64 o.kind,.int .i64 o.base,.int .i64 o.number,.int .i64 o.first,.int .i64 o.last]] w fun e w'=>e=.returned (.bool (Strd.isCond o))∧Below w.heap.size w w':=by
 go_enter Tryz.func104,Tryz.ntmps104
 go_wp2
 all_goals go_ret
 all_goals refine⟨ret_bool ?_,(Below.refl _ _).alloc (Nat.le_refl _) _⟩
 all_goals simp_all [Strd.isCond]
theorem jumpSize_c (o:Strd.Op) (form:Int) (w:World) :
  Calls Tryz.prog 94 #[.agg #[.int .i64 o.kind,.int .i64 o.base,.int .i64 o.number,.int .i64 o.first,.int .i64 o.last],.int .i64 form] w fun e w'=>e=.returned (.int .i64 (Strd.jumpSize o form))∧Below w.heap.size w w':=by
 go_enter Tryz.func94,Tryz.ntmps94
 go_wp2_with (go_at_call 104;refine(isCond_c o _).mono ?_;rintro e w' ⟨rfl,hb⟩)
 all_goals go_ret
 all_goals refine⟨ret_int ?_,?_⟩
 all_goals first|exact(Below.refl _ _).alloc (Nat.le_refl _) _|exact((Below.refl _ _).alloc (Nat.le_refl _) _).trans (hb.mono (by simp))|simp_all [Strd.jumpSize]
theorem Fits_c (o:Strd.Op) (form a t:Int) (w:World) (ha:-2^60≤a∧a≤2^60) (ht:-2^60≤t∧t≤2^60) :
  Calls Tryz.prog 101 #[.agg #[.int .i64 o.kind,.int .i64 o.base,.int .i64 o.number,.int .i64 o.first,.int .i64 o.last],.int .i64 form,.int .i64 a,.int .i64 t] w fun e w'=>e=.returned (.bool (Strd.fits o form a t))∧Below w.heap.size w w':=by
 go_enter Tryz.func101,Tryz.ntmps101
 go_wp2_with (first|(go_at_call 122;refine(isPlace_c _ _).mono ?_;rintro e w' ⟨rfl,rfl⟩)|(go_at_call 135;refine(isOdd_c _ _).mono ?_;rintro e w' ⟨rfl,rfl⟩)|(go_at_call 102;refine(distance_c _ _ _ (by omega) (by omega)).mono ?_;rintro e w' ⟨rfl,rfl⟩)|(go_at_call 121;refine(within_c _ _ _ _).mono ?_;rintro e w' ⟨rfl,rfl⟩))
 all_goals go_ret
 all_goals refine⟨ret_bool ?_,(Below.refl _ _).alloc (Nat.le_refl _) _⟩
 all_goals simp_all [Strd.fits]
theorem pow_yes (n:Int) (h:Strd.within n 2 256=true):(bits .and .i64 n (n-1)==0)=Strd.isPow n:=by
 simp[Strd.within]at h
 rw[bits_and_pred n h.1 h.2]
 rw[Bool.eq_iff_iff]
 simp only[Strd.isPow,isPowD,Bool.or_eq_true,beq_iff_eq]
 omega
theorem pow_no (n:Int) (h:Strd.within n 2 256=false):Strd.isPow n=false:=by
 simp only[Strd.within,Bool.and_eq_false_iff,decide_eq_false_iff_not]at h
 simp only[Strd.isPow,Bool.or_eq_false_iff,beq_eq_false_iff_ne]
 omega
theorem Allows_c (k n:Int) (w:World) (h:-2^60≤n∧n≤2^60) :
  Calls Tryz.prog 84 #[.int .i64 k,.int .i64 n] w fun e w'=>e=.returned (.bool (Strd.allows k n))∧w'=w:=by
 go_enter Tryz.func84,Tryz.ntmps84
 go_wp2_with (first|(go_at_call 122;refine(isPlace_c _ _).mono ?_;rintro e w' ⟨rfl,rfl⟩)|(go_at_call 121;refine(within_c _ _ _ _).mono ?_;rintro e w' ⟨rfl,rfl⟩))
 all_goals go_ret
 all_goals refine⟨ret_bool ?_,rfl⟩
 all_goals simp_all [Strd.allows,pow_yes,pow_no]
abbrev bstr (l:Strd.Bs):ByteArray:=⟨l.toArray⟩
theorem Q4 (l:Strd.Bs):(bstr l).data.toList=l:=by simp
theorem ZA (l:Strd.Bs):(bstr l).size=l.length:=by simp[ByteArray.size]
theorem bstr_of (s:ByteArray):bstr s.data.toList=s:=by cases s;simp
structure Kept (base:Nat) (D:Obj→Prop) (w w':World):Prop where
 os:w'.os=w.os
 tape:w'.tape=w.tape
 output:w'.output=w.output
 size:w.heap.size≤w'.heap.size
 block:∀k,k<w.heap.size→(k<base∨∀o,w.heap[k]? = some o→¬D o)→w'.heap[k]? = w.heap[k]?
theorem Kept.refl (base:Nat) (D:Obj→Prop) (w:World):Kept base D w w:=⟨rfl,rfl,rfl,Nat.le_refl _,fun _ _ _=>rfl⟩
theorem Kept.trans {base:Nat} {D:Obj→Prop} {a b c:World} (h:Kept base D a b) (k:Kept base D b c):Kept base D a c:=
 ⟨k.os.trans h.os,k.tape.trans h.tape,k.output.trans h.output,Nat.le_trans h.size k.size,fun i hi hd=>by
  have e:=h.block i hi hd
  rw[k.block i (Nat.lt_of_lt_of_le hi h.size) (by rw[e];exact hd),e]⟩
theorem Kept.of_below {base:Nat} {D:Obj→Prop} {w w':World} (h:Below w.heap.size w w'):Kept base D w w':=
 ⟨h.os,h.tape,h.output,h.size,fun k hk _=>h.block k hk⟩
theorem Kept.alloc {base:Nat} {D:Obj→Prop} {a w:World} (h:Kept base D a w) (o:Obj):Kept base D a (w.alloc o):=
 h.trans (.of_below ((Below.refl _ _).alloc (Nat.le_refl _) _))
theorem Kept.drew {base:Nat} {D:Obj→Prop} {a w:World} (h:Kept base D a w):Kept base D a w.drew:=⟨h.os,h.tape,h.output,h.size,h.block⟩
theorem Kept.below {base:Nat} {D:Obj→Prop} {w w':World} (h:Kept base D w w') (hb:base≤w.heap.size):Below base w w':=
 ⟨h.os,h.tape,h.output,h.size,fun k hk=>h.block k (by omega) (.inl hk)⟩
theorem Kept.mono {base base':Nat} {D D':Obj→Prop} {w w':World} (h:Kept base D w w') (hb:base'≤base) (hD:∀o,D o→D' o):Kept base' D' w w':=
 ⟨h.os,h.tape,h.output,h.size,fun k hk hk'=>h.block k hk (hk'.elim (fun x=>.inl (by omega)) (fun x=>.inr fun o ho hd=>x o ho (hD o hd)))⟩
def Tag (e:TypeId) (o:Obj):Prop:=∃cur fr,o=.cells cur e fr
theorem Kept.of_grown {base n size:Nat} {e:TypeId} {v:Value} {xs:List Value} {w w':World} (hg:w.grownBy w' v.ownBlock) (ho:w.ownsRow base e size v n xs):Kept base (Tag e) w w':=
 ⟨hg.os,hg.tape,hg.output,hg.size,fun k hk hd=>hg.block k hk fun he=>by
  rcases ho.2 with ⟨rfl,_⟩|⟨g,cap,cur,rfl,hb,hh,_⟩
  ·cases he
  ·simp only[Value.ownBlock,Option.some.injEq]at he
   subst he
   rcases hd with hd|hd
   ·omega
   ·exact hd _ hh ⟨_,_,rfl⟩⟩
theorem ZN {base base' n size:Nat} {e:TypeId} {v:Value} {xs:List Value} {D:Obj→Prop} {w w':World} (ho:w.ownsRow base' e size v n xs) (hk:Kept base D w w') (hD:∀cur,¬D (.cells cur e (0,0))):w'.ownsRow base' e size v n xs:=by
 obtain⟨h1,h2⟩:=ho
 refine⟨h1,?_⟩
 rcases h2 with h2|⟨g,cap,cur,hv,hb,hh,r⟩
 ·exact .inl h2
 ·refine .inr ⟨g,cap,cur,hv,hb,?_,r⟩
  rw[hk.block g (Array.getElem?_eq_some_iff.1 hh).1 (.inr fun o ho hd=>by rw[hh]at ho;cases ho;exact hD _ hd)]
  exact hh
theorem ownsRow_keptB {base base' n size:Nat} {e:TypeId} {v:Value} {xs:List Value} {D:Obj→Prop} {w w':World} (ho:w.ownsRow base' e size v n xs) (hk:Kept base D w w') (hlt:∀k,v.ownBlock=some k→k<base):w'.ownsRow base' e size v n xs:=by
 obtain⟨h1,h2⟩:=ho
 refine⟨h1,?_⟩
 rcases h2 with h2|⟨g,cap,cur,hv,hb,hh,r⟩
 ·exact .inl h2
 ·refine .inr ⟨g,cap,cur,hv,hb,?_,r⟩
  rw[hk.block g (Array.getElem?_eq_some_iff.1 hh).1 (.inl (hlt g (by rw[hv];rfl)))]
  exact hh
theorem QO {base n size:Nat} {e:TypeId} {v:Value} {xs:List Value} {w w':World} (ho:w.ownsRow base e size v n xs) (hk:Below w.heap.size w w'):w'.ownsRow base e size v n xs:=
 ZN (D:=fun _=>False) ho (.of_below (base:=0) hk) (fun _ h=>h)
theorem ownsRow_cell {base n size:Nat} {e:TypeId} {p:Option Addr} {len cap:Nat} {xs:List Value} {w:World} (ho:w.ownsRow base e size (.slice p len cap) n xs) (hn:0<n) :
  ∃b,p=some ⟨b,0,none⟩∧len=n∧base≤b∧b<w.heap.size∧∀j u,xs[j]? = some u→w.cell? ⟨b,j,none⟩=some u:=by
 rcases ho.2 with ⟨_,h⟩|⟨g,c,cur,hv,hb,hh,_,_,_,ht⟩
 ·omega
 ·simp only[Value.slice.injEq]at hv
  obtain⟨rfl,rfl,rfl⟩:=hv
  refine⟨g,rfl,rfl,hb,(Array.getElem?_eq_some_iff.1 hh).1,fun j u hu=>?_⟩
  rw[cell_of_row w g j cur e (0,0) hh]
  rw[←ht,List.getElem?_take]at hu
  split at hu
  ·simpa using hu
  ·cases hu
def encOpr (o:Strd.Opr):List Value:=[.string (bstr o.name),.int .i64 o.num]
def encOprs (os:List Strd.Opr):List Value:=os.flatMap encOpr
theorem flatMap_get {α:Type} (f:α→List Value) (c:Nat) (hf:∀a,(f a).length=c):∀(l:List α) (i j:Nat) (a:α),l[i]? = some a→j<c→(l.flatMap f)[i*c+j]? = (f a)[j]?
 |[],i,j,a,h,_=>by simp at h
 |b::t,0,j,a,h,hj=>by
  simp at h;subst h
  rw[List.flatMap_cons,Nat.zero_mul,Nat.zero_add,List.getElem?_append_left (by rw[hf];exact hj)]
 |b::t,i+1,j,a,h,hj=>by
  rw[List.flatMap_cons,List.getElem?_append_right (by rw[hf,Nat.add_mul];omega),hf]
  have:(i+1)*c+j-c=i*c+j:=by rw[Nat.add_mul];omega
  rw[this]
  exact flatMap_get f c hf t i j a (by simpa using h) hj
theorem flatMap_len {α:Type} (f:α→List Value) (c:Nat) (hf:∀a,(f a).length=c):∀(l:List α),(l.flatMap f).length=l.length*c
 |[]=>by simp
 |b::t=>by rw[List.flatMap_cons,List.length_append,hf,flatMap_len f c hf t,List.length_cons,Nat.add_mul];omega
def QS (w:World) (v:Value) (os:List Strd.Opr):Prop:=w.ownsRow 0 136 2 v os.length (encOprs os)
theorem QS.shape {w:World} {v:Value} {os:List Strd.Opr} (h:QS w v os):∃p cap,v=.slice p os.length cap:=by
 rcases h.2 with ⟨rfl,h0⟩|⟨g,cap,cur,rfl,_⟩
 ·exact⟨none,0,by rw[h0]⟩
 ·exact⟨_,_,rfl⟩
theorem QS.at {w:World} {p:Option Addr} {n cap:Nat} {os:List Strd.Opr} (h:QS w (.slice p n cap) os) (i:Nat) (hi:i<os.length) :
  ∃b,p=some ⟨b,0,none⟩∧n=os.length∧b<w.heap.size∧w.cell? ⟨b,i*2,none⟩=some (.string (bstr os[i].name))∧w.cell? ⟨b,i*2+1,none⟩=some (.int .i64 os[i].num):=by
 obtain⟨b,hp,hn,_,hb,hc⟩:=ownsRow_cell h (by omega)
 have e:os[i]? = some os[i]:=gE hi
 have h0:=flatMap_get encOpr 2 (fun _=>rfl) os i 0 os[i] e (by omega)
 have h1:=flatMap_get encOpr 2 (fun _=>rfl) os i 1 os[i] e (by omega)
 exact⟨b,hp,hn,hb,hc _ _ (by simpa [encOprs,encOpr] using h0),hc _ _ (by simpa [encOprs,encOpr] using h1)⟩
theorem QS.below {w w':World} {v:Value} {os:List Strd.Opr} (h:QS w v os) (hb:Below w.heap.size w w'):QS w' v os:=QO h hb
def encB (b:UInt8):Value:=.int .u8 (b.toNat:Int)
theorem encB_one (l:List UInt8):∀u∈l.map encB,u.oneCell'=true:=by
 intro u hu
 simp only[List.mem_map]at hu
 obtain⟨b,_,rfl⟩:=hu
 rfl
theorem Tryz.info5:(Tryz.prog.info? 5).map (fun i=>(i.zero,i.size,i.bytes))=some (some (.int .u8 0),1,1):=by kernel_rfl
theorem number_c (i:Strd.Ins) (k:Int) (v:Value) (w:World) (h0:0≤k) (h1:k<i.oprs.length) (hO:QS w v i.oprs) :
  Calls Tryz.prog 67 #[.agg #[.int .i64 i.op.kind,.int .i64 i.op.base,.int .i64 i.op.number,.int .i64 i.op.first,.int .i64 i.op.last,v],.int .i64 k] w fun e w'=>e=.returned (.int .i64 (Strd.num i k.toNat))∧Below w.heap.size w w':=by
 obtain⟨p,cap,rfl⟩:=hO.shape
 obtain⟨b,rfl,_,hb,_,hc⟩:=hO.at k.toNat (by omega)
 have hx:Strd.num i k.toNat=(i.oprs[k.toNat]'(by omega)).num:=by
  unfold Strd.num
  rw[gD,gE (by omega)];rfl
 rw[hx]
 generalize (i.oprs[k.toNat]'(by omega)).num=x at hc
 clear hx hO
 go_enter Tryz.func67,Tryz.ntmps67
 go_wp2
 go_ret
 exact⟨rfl,(Below.refl _ _).alloc (Nat.le_refl _) _⟩
theorem QF (w:World) (o:Obj):Below w.heap.size w (w.alloc o):=(Below.refl _ _).alloc (Nat.le_refl _) _
theorem below_at {w w':World} {o:Obj} (h:Below (w.alloc o).heap.size (w.alloc o) w'):Below w.heap.size w w':=(QF w o).trans (h.mono (by simp))
theorem QE {a b c:World} (h:Below a.heap.size a b) (k:Below b.heap.size b c):Below a.heap.size a c:=h.trans (k.mono h.size)
theorem bcell {W w1:World} (hb:Below W.heap.size W w1):(∀b o,b<W.heap.size→w1.cell? ⟨b,o,none⟩=W.cell? ⟨b,o,none⟩)∧(∀b o,b<W.heap.size→w1.frozen? ⟨b,o,none⟩=W.frozen? ⟨b,o,none⟩):=
 ⟨fun b o h=>hb.cell (p:=⟨b,o,none⟩) h,fun b o h=>hb.frozen (p:=⟨b,o,none⟩) h⟩
theorem pows_of {n:Int} (h:Strd.isPow n=true):n=2∨n=4∨n=8∨n=16∨n=32∨n=64∨n=128∨n=256:=by
 simp only[Strd.isPow,Bool.or_eq_true,beq_iff_eq]at h;omega
theorem Size_c (i:Strd.Ins) (v:Value) (form a:Int) (w:World) (ha:-2^60≤a∧a≤2^60) (hO:QS w v i.oprs) (hlen:i.oprs.length≤4096)
  (hn:i.op.kind=4∨i.op.kind=9∨i.op.kind=10→1≤i.oprs.length) (hp:i.op.kind=10→Strd.isPow (Strd.num i 0)=true) :
  Calls Tryz.prog 52 #[.agg #[.int .i64 i.op.kind,.int .i64 i.op.base,.int .i64 i.op.number,.int .i64 i.op.first,.int .i64 i.op.last,v],.int .i64 form,.int .i64 a] w fun e w'=>e=.returned (.int .i64 (Strd.size i form a))∧Below w.heap.size w w':=by
 obtain⟨p,cap,rfl⟩:=hO.shape
 by_cases hk:i.op.kind=4∨i.op.kind=9∨i.op.kind=10
 ·have hl:=hn hk
  clear hn
  have HO:=QB hO
  clear hO
  rcases hk with hk|hk|hk
  ·have k1:(i.op.kind==1)=false:=by simp[hk]
   have k2:(i.op.kind==2)=false:=by simp[hk]
   have k3:(i.op.kind==3)=false:=by simp[hk]
   have k4:(i.op.kind==4)=true:=by simp[hk]
   have Hk:=QB hk
   clear hk hp
   go_enter Tryz.func52,Tryz.ntmps52
   go_wp2_with fail
   refine(number_c i 0 _ _ (by omega) (by omega) ((QA HO).below (QF _ _))).mono ?_
   rintro e w1 ⟨rfl,hb⟩
   go_wp2_with (go_at_call 93;refine(addsShort_c _ _).mono ?_;rintro e w' ⟨rfl,rfl⟩)
   all_goals go_ret
   all_goals refine⟨ret_int ?_,below_at hb⟩
   all_goals simp_all [Strd.size,QA Hk,Strd.num]
  ·have k1:(i.op.kind==1)=false:=by simp[hk]
   have k2:(i.op.kind==2)=false:=by simp[hk]
   have k3:(i.op.kind==3)=false:=by simp[hk]
   have k4:(i.op.kind==4)=false:=by simp[hk]
   have k5:(i.op.kind==5)=false:=by simp[hk]
   have k6:(i.op.kind==6)=false:=by simp[hk]
   have k7:(i.op.kind==7)=false:=by simp[hk]
   have k8:(i.op.kind==8)=false:=by simp[hk]
   have k9:(i.op.kind==9)=true:=by simp[hk]
   have Hk:=QB hk
   clear hk hp
   go_enter Tryz.func52,Tryz.ntmps52
   go_wp2_with fail
   refine(number_c i 0 _ _ (by omega) (by omega) ((QA HO).below (QF _ _))).mono ?_
   rintro e w1 ⟨rfl,hb⟩
   go_wp2
   go_ret
   exact⟨ret_int (by simp[Strd.size,QA Hk,Strd.num]),below_at hb⟩
  ·have k1:(i.op.kind==1)=false:=by simp[hk]
   have k2:(i.op.kind==2)=false:=by simp[hk]
   have k3:(i.op.kind==3)=false:=by simp[hk]
   have k4:(i.op.kind==4)=false:=by simp[hk]
   have k5:(i.op.kind==5)=false:=by simp[hk]
   have k6:(i.op.kind==6)=false:=by simp[hk]
   have k7:(i.op.kind==7)=false:=by simp[hk]
   have k8:(i.op.kind==8)=false:=by simp[hk]
   have k9:(i.op.kind==9)=false:=by simp[hk]
   have k10:(i.op.kind==10)=true:=by simp[hk]
   have hpw:=pows_of (hp hk)
   have hr:2≤Strd.num i 0∧Strd.num i 0≤256:=by omega
   have Hk:=QB hk
   have HP:=QB hpw
   clear hk hp hpw
   go_enter Tryz.func52,Tryz.ntmps52
   go_wp2_with fail
   refine(number_c i 0 _ _ (by omega) (by omega) ((QA HO).below (QF _ _))).mono ?_
   rintro e w1 ⟨rfl,hb⟩
   rw[Int.toNat_zero]
   go_wp2
   go_ret
   exact⟨ret_int (by rw[bits_and_pows _ _ (QA HP)];simp[Strd.size,QA Hk]),below_at hb⟩
 ·have k4:(i.op.kind==4)=false:=by simp;omega
  have k9:(i.op.kind==9)=false:=by simp;omega
  have k10:(i.op.kind==10)=false:=by simp;omega
  clear hO hn hp hk
  go_enter Tryz.func52,Tryz.ntmps52
  go_wp2_with (go_at_call 94;refine(jumpSize_c i.op _ _).mono ?_;rintro e w' ⟨rfl,hb⟩)
  all_goals go_ret
  all_goals refine⟨ret_int ?_,?_⟩
  all_goals first|exact QF _ _|exact below_at hb|simp_all [Strd.size]
def Q1 (base:Nat) (w:World) (v:Value) (bs:Strd.Bs):Prop:=w.ownsRow base 5 1 v bs.length (bs.map encB)
theorem Q1.below {base:Nat} {w w':World} {v:Value} {bs:Strd.Bs} (h:Q1 base w v bs) (hb:Below w.heap.size w w'):Q1 base w' v bs:=QO h hb
theorem QS.keptB {base:Nat} {w w':World} {v:Value} {os:List Strd.Opr} (h:QS w v os) (hb:Kept base (Tag 5) w w'):QS w' v os:=
 ZN h hb (by rintro cur ⟨_,_,h⟩;cases h)
theorem encB_mod (n:Int):Value.int .u8 (n % 256)=encB (UInt8.ofNat (n % 256).toNat):=by
 have:(((UInt8.ofNat (n % 256).toNat).toNat:Nat):Int)=n % 256:=by
  simp only[UInt8.toNat_ofNat'];omega
 show _=Value.int .u8 _
 rw[this]
theorem appendWord_c (v:Value) (n:Int) (w:World) (base:Nat) (bs:Strd.Bs) (hB:Q1 base w v bs) (hb:base≤w.heap.size) (hl:bs.length≤2^40) :
  Calls Tryz.prog 66 #[v,.int .i64 n] w fun e w'=>∃v',e=.returned v'∧Q1 base w' v' (bs++Strd.QI n)∧Kept base (Tag 5) w w':=by
 obtain⟨i0,hi,hz0,hz1,hz2⟩:=info_parts Tryz.info5
 go_enter Tryz.func66,Tryz.ntmps66
 go_wp2_with (first|(at_builtin;refine wpList_append_own _ rfl _ _ 88 rfl base 5 i0 (.int .u8 0) 1 1 Tryz.underlying88 hi hz0 hz1 hz2 rfl (by decide) _ _ _ rfl (hB.alloc _) ⟨w.heap.size,0,none⟩ 2 2 ((Strd.QI n).map encB) rfl rfl ?c1 ?c2 ?c3 ?c4 ?c5 ?_)|go_in)
 case c1=>
  intro j u hj
  match j,hj with
  |0,hj=>simp only[Strd.QI,List.map_cons,gZ,Option.some.injEq]at hj;subst hj;simp[Addr.add,encB_mod]
  |1,hj=>simp only[Strd.QI,List.map_cons,gS,gZ,Option.some.injEq]at hj;subst hj;simp[Addr.add,encB_mod]
  |j+2,hj=>simp[Strd.QI]at hj
 case c2=>exact encB_one _
 case c3=>unfold maxLen;omega
 case c4=>omega
 case c5=>simp;omega
 intro v' w1 hown hgrow _
 go_wp2
 go_ret
 refine⟨v',rfl,?_,(Kept.alloc (Kept.refl _ _ _) _).trans (.of_grown hgrow (hB.alloc _))⟩
 simpa [Q1,Strd.QI] using hown
theorem len_word (n:Int):(Strd.QI n).length=2:=rfl
theorem appendLongJump_c (v:Value) (b t:Int) (w:World) (base:Nat) (bs:Strd.Bs) (hB:Q1 base w v bs) (hb:base≤w.heap.size) (hl:bs.length≤2^39) (h0:0≤b) (h1:b≤65535) :
  Calls Tryz.prog 103 #[v,.int .i64 b,.int .i64 t] w fun e w'=>∃v',e=.returned v'∧Q1 base w' v' (bs++Strd.longJump b t)∧Kept base (Tag 5) w w':=by
 have HB:=QB hB
 clear hB
 go_enter Tryz.func103,Tryz.ntmps103
 go_wp2_with fail
 refine(appendWord_c v (b+1) w base bs (QA HB) hb (by omega)).mono ?_
 rintro e w1 ⟨v1,rfl,hB1,hk1⟩
 have s1:=hk1.size
 go_wp2_with fail
 refine(appendWord_c v1 (t / 65536) w1 base _ hB1 (by omega) (by simp[len_word];omega)).mono ?_
 rintro e w2 ⟨v2,rfl,hB2,hk2⟩
 have s2:=hk2.size
 go_wp2_with fail
 refine(appendWord_c v2 t w2 base _ hB2 (by omega) (by simp[len_word];omega)).mono ?_
 rintro e w3 ⟨v3,rfl,hB3,hk3⟩
 go_wp2
 go_ret
 refine⟨v3,rfl,?_,hk1.trans (hk2.trans hk3)⟩
 simpa [Strd.longJump] using hB3
end Go.Proofs.YtegiloiojloaoaaGreatDoor
