/- The reference's sign. -/
import Derived.Test.YtegiloiojloaoaaGreatDoorCSpec
import Derived.Test.YtegiloiojloaoaaGreatDoorCRef1
import Derived.Test.YtegiloiojloaoaaGreatDoorCRf0
import Derived.Test.YtegiloiojloaoaaGreatDoorCOprs
set_option linter.unusedVariables false
set_option linter.unusedSimpArgs false
set_option maxHeartbeats 4000000
set_option maxRecDepth 100000
namespace Go.Proofs.YtegiloiojloaoaaGreatDoor
open Go.RowKit Go.Shelf Go.Sort Go.Maps
namespace Rf
open Strd
def sv (s:Bs) (v0:Int):Nat→Int
 |0=>v0
 |1=>v0
 |i+2=>64*sv s v0 (i+1)+((s.getD (i+1) 0).toNat:Int)-128
theorem sv_succ (s:Bs) (v0:Int) (i:Nat) (h:1≤i):sv s v0 (i+1)=64*sv s v0 i+((s.getD i 0).toNat:Int)-128:=by
 obtain⟨j,rfl⟩:∃j,i=j+1:=⟨i-1,by omega⟩
 rfl
def Cont (s:Bs) (i:Nat):Prop:=∀j,1≤j→j<i→contB (s.getD j 0)=true
def svBad (v least:Int):Bool:=decide (v<least)||decide (1114111<v)||(decide (55296≤v)&&decide (v≤57343))
theorem cont_rng {c:UInt8} (h:contB c=true):128≤c.toNat∧c.toNat<192:=by unfold contB at h;simpa using h
theorem sign2 (s:Bs) (a:UInt8) (h0:s[0]? = some a) (h1:194≤a.toNat) (h2:a.toNat<224) :
  (s.length<2→QU s=0)∧(∀i,1≤i→i<2→2≤s.length→contB (s.getD i 0)=false→QU s=0)∧(2≤s.length→Cont s 2→QU s=if svBad (sv s ((a.toNat:Int)-192) 2) 128=true then 0 else 2):=by
 cases s with
 |nil=>cases h0
 |cons x t=>
  simp only[gZ,Option.some.injEq]at h0
  subst h0
  have e:QU (x::t)=match t with|b::_=>if contB b then 2 else 0|_=>0:=by
   unfold QU
   simp only
   rw[if_neg (by omega),if_pos ⟨h1,h2⟩]
   cases t <;> rfl
  rw[e]
  refine⟨fun h=>?_,fun i hi1 hi2 hl hc=>?_,fun hl hc=>?_⟩
  ·cases t with
   |nil=>rfl
   |cons b t=>simp only[List.length_cons]at h;omega
  ·obtain rfl:i=1:=by omega
   cases t with
   |nil=>rfl
   |cons b t=>
    have hb:contB b=false:=hc
    simp[hb]
  ·cases t with
   |nil=>simp at hl
   |cons b t=>
    have hb:contB b=true:=hc 1 (by omega) (by omega)
    have hr:=cont_rng hb
    have hv:sv (x::b::t) ((x.toNat:Int)-192) 2=64*((x.toNat:Int)-192)+(b.toNat:Int)-128:=rfl
    rw[hv,if_neg]
    ·simp[hb]
    ·unfold svBad
     simp only[Bool.or_eq_true,Bool.and_eq_true,decide_eq_true_eq]
     omega
theorem sign3 (s:Bs) (a:UInt8) (h0:s[0]? = some a) (h1:224≤a.toNat) (h2:a.toNat<240) :
  (s.length<3→QU s=0)∧(∀i,1≤i→i<3→3≤s.length→contB (s.getD i 0)=false→QU s=0)∧(3≤s.length→Cont s 3→QU s=if svBad (sv s ((a.toNat:Int)-224) 3) 2048=true then 0 else 3):=by
 cases s with
 |nil=>cases h0
 |cons x t=>
  simp only[gZ,Option.some.injEq]at h0
  subst h0
  have e:QU (x::t)=match t with|b::c::_=>if contB b&&contB c&&(x.toNat != 224||160≤b.toNat)&&(x.toNat != 237||b.toNat<160) then 3 else 0|_=>0:=by
   unfold QU
   simp only
   rw[if_neg (by omega),if_neg (by omega),if_pos ⟨h1,h2⟩]
   match t with
   |[]=>rfl
   |[b]=>rfl
   |b::c::t=>rfl
  rw[e]
  refine⟨fun h=>?_,fun i hi1 hi2 hl hc=>?_,fun hl hc=>?_⟩
  ·match t,h with
   |[],_=>rfl
   |[b],_=>rfl
   |b::c::t,h=>simp only[List.length_cons]at h;omega
  ·match t,hl with
   |b::c::t,_=>
    simp only
    have hi:i=1∨i=2:=by omega
    rcases hi with rfl|rfl
    ·have hb:contB b=false:=hc
     simp[hb]
    ·have hb:contB c=false:=hc
     simp[hb]
   |[],hl=>simp at hl
   |[b],hl=>simp at hl
  ·match t,hl,hc with
   |b::c::t,_,hc=>
    simp only
    have hb:contB b=true:=hc 1 (by omega) (by omega)
    have hcc:contB c=true:=hc 2 (by omega) (by omega)
    have hr:=cont_rng hb
    have hr2:=cont_rng hcc
    have hv:sv (x::b::c::t) ((x.toNat:Int)-224) 3=64*(64*((x.toNat:Int)-224)+(b.toNat:Int)-128)+(c.toNat:Int)-128:=rfl
    rw[hv,hb,hcc]
    simp only[Bool.true_and]
    by_cases hok:((x.toNat != 224||decide (160≤b.toNat))&&(x.toNat != 237||decide (b.toNat<160)))=true
    ·rw[if_pos hok,if_neg]
     simp only[Bool.and_eq_true,Bool.or_eq_true,bne_iff_ne,decide_eq_true_eq]at hok
     unfold svBad
     simp only[Bool.or_eq_true,Bool.and_eq_true,decide_eq_true_eq]
     omega
    ·rw[if_neg hok,if_pos]
     simp only[Bool.and_eq_true,Bool.or_eq_true,bne_iff_ne,decide_eq_true_eq]at hok
     unfold svBad
     simp only[Bool.or_eq_true,Bool.and_eq_true,decide_eq_true_eq]
     omega
   |[],hl,_=>simp at hl
   |[b],hl,_=>simp at hl
theorem sign4 (s:Bs) (a:UInt8) (h0:s[0]? = some a) (h1:240≤a.toNat) (h2:a.toNat<245) :
  (s.length<4→QU s=0)∧(∀i,1≤i→i<4→4≤s.length→contB (s.getD i 0)=false→QU s=0)∧(4≤s.length→Cont s 4→QU s=if svBad (sv s ((a.toNat:Int)-240) 4) 65536=true then 0 else 4):=by
 cases s with
 |nil=>cases h0
 |cons x t=>
  simp only[gZ,Option.some.injEq]at h0
  subst h0
  have e:QU (x::t)=match t with|b::c::d::_=>if contB b&&contB c&&contB d&&(x.toNat != 240||144≤b.toNat)&&(x.toNat != 244||b.toNat<144) then 4 else 0|_=>0:=by
   unfold QU
   simp only
   rw[if_neg (by omega),if_neg (by omega),if_neg (by omega),if_pos ⟨h1,h2⟩]
   match t with
   |[]=>rfl
   |[b]=>rfl
   |[b,c]=>rfl
   |b::c::d::t=>rfl
  rw[e]
  refine⟨fun h=>?_,fun i hi1 hi2 hl hc=>?_,fun hl hc=>?_⟩
  ·match t,h with
   |[],_=>rfl
   |[b],_=>rfl
   |[b,c],_=>rfl
   |b::c::d::t,h=>simp only[List.length_cons]at h;omega
  ·match t,hl with
   |b::c::d::t,_=>
    simp only
    have hi:i=1∨i=2∨i=3:=by omega
    rcases hi with rfl|rfl|rfl
    ·have hb:contB b=false:=hc
     simp[hb]
    ·have hb:contB c=false:=hc
     simp[hb]
    ·have hb:contB d=false:=hc
     simp[hb]
   |[],hl=>simp at hl
   |[b],hl=>simp at hl
   |[b,c],hl=>simp at hl
  ·match t,hl,hc with
   |b::c::d::t,_,hc=>
    simp only
    have hb:contB b=true:=hc 1 (by omega) (by omega)
    have hcc:contB c=true:=hc 2 (by omega) (by omega)
    have hcd:contB d=true:=hc 3 (by omega) (by omega)
    have hr:=cont_rng hb
    have hr2:=cont_rng hcc
    have hr3:=cont_rng hcd
    have hv:sv (x::b::c::d::t) ((x.toNat:Int)-240) 4=64*(64*(64*((x.toNat:Int)-240)+(b.toNat:Int)-128)+(c.toNat:Int)-128)+(d.toNat:Int)-128:=rfl
    rw[hv,hb,hcc,hcd]
    simp only[Bool.true_and]
    by_cases hok:((x.toNat != 240||decide (144≤b.toNat))&&(x.toNat != 244||decide (b.toNat<144)))=true
    ·rw[if_pos hok,if_neg]
     simp only[Bool.and_eq_true,Bool.or_eq_true,bne_iff_ne,decide_eq_true_eq]at hok
     unfold svBad
     simp only[Bool.or_eq_true,Bool.and_eq_true,decide_eq_true_eq]
     omega
    ·rw[if_neg hok,if_pos]
     simp only[Bool.and_eq_true,Bool.or_eq_true,bne_iff_ne,decide_eq_true_eq]at hok
     unfold svBad
     simp only[Bool.or_eq_true,Bool.and_eq_true,decide_eq_true_eq]
     omega
   |[],hl,_=>simp at hl
   |[b],hl,_=>simp at hl
   |[b,c],hl,_=>simp at hl
theorem sign_none (s:Bs) (a:UInt8) (h0:s[0]? = some a) (h:(128≤a.toNat∧a.toNat<194)∨245≤a.toNat):QU s=0:=by
 cases s with
 |nil=>cases h0
 |cons x t=>
  simp only[gZ,Option.some.injEq]at h0
  subst h0
  unfold QU
  simp only
  rw[if_neg (by omega),if_neg (by omega),if_neg (by omega),if_neg (by omega)]
theorem sign_low (s:Bs) (a:UInt8) (h0:s[0]? = some a) (h:a.toNat<128):QU s=1:=by
 cases s with
 |nil=>cases h0
 |cons x t=>
  simp only[gZ,Option.some.injEq]at h0
  subst h0
  unfold QU
  simp only
  rw[if_pos h]
end Rf
theorem sign_2 (s:Strd.Bs) (a:UInt8) (h0:s[0]? = some a) (h1:194≤a.toNat) (h2:a.toNat<224) (w:World) (hl:s.length≤2^40):Calls Tryz.prog 136 #[.string (bstr s)] w fun e w'=>e=.returned (.int .i64 (Strd.QU s))∧w'=w:=by
 obtain⟨k1,k2,k3⟩:=Rf.sign2 s a h0 h1 h2
 generalize Strd.QU s=X at *
 have K1:=QB k1
 have K2:=QB k2
 have K3:=QB k3
 have e0:=Rf.ZQ h0
 have hpos:0<s.length:=by
  cases s with
  |nil=>cases h0
  |cons x t=>simp
 have hposI:(0:Int)<(s.length:Int):=by omega
 have c1:¬(a.toNat:Int)<128:=by omega
 have c2:(194:Int)≤(a.toNat:Int):=by omega
 have c2b:(a.toNat:Int)<224:=by omega
 have hwv:IntKind.i64.wrap ((a.toNat:Int)-192)=(a.toNat:Int)-192:=IntWalk.i64_in _ (by omega)
 clear k1 k2 k3 h0
 by_cases hlen:s.length<2
 ·have HF:Hid (X=0):=QB (by rw[QA K1 hlen])
  have hlenI:(s.length:Int)<2:=by omega
  go_enter Tryz.func136,Tryz.ntmps136
  go_wp2
  go_ret
  exact⟨by rw[QA HF];rfl,rfl⟩
 ·have hlenI:¬(s.length:Int)<2:=by omega
  go_enter Tryz.func136,Tryz.ntmps136
  go_wp2
  go_loopw [6,7] (fun c6 c7 wr=>∃i:Nat,1≤i∧i≤2∧c7=.int .i64 i∧c6=.int .i64 (Rf.sv s ((a.toNat:Int)-192) i)∧Rf.Cont s i∧0≤Rf.sv s ((a.toNat:Int)-192) i∧Rf.sv s ((a.toNat:Int)-192) i<32*64^i∧wr=w) (fun _ c _=>2-(intOf c).toNat)
  case atStart=>exact⟨1,by omega,by omega,rfl,by go_num,fun j h1 h2=>by omega,by show (0:Int)≤(a.toNat:Int)-192;omega,by show (a.toNat:Int)-192<32*64^1;omega,rfl⟩
  case round=>
   obtain⟨i,hi1,hin,rfl,rfl,hC,hv0,hv1,hwr⟩:=hrel
   have hwr':=hwr.symm
   subst hwr'
   have HC:=QB hC
   clear hC
   have hp:(64:Int)^i≤64^4:=by
    have:i=1∨i=2∨i=3∨i=4:=by omega
    rcases this with rfl|rfl|rfl|rfl <;> decide
   by_cases hlt:i<2
   ·have hltI:(i:Int)<2:=by omega
    have hls:i<s.length:=by omega
    have hlsI:(i:Int)<(s.length:Int):=by omega
    have g0:s[i]? = some s[i]:=gE hls
    have ei:=Rf.ZQ g0
    have hgd:s.getD i 0=s[i]:=by rw[gD,g0];rfl
    have hsv:=Rf.sv_succ s ((a.toNat:Int)-192) i hi1
    rw[hgd]at hsv
    have Hsv:=QB hsv
    have hw1:IntKind.i64.wrap ((i:Int)+1)=(i:Int)+1:=IntWalk.i64_in _ (by omega)
    have Hpw:Hid ((64:Int)^(i+1)=64^i*64):=QB (Int.pow_succ 64 i)
    have HK2:=QB (QA K2 i hi1 hlt (by omega))
    rw[hgd]at HK2
    have HCi:Hid (∀c,s[i]=c→Strd.contB c=true→Rf.Cont s (i+1)):=QB (fun c hc hb j h1 h2=>by
     by_cases e:j=i
     ·subst e;rw[hgd,hc];exact hb
     ·exact QA HC j h1 (by omega))
    generalize hV:Rf.sv s ((a.toNat:Int)-192) i=V at *
    generalize hcc:s[i]=c at *
    have HCi2:=QB (QA HCi c rfl)
    have hVb:V<536870912:=by omega
    have hcb:=c.toNat_lt
    have hw2:IntKind.i64.wrap (64*V)=64*V:=IntWalk.i64_in _ (by omega)
    have hw3:IntKind.i64.wrap (64*V+(c.toNat:Int))=64*V+(c.toNat:Int):=IntWalk.i64_in _ (by omega)
    have hw4:IntKind.i64.wrap (64*V+(c.toNat:Int)-128)=64*V+(c.toNat:Int)-128:=IntWalk.i64_in _ (by omega)
    clear hsv hgd g0 HCi hcc
    cases hb:Strd.contB c with
    |false=>
     have HF:Hid (X=0):=QB (by rw[QA HK2 hb])
     by_cases hc1:(c.toNat:Int)<128
     ·go_wp2
      go_ret
      exact⟨by rw[QA HF];rfl,rfl⟩
     ·have hc2:(192:Int)≤(c.toNat:Int):=by
       unfold Strd.contB at hb
       simp at hb
       omega
      go_wp2
      go_ret
      exact⟨by rw[QA HF];rfl,rfl⟩
    |true=>
     have hr:=Rf.cont_rng hb
     have hc1:¬(c.toNat:Int)<128:=by omega
     have hc2:¬(192:Int)≤(c.toNat:Int):=by omega
     have HN:=QB (QA HCi2 hb)
     have Hvb:Hid (0≤64*V+(c.toNat:Int)-128∧64*V+(c.toNat:Int)-128<32*64^(i+1)):=QB (by
      have:=QA Hpw
      refine⟨by omega,?_⟩
      rw[this]
      omega)
     clear hb hV
     go_wp2
     go_roundw
     case rel=>exact⟨i+1,by omega,by omega,by go_num,by rw[QA Hsv],QA HN,by rw[QA Hsv];exact(QA Hvb).1,by rw[QA Hsv];exact(QA Hvb).2,trivial⟩
     case measure=>simp[intOf];omega
   ·obtain rfl:i=2:=by omega
    have HF:=QB (QA K3 (by omega) (QA HC))
    generalize Rf.sv s ((a.toNat:Int)-192) 2=V at *
    clear hlt
    by_cases v1:V<128
    ·have HG:Hid (X=0):=QB (by rw[QA HF];simp[Rf.svBad,v1])
     go_wp2
     go_ret
     exact⟨by rw[QA HG];rfl,rfl⟩
    ·by_cases v2:1114111<V
     ·have HG:Hid (X=0):=QB (by rw[QA HF];simp[Rf.svBad,v2])
      go_wp2
      go_ret
      exact⟨by rw[QA HG];rfl,rfl⟩
     ·by_cases v3:55296≤V
      ·by_cases v4:V≤57343
       ·have HG:Hid (X=0):=QB (by rw[QA HF];simp[Rf.svBad,v3,v4])
        go_wp2
        go_ret
        exact⟨by rw[QA HG];rfl,rfl⟩
       ·have HG:Hid (X=2):=QB (by rw[QA HF];simp[Rf.svBad,v1,v2,v4])
        go_wp2
        go_ret
        exact⟨by rw[QA HG];rfl,rfl⟩
      ·have HG:Hid (X=2):=QB (by rw[QA HF];simp[Rf.svBad,v1,v2,v3])
       go_wp2
       go_ret
       exact⟨by rw[QA HG];rfl,rfl⟩
theorem sign_3 (s:Strd.Bs) (a:UInt8) (h0:s[0]? = some a) (h1:224≤a.toNat) (h2:a.toNat<240) (w:World) (hl:s.length≤2^40):Calls Tryz.prog 136 #[.string (bstr s)] w fun e w'=>e=.returned (.int .i64 (Strd.QU s))∧w'=w:=by
 obtain⟨k1,k2,k3⟩:=Rf.sign3 s a h0 h1 h2
 generalize Strd.QU s=X at *
 have K1:=QB k1
 have K2:=QB k2
 have K3:=QB k3
 have e0:=Rf.ZQ h0
 have hpos:0<s.length:=by
  cases s with
  |nil=>cases h0
  |cons x t=>simp
 have hposI:(0:Int)<(s.length:Int):=by omega
 have c1:¬(a.toNat:Int)<128:=by omega
 have c2:(194:Int)≤(a.toNat:Int):=by omega
 have c2b:¬(a.toNat:Int)<224:=by omega
 have c3:(224:Int)≤(a.toNat:Int):=by omega
 have c3b:(a.toNat:Int)<240:=by omega
 have hwv:IntKind.i64.wrap ((a.toNat:Int)-224)=(a.toNat:Int)-224:=IntWalk.i64_in _ (by omega)
 clear k1 k2 k3 h0
 by_cases hlen:s.length<3
 ·have HF:Hid (X=0):=QB (by rw[QA K1 hlen])
  have hlenI:(s.length:Int)<3:=by omega
  go_enter Tryz.func136,Tryz.ntmps136
  go_wp2
  go_ret
  exact⟨by rw[QA HF];rfl,rfl⟩
 ·have hlenI:¬(s.length:Int)<3:=by omega
  go_enter Tryz.func136,Tryz.ntmps136
  go_wp2
  go_loopw [6,7] (fun c6 c7 wr=>∃i:Nat,1≤i∧i≤3∧c7=.int .i64 i∧c6=.int .i64 (Rf.sv s ((a.toNat:Int)-224) i)∧Rf.Cont s i∧0≤Rf.sv s ((a.toNat:Int)-224) i∧Rf.sv s ((a.toNat:Int)-224) i<32*64^i∧wr=w) (fun _ c _=>3-(intOf c).toNat)
  case atStart=>exact⟨1,by omega,by omega,rfl,by go_num,fun j h1 h2=>by omega,by show (0:Int)≤(a.toNat:Int)-224;omega,by show (a.toNat:Int)-224<32*64^1;omega,rfl⟩
  case round=>
   obtain⟨i,hi1,hin,rfl,rfl,hC,hv0,hv1,hwr⟩:=hrel
   have hwr':=hwr.symm
   subst hwr'
   have HC:=QB hC
   clear hC
   have hp:(64:Int)^i≤64^4:=by
    have:i=1∨i=2∨i=3∨i=4:=by omega
    rcases this with rfl|rfl|rfl|rfl <;> decide
   by_cases hlt:i<3
   ·have hltI:(i:Int)<3:=by omega
    have hls:i<s.length:=by omega
    have hlsI:(i:Int)<(s.length:Int):=by omega
    have g0:s[i]? = some s[i]:=gE hls
    have ei:=Rf.ZQ g0
    have hgd:s.getD i 0=s[i]:=by rw[gD,g0];rfl
    have hsv:=Rf.sv_succ s ((a.toNat:Int)-224) i hi1
    rw[hgd]at hsv
    have Hsv:=QB hsv
    have hw1:IntKind.i64.wrap ((i:Int)+1)=(i:Int)+1:=IntWalk.i64_in _ (by omega)
    have Hpw:Hid ((64:Int)^(i+1)=64^i*64):=QB (Int.pow_succ 64 i)
    have HK2:=QB (QA K2 i hi1 hlt (by omega))
    rw[hgd]at HK2
    have HCi:Hid (∀c,s[i]=c→Strd.contB c=true→Rf.Cont s (i+1)):=QB (fun c hc hb j h1 h2=>by
     by_cases e:j=i
     ·subst e;rw[hgd,hc];exact hb
     ·exact QA HC j h1 (by omega))
    generalize hV:Rf.sv s ((a.toNat:Int)-224) i=V at *
    generalize hcc:s[i]=c at *
    have HCi2:=QB (QA HCi c rfl)
    have hVb:V<536870912:=by omega
    have hcb:=c.toNat_lt
    have hw2:IntKind.i64.wrap (64*V)=64*V:=IntWalk.i64_in _ (by omega)
    have hw3:IntKind.i64.wrap (64*V+(c.toNat:Int))=64*V+(c.toNat:Int):=IntWalk.i64_in _ (by omega)
    have hw4:IntKind.i64.wrap (64*V+(c.toNat:Int)-128)=64*V+(c.toNat:Int)-128:=IntWalk.i64_in _ (by omega)
    clear hsv hgd g0 HCi hcc
    cases hb:Strd.contB c with
    |false=>
     have HF:Hid (X=0):=QB (by rw[QA HK2 hb])
     by_cases hc1:(c.toNat:Int)<128
     ·go_wp2
      go_ret
      exact⟨by rw[QA HF];rfl,rfl⟩
     ·have hc2:(192:Int)≤(c.toNat:Int):=by
       unfold Strd.contB at hb
       simp at hb
       omega
      go_wp2
      go_ret
      exact⟨by rw[QA HF];rfl,rfl⟩
    |true=>
     have hr:=Rf.cont_rng hb
     have hc1:¬(c.toNat:Int)<128:=by omega
     have hc2:¬(192:Int)≤(c.toNat:Int):=by omega
     have HN:=QB (QA HCi2 hb)
     have Hvb:Hid (0≤64*V+(c.toNat:Int)-128∧64*V+(c.toNat:Int)-128<32*64^(i+1)):=QB (by
      have:=QA Hpw
      refine⟨by omega,?_⟩
      rw[this]
      omega)
     clear hb hV
     go_wp2
     go_roundw
     case rel=>exact⟨i+1,by omega,by omega,by go_num,by rw[QA Hsv],QA HN,by rw[QA Hsv];exact(QA Hvb).1,by rw[QA Hsv];exact(QA Hvb).2,trivial⟩
     case measure=>simp[intOf];omega
   ·obtain rfl:i=3:=by omega
    have HF:=QB (QA K3 (by omega) (QA HC))
    generalize Rf.sv s ((a.toNat:Int)-224) 3=V at *
    clear hlt
    by_cases v1:V<2048
    ·have HG:Hid (X=0):=QB (by rw[QA HF];simp[Rf.svBad,v1])
     go_wp2
     go_ret
     exact⟨by rw[QA HG];rfl,rfl⟩
    ·by_cases v2:1114111<V
     ·have HG:Hid (X=0):=QB (by rw[QA HF];simp[Rf.svBad,v2])
      go_wp2
      go_ret
      exact⟨by rw[QA HG];rfl,rfl⟩
     ·by_cases v3:55296≤V
      ·by_cases v4:V≤57343
       ·have HG:Hid (X=0):=QB (by rw[QA HF];simp[Rf.svBad,v3,v4])
        go_wp2
        go_ret
        exact⟨by rw[QA HG];rfl,rfl⟩
       ·have HG:Hid (X=3):=QB (by rw[QA HF];simp[Rf.svBad,v1,v2,v4])
        go_wp2
        go_ret
        exact⟨by rw[QA HG];rfl,rfl⟩
      ·have HG:Hid (X=3):=QB (by rw[QA HF];simp[Rf.svBad,v1,v2,v3])
       go_wp2
       go_ret
       exact⟨by rw[QA HG];rfl,rfl⟩
theorem sign_4 (s:Strd.Bs) (a:UInt8) (h0:s[0]? = some a) (h1:240≤a.toNat) (h2:a.toNat<245) (w:World) (hl:s.length≤2^40):Calls Tryz.prog 136 #[.string (bstr s)] w fun e w'=>e=.returned (.int .i64 (Strd.QU s))∧w'=w:=by
 obtain⟨k1,k2,k3⟩:=Rf.sign4 s a h0 h1 h2
 generalize Strd.QU s=X at *
 have K1:=QB k1
 have K2:=QB k2
 have K3:=QB k3
 have e0:=Rf.ZQ h0
 have hpos:0<s.length:=by
  cases s with
  |nil=>cases h0
  |cons x t=>simp
 have hposI:(0:Int)<(s.length:Int):=by omega
 have c1:¬(a.toNat:Int)<128:=by omega
 have c2:(194:Int)≤(a.toNat:Int):=by omega
 have c2b:¬(a.toNat:Int)<224:=by omega
 have c3:(224:Int)≤(a.toNat:Int):=by omega
 have c3b:¬(a.toNat:Int)<240:=by omega
 have c4:(240:Int)≤(a.toNat:Int):=by omega
 have c4b:(a.toNat:Int)<245:=by omega
 have hwv:IntKind.i64.wrap ((a.toNat:Int)-240)=(a.toNat:Int)-240:=IntWalk.i64_in _ (by omega)
 clear k1 k2 k3 h0
 by_cases hlen:s.length<4
 ·have HF:Hid (X=0):=QB (by rw[QA K1 hlen])
  have hlenI:(s.length:Int)<4:=by omega
  go_enter Tryz.func136,Tryz.ntmps136
  go_wp2
  go_ret
  exact⟨by rw[QA HF];rfl,rfl⟩
 ·have hlenI:¬(s.length:Int)<4:=by omega
  go_enter Tryz.func136,Tryz.ntmps136
  go_wp2
  go_loopw [6,7] (fun c6 c7 wr=>∃i:Nat,1≤i∧i≤4∧c7=.int .i64 i∧c6=.int .i64 (Rf.sv s ((a.toNat:Int)-240) i)∧Rf.Cont s i∧0≤Rf.sv s ((a.toNat:Int)-240) i∧Rf.sv s ((a.toNat:Int)-240) i<32*64^i∧wr=w) (fun _ c _=>4-(intOf c).toNat)
  case atStart=>exact⟨1,by omega,by omega,rfl,by go_num,fun j h1 h2=>by omega,by show (0:Int)≤(a.toNat:Int)-240;omega,by show (a.toNat:Int)-240<32*64^1;omega,rfl⟩
  case round=>
   obtain⟨i,hi1,hin,rfl,rfl,hC,hv0,hv1,hwr⟩:=hrel
   have hwr':=hwr.symm
   subst hwr'
   have HC:=QB hC
   clear hC
   have hp:(64:Int)^i≤64^4:=by
    have:i=1∨i=2∨i=3∨i=4:=by omega
    rcases this with rfl|rfl|rfl|rfl <;> decide
   by_cases hlt:i<4
   ·have hltI:(i:Int)<4:=by omega
    have hls:i<s.length:=by omega
    have hlsI:(i:Int)<(s.length:Int):=by omega
    have g0:s[i]? = some s[i]:=gE hls
    have ei:=Rf.ZQ g0
    have hgd:s.getD i 0=s[i]:=by rw[gD,g0];rfl
    have hsv:=Rf.sv_succ s ((a.toNat:Int)-240) i hi1
    rw[hgd]at hsv
    have Hsv:=QB hsv
    have hw1:IntKind.i64.wrap ((i:Int)+1)=(i:Int)+1:=IntWalk.i64_in _ (by omega)
    have Hpw:Hid ((64:Int)^(i+1)=64^i*64):=QB (Int.pow_succ 64 i)
    have HK2:=QB (QA K2 i hi1 hlt (by omega))
    rw[hgd]at HK2
    have HCi:Hid (∀c,s[i]=c→Strd.contB c=true→Rf.Cont s (i+1)):=QB (fun c hc hb j h1 h2=>by
     by_cases e:j=i
     ·subst e;rw[hgd,hc];exact hb
     ·exact QA HC j h1 (by omega))
    generalize hV:Rf.sv s ((a.toNat:Int)-240) i=V at *
    generalize hcc:s[i]=c at *
    have HCi2:=QB (QA HCi c rfl)
    have hVb:V<536870912:=by omega
    have hcb:=c.toNat_lt
    have hw2:IntKind.i64.wrap (64*V)=64*V:=IntWalk.i64_in _ (by omega)
    have hw3:IntKind.i64.wrap (64*V+(c.toNat:Int))=64*V+(c.toNat:Int):=IntWalk.i64_in _ (by omega)
    have hw4:IntKind.i64.wrap (64*V+(c.toNat:Int)-128)=64*V+(c.toNat:Int)-128:=IntWalk.i64_in _ (by omega)
    clear hsv hgd g0 HCi hcc
    cases hb:Strd.contB c with
    |false=>
     have HF:Hid (X=0):=QB (by rw[QA HK2 hb])
     by_cases hc1:(c.toNat:Int)<128
     ·go_wp2
      go_ret
      exact⟨by rw[QA HF];rfl,rfl⟩
     ·have hc2:(192:Int)≤(c.toNat:Int):=by
       unfold Strd.contB at hb
       simp at hb
       omega
      go_wp2
      go_ret
      exact⟨by rw[QA HF];rfl,rfl⟩
    |true=>
     have hr:=Rf.cont_rng hb
     have hc1:¬(c.toNat:Int)<128:=by omega
     have hc2:¬(192:Int)≤(c.toNat:Int):=by omega
     have HN:=QB (QA HCi2 hb)
     have Hvb:Hid (0≤64*V+(c.toNat:Int)-128∧64*V+(c.toNat:Int)-128<32*64^(i+1)):=QB (by
      have:=QA Hpw
      refine⟨by omega,?_⟩
      rw[this]
      omega)
     clear hb hV
     go_wp2
     go_roundw
     case rel=>exact⟨i+1,by omega,by omega,by go_num,by rw[QA Hsv],QA HN,by rw[QA Hsv];exact(QA Hvb).1,by rw[QA Hsv];exact(QA Hvb).2,trivial⟩
     case measure=>simp[intOf];omega
   ·obtain rfl:i=4:=by omega
    have HF:=QB (QA K3 (by omega) (QA HC))
    generalize Rf.sv s ((a.toNat:Int)-240) 4=V at *
    clear hlt
    by_cases v1:V<65536
    ·have HG:Hid (X=0):=QB (by rw[QA HF];simp[Rf.svBad,v1])
     go_wp2
     go_ret
     exact⟨by rw[QA HG];rfl,rfl⟩
    ·by_cases v2:1114111<V
     ·have HG:Hid (X=0):=QB (by rw[QA HF];simp[Rf.svBad,v2])
      go_wp2
      go_ret
      exact⟨by rw[QA HG];rfl,rfl⟩
     ·by_cases v3:55296≤V
      ·by_cases v4:V≤57343
       ·have HG:Hid (X=0):=QB (by rw[QA HF];simp[Rf.svBad,v3,v4])
        go_wp2
        go_ret
        exact⟨by rw[QA HG];rfl,rfl⟩
       ·have HG:Hid (X=4):=QB (by rw[QA HF];simp[Rf.svBad,v1,v2,v4])
        go_wp2
        go_ret
        exact⟨by rw[QA HG];rfl,rfl⟩
      ·have HG:Hid (X=4):=QB (by rw[QA HF];simp[Rf.svBad,v1,v2,v3])
       go_wp2
       go_ret
       exact⟨by rw[QA HG];rfl,rfl⟩
theorem sign_ref (s:Strd.Bs) (hs:s≠[]) (w:World) (hl:s.length≤2^40):Calls Tryz.prog 136 #[.string (bstr s)] w fun e w'=>e=.returned (.int .i64 (Strd.QU s))∧w'=w:=by
 obtain⟨a,h0⟩:∃a,s[0]? = some a:=by
  cases s with
  |nil=>exact(hs rfl).elim
  |cons a t=>exact⟨a,rfl⟩
 have hpos:0<s.length:=by
  cases s with
  |nil=>cases h0
  |cons x t=>simp
 have hposI:(0:Int)<(s.length:Int):=by omega
 by_cases h1:a.toNat<128
 ·have HX:=QB (Rf.sign_low s a h0 h1)
  generalize Strd.QU s=X at *
  have e0:=Rf.ZQ h0
  have c1:(a.toNat:Int)<128:=by omega
  clear h0 hs
  go_enter Tryz.func136,Tryz.ntmps136
  go_wp2
  go_ret
  exact⟨by rw[QA HX];rfl,rfl⟩
 by_cases h2:194≤a.toNat∧a.toNat<224
 ·exact sign_2 s a h0 h2.1 h2.2 w hl
 by_cases h3:224≤a.toNat∧a.toNat<240
 ·exact sign_3 s a h0 h3.1 h3.2 w hl
 by_cases h4:240≤a.toNat∧a.toNat<245
 ·exact sign_4 s a h0 h4.1 h4.2 w hl
 have HX:=QB (Rf.sign_none s a h0 (by omega))
 generalize Strd.QU s=X at *
 have e0:=Rf.ZQ h0
 have c1:¬(a.toNat:Int)<128:=by omega
 by_cases h5:a.toNat<194
 ·have c2:¬(194:Int)≤(a.toNat:Int):=by omega
  have c3:¬(224:Int)≤(a.toNat:Int):=by omega
  have c4:¬(240:Int)≤(a.toNat:Int):=by omega
  have hat:=a.toNat_lt
  clear h0 hs h1 h2 h3 h4 h5
  go_enter Tryz.func136,Tryz.ntmps136
  go_wp2
  go_ret
  exact⟨by rw[QA HX];rfl,rfl⟩
 ·have c2:(194:Int)≤(a.toNat:Int):=by omega
  have c2b:¬(a.toNat:Int)<224:=by omega
  have c3:(224:Int)≤(a.toNat:Int):=by omega
  have c3b:¬(a.toNat:Int)<240:=by omega
  have c4:(240:Int)≤(a.toNat:Int):=by omega
  have c4b:¬(a.toNat:Int)<245:=by omega
  have hat:=a.toNat_lt
  clear h0 hs h1 h2 h3 h4 h5
  go_enter Tryz.func136,Tryz.ntmps136
  go_wp2
  go_ret
  exact⟨by rw[QA HX];rfl,rfl⟩
namespace Rf
theorem left_step (count:Nat) (a:UInt8) (t:Strd.Bs) :
  nameLeft count (a::t)=if Strd.QU (a::t)=0∨(Strd.QU (a::t)=1∧Strd.letter a=false∧(Strd.digit a=false∨count=0)) then false else nameLeft (count+1) ((a::t).drop (Strd.QU (a::t))):=by
 unfold nameLeft
 rw[List.length_cons,Strd.nameCount]
 have e0:((count==0)=true)↔count=0:=by simp
 by_cases hb:Strd.QU (a::t)=0∨(Strd.QU (a::t)=1∧Strd.letter a=false∧(Strd.digit a=false∨count=0))
 ·rw[if_pos hb,if_pos (by rw[e0];exact hb)]
 ·rw[if_neg hb,if_neg (by rw[e0];exact hb)]
  obtain⟨k,hk⟩:∃k,Strd.QU (a::t)=k+1:=⟨Strd.QU (a::t)-1,by have:Strd.QU (a::t)≠0:=fun h=>hb (.inl h);omega⟩
  rw[hk,List.drop_succ_cons,Nat.add_sub_cancel]
  have hl:(t.drop k).length≤t.length:=by rw[List.length_drop];omega
  rw[nameCount_fuel t.length false _ hl]
  have e:(count+1==0)=false:=by simp
  rw[e]
  cases Strd.nameCount (t.drop k).length false (t.drop k) with
  |none=>rfl
  |some n=>simp only[Option.map_some];rw[show n+1+count=n+(count+1) from by omega]
theorem sign_len_le (s:Strd.Bs):Strd.QU s≤s.length:=by
 unfold Strd.QU
 cases s with
 |nil=>simp
 |cons a t=>
  simp only
  split
  ·simp
  ·split
   ·split
    ·split <;> simp
    ·simp
   ·split
    ·split
     ·split <;> simp
     ·simp
    ·split
     ·split
      ·split <;> simp
      ·simp
     ·simp
theorem letter_int (a:UInt8):Strd.letter a=((decide ((97:Int)≤(a.toNat:Int))&&decide ((a.toNat:Int)≤122))||(decide ((65:Int)≤(a.toNat:Int))&&decide ((a.toNat:Int)≤90))||((a.toNat:Int)==95)):=by
 rw[letter_nat]
 rw[Bool.eq_iff_iff]
 simp only[Bool.or_eq_true,Bool.and_eq_true,decide_eq_true_eq,beq_iff_eq]
 omega
theorem digit_int (a:UInt8):Strd.digit a=(decide ((48:Int)≤(a.toNat:Int))&&decide ((a.toNat:Int)≤57)):=by
 rw[digit_nat]
 rw[Bool.eq_iff_iff]
 simp only[Bool.and_eq_true,decide_eq_true_eq]
 omega
end Rf
theorem IsName_ref (s:Strd.Bs) (w:World) (hl:s.length≤2^40):Calls Tryz.prog 108 #[.string (bstr s)] w fun e w'=>e=.returned (.bool (Strd.ZT s))∧w'=w:=by
 have HX:=QB (nameLeft_zero s)
 generalize Strd.ZT s=X at *
 go_enter Tryz.func108,Tryz.ntmps108
 go_wp2
 go_loopw [3,4] (fun c3 c4 wr=>∃i n:Nat,i≤s.length∧n≤i∧(n=0↔i=0)∧c4=.int .i64 i∧c3=.int .i64 n∧nameLeft n (s.drop i)=X∧wr=w) (fun _ c _=>s.length-(intOf c).toNat)
 case atStart=>exact⟨0,0,by omega,by omega,by simp,rfl,rfl,QA HX,rfl⟩
 case round=>
  clear HX
  obtain⟨i,n,hi,hn,hni,rfl,rfl,hX,hwr⟩:=hrel
  have hwr':=hwr.symm
  subst hwr'
  by_cases hlt:i<s.length
  ·have hltI:(i:Int)<(s.length:Int):=by omega
   have g0:s[i]? = some s[i]:=gE hlt
   have e0:=Rf.ZQ g0
   have hdr:s.drop i=s[i]::s.drop (i+1):=List.drop_eq_getElem_cons hlt
   have hst:=Rf.left_step n s[i] (s.drop (i+1))
   have hsl:=Rf.sign_len_le (s.drop i)
   rw[←hdr]at hst
   rw[hX]at hst
   have hdl:(s.drop i).length=s.length-i:=by simp
   have CS:=QB (sign_ref (s.drop i) (fun h=>by rw[h]at hdl;simp at hdl;omega) w (by rw[hdl];omega))
   have hsub:=ext_from s i
   have hdd:∀k,(s.drop i).drop k=s.drop (i+k):=fun k=>by rw[List.drop_drop]
   rw[hdd]at hst
   rw[hdl]at hsl
   generalize Strd.QU (s.drop i)=k at *
   have HST:=QB hst
   have hiL:(i:Int)≤(s.length:Int):=by omega
   have HL:=QB (Rf.letter_int s[i])
   have HD:=QB (Rf.digit_int s[i])
   generalize s[i]=c at *
   generalize Strd.letter c=L at *
   generalize Strd.digit c=D at *
   generalize s.drop i=S at *
   clear hst hX g0 hdr hdl hdd
   go_upto_region 6 with (go_at_call 136;refine(QA CS).mono ?_;rintro e w1 ⟨rfl,hw1⟩;have hw1':=hw1.symm;subst hw1')
   go_cut [7] (fun c7 wc=>c7=.bool L∧wc=w)
   case first=>
    clear HST HD
    by_cases q1:(97:Int)≤(c.toNat:Int)
    ·by_cases q2:(c.toNat:Int)≤122
     ·have HG:Hid (L=true):=QB (by rw[QA HL];simp[q1,q2])
      clear HL
      go_wp2
      go_meet
      exact⟨by rw[QA HG],rfl⟩
     ·have q3:(65:Int)≤(c.toNat:Int):=by omega
      have q4:¬(c.toNat:Int)≤90:=by omega
      have q5:((c.toNat:Int)==95)=false:=by simp;omega
      have HG:Hid (L=false):=QB (by rw[QA HL,q5];simp[q2,q4])
      clear HL
      go_wp2
      go_meet
      exact⟨by rw[QA HG],rfl⟩
    ·by_cases q3:(65:Int)≤(c.toNat:Int)
     ·by_cases q4:(c.toNat:Int)≤90
      ·have HG:Hid (L=true):=QB (by rw[QA HL];simp[q3,q4])
       clear HL
       go_wp2
       go_meet
       exact⟨by rw[QA HG],rfl⟩
      ·have HG:Hid (L=((c.toNat:Int)==95)):=QB (by rw[QA HL];simp[q1,q4])
       clear HL
       go_wp2
       go_meet
       exact⟨by rw[QA HG],rfl⟩
     ·have HG:Hid (L=((c.toNat:Int)==95)):=QB (by rw[QA HL];simp[q1,q3])
      clear HL
      go_wp2
      go_meet
      exact⟨by rw[QA HG],rfl⟩
   case rest=>
    obtain⟨rfl,hwc⟩:=hcut
    have hwc':=hwc.symm
    subst hwc'
    clear HL
    go_upto_region 7 with fail
    go_cut [8] (fun c8 wc=>c8=.bool D∧wc=w)
    case first=>
     clear HST
     by_cases q1:(48:Int)≤(c.toNat:Int)
     ·have HG:Hid (D=decide ((c.toNat:Int)≤57)):=QB (by rw[QA HD];simp[q1])
      clear HD
      go_wp2
      go_meet
      exact⟨by rw[QA HG],rfl⟩
     ·have HG:Hid (D=false):=QB (by rw[QA HD];simp[q1])
      clear HD
      go_wp2
      go_meet
      exact⟨by rw[QA HG],rfl⟩
    case rest=>
     obtain⟨rfl,hwc⟩:=hcut
     have hwc':=hwc.symm
     subst hwc'
     clear HD
     have hw1:IntKind.i64.wrap ((i:Int)+(k:Int))=(i:Int)+(k:Int):=IntWalk.i64_in _ (by omega)
     have hw2:IntKind.i64.wrap ((n:Int)+1)=(n:Int)+1:=IntWalk.i64_in _ (by omega)
     by_cases k0:k=0
     ·have HG:Hid (X=false):=QB (by rw[QA HST,if_pos (.inl k0)])
      have b0:((k:Int)==0)=true:=by rw[k0];rfl
      clear k0 HST
      go_wp2
      go_ret
      exact⟨by rw[QA HG];rfl,rfl⟩
     ·have b0:((k:Int)==0)=false:=by simp;omega
      by_cases k1:k=1
      ·have b1:((k:Int)==1)=true:=by rw[k1];rfl
       cases L with
       |true=>
        have HG:Hid (nameLeft (n+1) (s.drop (i+k))=X):=QB (by rw[QA HST,if_neg];rintro (h|⟨_,h,_⟩);exact k0 h;cases h)
        clear k1 HST
        go_wp2
        go_roundw
        case rel=>exact⟨i+k,n+1,by omega,by omega,by omega,by go_num,by go_num,QA HG,trivial⟩
        case measure=>simp[intOf];omega
       |false=>
        cases D with
        |false=>
         have HG:Hid (X=false):=QB (by rw[QA HST,if_pos (.inr ⟨k1,rfl,.inl rfl⟩)])
         clear k1 HST
         go_wp2
         go_ret
         exact⟨by rw[QA HG];rfl,rfl⟩
        |true=>
         by_cases i0:i=0
         ·have HG:Hid (X=false):=QB (by rw[QA HST,if_pos (.inr ⟨k1,rfl,.inr (hni.2 i0)⟩)])
          have b2:((i:Int)==0)=true:=by rw[i0];rfl
          clear k1 i0 HST
          go_wp2
          go_ret
          exact⟨by rw[QA HG];rfl,rfl⟩
         ·have HG:Hid (nameLeft (n+1) (s.drop (i+k))=X):=QB (by
           rw[QA HST,if_neg]
           rintro (h|⟨_,_,h|h⟩)
           ·exact k0 h
           ·cases h
           ·exact i0 (hni.1 h))
          have b2:((i:Int)==0)=false:=by simp;omega
          clear k1 HST
          go_wp2
          go_roundw
          case rel=>exact⟨i+k,n+1,by omega,by omega,by omega,by go_num,by go_num,QA HG,trivial⟩
          case measure=>simp[intOf];omega
      ·have b1:((k:Int)==1)=false:=by simp;omega
       have HG:Hid (nameLeft (n+1) (s.drop (i+k))=X):=QB (by rw[QA HST,if_neg];rintro (h|⟨h,_⟩);exact k0 h;exact k1 h)
       clear HST
       go_wp2
       go_roundw
       case rel=>exact⟨i+k,n+1,by omega,by omega,by omega,by go_num,by go_num,QA HG,trivial⟩
       case measure=>simp[intOf];omega
  ·obtain rfl:i=s.length:=by omega
   rw[List.drop_length,nameLeft_nil]at hX
   by_cases n1:1≤n
   ·have n1I:(1:Int)≤(n:Int):=by omega
    have HG:Hid (X=decide (n≤20)):=QB (by rw[←hX];simp[n1])
    clear hX
    go_wp2
    go_ret
    exact⟨by rw[QA HG];first|rfl|(congr 2;rw[Bool.eq_iff_iff];simp;omega)|(simp;omega),rfl⟩
   ·have n1I:¬(1:Int)≤(n:Int):=by omega
    have HG:Hid (X=false):=QB (by rw[←hX];simp[n1])
    clear hX
    go_wp2
    go_ret
    exact⟨by rw[QA HG];rfl,rfl⟩
theorem isPlace_ref (s:Strd.Bs) (w:World) (hl:s.length≤2^40):Calls Tryz.prog 137 #[.string (bstr s)] w fun e w'=>e=.returned (.bool ((Strd.number s).isSome||Strd.ZT s))∧w'=w:=by
 have C1:=QB (number_ref s w hl)
 have C2:=QB (IsName_ref s w hl)
 generalize Strd.number s=N at *
 generalize Strd.ZT s=B at *
 cases N with
 |none=>
  go_enter Tryz.func137,Tryz.ntmps137
  go_wp2_with (first|(go_at_call 74;refine(QA C1).mono ?_;rintro e w' ⟨rfl,rfl⟩)|(go_at_call 108;refine(QA C2).mono ?_;rintro e w' ⟨rfl,rfl⟩))
  go_ret
  exact⟨rfl,rfl⟩
 |some n=>
  go_enter Tryz.func137,Tryz.ntmps137
  go_wp2_with (first|(go_at_call 74;refine(QA C1).mono ?_;rintro e w' ⟨rfl,rfl⟩)|(go_at_call 108;refine(QA C2).mono ?_;rintro e w' ⟨rfl,rfl⟩))
  go_ret
  exact⟨rfl,rfl⟩
theorem fine_ref (k:UInt8) (t:Strd.Bs) (w:World) (hl:t.length≤2^40):Calls Tryz.prog 111 #[.int .u8 (k.toNat:Int),.string (bstr t)] w fun e w'=>e=.returned (.bool (Rf.fine k t))∧w'=w:=by
 have C1:=QB (register_ref t w hl)
 have C2:=QB (value_ref t w hl)
 have C3:=QB (number_ref t w hl)
 have C4:=QB (isPlace_ref t w hl)
 generalize hX:Rf.fine k t=X
 unfold Rf.fine at hX
 by_cases h1:k=114
 ·rw[if_pos h1]at hX
  have b1:((k.toNat:Int)==114)=true:=by rw[h1];rfl
  rw[hX]at C1
  clear hX h1
  go_enter Tryz.func111,Tryz.ntmps111
  go_wp2_with (go_at_call 112;refine(QA C1).mono ?_;rintro e w' ⟨rfl,rfl⟩)
  go_ret
  exact⟨rfl,rfl⟩
 ·rw[if_neg h1]at hX
  have b1:((k.toNat:Int)==114)=false:=Rf.beq_u8 k 114 h1
  by_cases h2:k=118
  ·rw[if_pos h2]at hX
   have b2:((k.toNat:Int)==118)=true:=by rw[h2];rfl
   rw[hX]at C2
   clear hX h1 h2
   go_enter Tryz.func111,Tryz.ntmps111
   go_wp2_with (go_at_call 114;refine(QA C2).mono ?_;rintro e w' ⟨rfl,rfl⟩)
   go_ret
   exact⟨rfl,rfl⟩
  ·rw[if_neg h2]at hX
   have b2:((k.toNat:Int)==118)=false:=Rf.beq_u8 k 118 h2
   by_cases h3:k=110
   ·rw[if_pos h3]at hX
    have b3:((k.toNat:Int)==110)=true:=by rw[h3];rfl
    rw[hX]at C3
    clear hX h1 h2 h3
    go_enter Tryz.func111,Tryz.ntmps111
    go_wp2_with (go_at_call 74;refine(QA C3).mono ?_;rintro e w' ⟨rfl,rfl⟩)
    go_ret
    exact⟨rfl,rfl⟩
   ·rw[if_neg h3]at hX
    have b3:((k.toNat:Int)==110)=false:=Rf.beq_u8 k 110 h3
    rw[hX]at C4
    clear hX h1 h2 h3
    go_enter Tryz.func111,Tryz.ntmps111
    go_wp2_with (go_at_call 137;refine(QA C4).mono ?_;rintro e w' ⟨rfl,rfl⟩)
    go_ret
    exact⟨rfl,rfl⟩
namespace Rf
theorem split_find (c:UInt8) (s:Strd.Bs):(find s c=-1∧Strd.split c s=[s])∨∃k:Nat,find s c=(k:Int)∧k<s.length∧Strd.split c s=s.take k::Strd.split c (s.drop (k+1)):=by
 rcases find_spec s c with ⟨h1,h2⟩|⟨a,b,rfl,h2,h3⟩
 ·exact .inl ⟨h1,Strd.split_none c s h2⟩
 ·refine .inr ⟨a.length,h3,by simp,?_⟩
  rw[Strd.split_at c a b h2,List.take_left,←List.drop_drop,List.drop_left]
  rfl
end Rf
theorem split_ref (s:Strd.Bs) (c:UInt8) (w:World) (hl:s.length≤2^40):Calls Tryz.prog 71 #[.string (bstr s),.int .u8 (c.toNat:Int)] w fun e w'=>∃v,e=.returned v∧ZR w.heap.size w' v (Strd.split c s)∧Below w.heap.size w w':=by
 obtain⟨i0,hi,hz0,hz1,hz2⟩:=info_parts Tryz.info9
 go_enter Tryz.func71,Tryz.ntmps71
 go_wp2
 go_loopw [0,5] (fun c0 v wr=>∃(t:Strd.Bs) (done:List Strd.Bs),t.length+done.length≤s.length∧c0=.string (bstr t)∧ZR w.heap.size wr v done∧Below w.heap.size w wr∧Strd.split c s=done++Strd.split c t) (fun c _ _=>strLenOf c)
 case atStart=>exact⟨s,[],by simp,rfl,World.ownsRow_nil _ _ _ _,Below.refl _ _,rfl⟩
 case round=>
  obtain⟨t,done,hlen,rfl,hrow,hbl,hsp⟩:=hrel
  have Hsp:=QB hsp
  clear hsp
  have CF:=QB (fun W=>find_r t c W (by omega))
  have hbs:=hbl.size
  rcases Rf.split_find c t with ⟨h1,h2⟩|⟨k,h1,hk,h2⟩
  ·rw[h1]at CF
   have H2:=QB h2
   clear h1 h2
   go_wp2_with (first
    |(go_at_call 106;refine(QA CF wr).mono ?_;rintro e w1 ⟨rfl,hw1⟩;have hw1':=hw1.symm;subst hw1')
    |(at_builtin;refine wpList_append_own _ rfl _ _ 38 rfl w.heap.size 9 i0 (.string ⟨#[]⟩) 1 16 Tryz.underlying38 hi hz0 hz1 hz2 rfl (by decide) _ _ _ rfl (hrow.alloc _) ⟨wr.heap.size,0,none⟩ 1 1 [.string (bstr t)] ?dx rfl ?d1 ?d2 ?d3 ?d4 ?d5 ?_)|go_in)
   case dx=>rfl
   case d1=>exact cell_one_new _ _ _
   case d2=>exact strs_one [t]
   case d3=>unfold maxLen;omega
   case d4=>omega
   case d5=>rw[World.size_alloc];omega
   intro v1 w2 hown hgrow _
   have hbl2:Below w.heap.size w w2:=Below.grown (hbl.alloc (by omega) _) hgrow (by rw[World.size_alloc];omega) (fun k e=>by have:=(hrow.lt _ e).1;omega)
   clear hgrow
   go_wp2
   go_ret
   refine⟨v1,rfl,?_,hbl2⟩
   rw[QA Hsp,QA H2]
   show World.ownsRow _ _ _ _ _ _ _
   rw[List.length_append,List.map_append]
   exact hown
  ·rw[h1]at CF
   have H2:=QB h2
   have hkI:(k:Int)<(t.length:Int):=by omega
   have hkn:¬(k:Int)<0:=by omega
   have hw1:IntKind.i64.wrap ((k:Int)+1)=(k:Int)+1:=IntWalk.i64_in _ (by omega)
   have hkl:(k:Int)≤(t.length:Int):=by omega
   have hkl1:(k:Int)+1≤(t.length:Int):=by omega
   have hs1:=ext_to t k
   have hs2:=ext_from t (k+1)
   have Htk:Hid ((t.drop (k+1)).length=t.length-(k+1)):=QB (by simp)
   clear h1 h2
   go_wp2_with (first
    |(go_at_call 106;refine(QA CF wr).mono ?_;rintro e w1 ⟨rfl,hw1⟩;have hw1':=hw1.symm;subst hw1')
    |(at_builtin;refine wpList_append_own _ rfl _ _ 38 rfl w.heap.size 9 i0 (.string ⟨#[]⟩) 1 16 Tryz.underlying38 hi hz0 hz1 hz2 rfl (by decide) _ _ _ rfl (hrow.alloc _) ⟨wr.heap.size,0,none⟩ 1 1 [.string (bstr (t.take k))] ?dx rfl ?d1 ?d2 ?d3 ?d4 ?d5 ?_)|go_in)
   case dx=>rfl
   case d1=>first|exact cell_one_new _ _ _|(rw[←hs1];exact cell_one_new _ _ _)
   case d2=>exact strs_one [t.take k]
   case d3=>unfold maxLen;omega
   case d4=>omega
   case d5=>rw[World.size_alloc];omega
   intro v1 w2 hown hgrow _
   have hbl2:Below w.heap.size w w2:=Below.grown (hbl.alloc (by omega) _) hgrow (by rw[World.size_alloc];omega) (fun k e=>by have:=(hrow.lt _ e).1;omega)
   clear hgrow
   go_wp2
   go_roundw
   case rel=>
    refine⟨t.drop (k+1),done++[t.take k],by rw[QA Htk,List.length_append];simp;omega,by first|rfl|exact congrArg Value.string hs2|(rw[←hs2];rfl),?_,hbl2,?_⟩
    ·show World.ownsRow _ _ _ _ _ _ _
     rw[List.length_append,List.map_append]
     exact hown
    ·rw[QA Hsp,QA H2,List.append_assoc];rfl
   case measure=>simp only[strLenOf];first|(simp[ZA];omega)|(rw[hs2];simp[ZA];omega)
namespace Rf
def zLine:Array Value:=#[.int .i64 0,.string ⟨#[]⟩,.string ⟨#[]⟩,.int .i64 0,.slice none 0 0]
def lineCells (l:Line) (p:Option Addr) (n c:Nat):Array Value:=#[.int .i64 l.no,.string (bstr l.label),.string (bstr l.word),.int .i64 l.form,.slice p n c]
theorem line_one (a b:Int) (s t:ByteArray) (p:Option Addr) (n m:Nat):(#[Value.int .i64 a,.string s,.string t,.int .i64 b,.slice p n m]).all (·.oneCell')=true:=by simp[Value.oneCell']
theorem box_set {w:World} {g i:Nat} {cs:Array Value} {t:TypeId} {x:Value} (h:w.heap[g]? = some (.cells cs t (0,0))):(w.setCell ⟨g,i,none⟩ x).heap[g]? = some (.cells (cs.setIfInBounds i x) t (0,0)):=by
 simp[World.setCell,Array.getElem?_modify,h]
theorem box_other {w:World} {g i b:Nat} {o:Obj} {x:Value} (h:w.heap[b]? = some o) (hne:b≠g):(w.setCell ⟨g,i,none⟩ x).heap[b]? = some o:=by
 rw[Below.heap_setCell _ _ _ _ hne];exact h
theorem word_fact (s:Strd.Bs):(∀k,k<wordLen s→∃c,s[k]? = some c∧Strd.blank c=false)∧(wordLen s≤s.length)∧(∀c,s[wordLen s]? = some c→Strd.blank c=true):=by
 unfold wordLen
 induction s with
 |nil=>exact⟨fun k h=>by simp at h,Nat.le_refl _,fun c h=>by simp at h⟩
 |cons x t ih=>
  cases hb:Strd.blank x with
  |true=>simp[List.takeWhile_cons,hb]
  |false=>
   simp only[List.takeWhile_cons,hb,Bool.not_false,if_true,List.length_cons]
   refine⟨fun k hk=>?_,by have:=ih.2.1;omega,fun c hc=>?_⟩
   ·cases k with
    |zero=>exact⟨x,rfl,hb⟩
    |succ k=>simpa using ih.1 k (by omega)
   ·exact ih.2.2 c (by simpa using hc)
theorem strs_shape {base:Nat} {w:World} {v:Value} {ss:List Strd.Bs} (h:ZR base w v ss):∃p cap,v=.slice p ss.length cap:=by
 rcases h.2 with ⟨rfl,h0⟩|⟨g,cap,cur,rfl,_⟩
 ·exact⟨none,0,by rw[h0]⟩
 ·exact⟨_,_,rfl⟩
theorem row_shape {w:World} {base n size:Nat} {e:TypeId} {v:Value} {xs:List Value} (h:w.ownsRow base e size v n xs):∃p cap,v=.slice p n cap:=by
 rcases h.2 with ⟨rfl,h0⟩|⟨g,cap,cur,rfl,_⟩
 ·exact⟨none,0,by rw[h0]⟩
 ·exact⟨_,_,rfl⟩
theorem ZF (w:World) (g i:Nat) (x:Value):(w.setCell ⟨g,i,none⟩ x).heap.size=w.heap.size:=by simp[World.setCell]
theorem own_set {w:World} {base n size g i:Nat} {e t:TypeId} {v x:Value} {xs:List Value} {cur:Array Value} (h:w.ownsRow base e size v n xs) (hg:w.heap[g]? = some (.cells cur t (0,0))) (hne:t≠e):(w.setCell ⟨g,i,none⟩ x).ownsRow base e size v n xs:=by
 obtain⟨h1,h2⟩:=h
 refine⟨h1,h2.imp id ?_⟩
 rintro ⟨g',cap,cur',hv,hb,hh,r⟩
 refine⟨g',cap,cur',hv,hb,?_,r⟩
 rw[Below.heap_setCell _ _ _ _ (fun e'=>by subst e';rw[hh]at hg;cases hg;exact hne rfl)]
 exact hh
theorem row_base {w:World} {b b' n size:Nat} {e:TypeId} {v:Value} {xs:List Value} (h:w.ownsRow b e size v n xs) (hb:b'≤b):w.ownsRow b' e size v n xs:=by
 obtain⟨h1,h2⟩:=h
 refine⟨h1,h2.imp id ?_⟩
 rintro ⟨g,cap,cur,hv,hb',r⟩
 exact⟨g,cap,cur,hv,by omega,r⟩
theorem cutF_pos (w:Strd.Bs) (h:2<w.length∧w.getD (w.length-2) 0=46):cutF w=if 0≤find [115,119,108] (w.getD (w.length-1) 0)∧(0≤condition (w.take (w.length-2))∨(far (w.take (w.length-2))=true∧0<find [115,119,108] (w.getD (w.length-1) 0))) then (w.take (w.length-2),find [115,119,108] (w.getD (w.length-1) 0)+1) else (w,0):=by
 unfold cutF
 rw[if_pos h]
theorem cutF_neg (w:Strd.Bs) (h:¬(2<w.length∧w.getD (w.length-2) 0=46)):cutF w=(w,0):=by
 unfold cutF
 rw[if_neg h]
theorem eight_p:∀n,n≤8→(⟨#[112,112,112,112,112,112,112,112]⟩:ByteArray).extract 0 n=bstr (List.replicate n 112):=by
 intro n hn
 apply QZ
 rw[ZV,List.drop_zero]
 have h:∀n,n≤8→([112,112,112,112,112,112,112,112]:Strd.Bs).take n=List.replicate n 112:=by
  intro n hn
  have e:([112,112,112,112,112,112,112,112]:Strd.Bs)=List.replicate 8 112:=rfl
  rw[e,List.take_replicate,Nat.min_eq_left hn]
 exact h n hn
theorem allFine_bad:∀(ks:Strd.Bs) (ts:List Strd.Bs) (i:Nat),i<ks.length→i<ts.length→fine (ks.getD i 0) (ts.getD i [])=false→Z2 ks ts=false
 |k::ks,t::ts,0,_,_,h=>by
  simp only[List.getD_cons_zero]at h
  rw[Z2,h];rfl
 |k::ks,t::ts,i+1,h1,h2,h=>by
  simp only[List.getD_cons_succ]at h
  rw[Z2,allFine_bad ks ts i (by simpa using h1) (by simpa using h2) h];simp
 |[],_,_,h,_,_=>by simp at h
 |_::_,[],_,_,h,_=>by simp at h
theorem allFine_all:∀(ks:Strd.Bs) (ts:List Strd.Bs),ks.length=ts.length→(∀j,j<ts.length→fine (ks.getD j 0) (ts.getD j [])=true)→Z2 ks ts=true
 |[],[],_,_=>rfl
 |[],_::_,h,_=>by cases h
 |_::_,[],h,_=>by cases h
 |k::ks,t::ts,hl,h=>by
  have h0:=h 0 (by simp)
  simp only[List.getD_cons_zero]at h0
  rw[Z2,h0,allFine_all ks ts (by simpa using hl) (fun j hj=>by have:=h (j+1) (by simp;omega);simpa only[List.getD_cons_succ] using this)]
  rfl
theorem below_dn {B:Nat} {a w:World} (h:Below B a w) (n:Nat):Below B a (w.drewN n):=h.trans ⟨rfl,rfl,rfl,Nat.le_refl _,fun _ _=>rfl⟩
def LineAt (w:World) (p:Option Addr) (n c:Nat) (l:Line):Prop:=n=l.texts.length∧ZR 0 w (.slice p n c) l.texts
end Rf
end Go.Proofs.YtegiloiojloaoaaGreatDoor
