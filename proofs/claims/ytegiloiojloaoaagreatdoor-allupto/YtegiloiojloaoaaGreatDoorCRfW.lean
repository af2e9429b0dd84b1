/- A line that stands alone. -/
import Derived.Test.YtegiloiojloaoaaGreatDoorCSpec
import Derived.Test.YtegiloiojloaoaaGreatDoorCRfT
import Derived.Test.YtegiloiojloaoaaGreatDoorCRef1
set_option linter.unusedVariables false
set_option linter.unusedSimpArgs false
namespace Go.Proofs.YtegiloiojloaoaaGreatDoor.Rf
open Strd
def aloneB (t:Bs) (a:Int):Option Bs:=match read t 1 with
 |none=>none
 |some l=>if numbers l=false then none else if QN l.word=true∧fits l.word l.form a ((number (ZI l 0)).getD 0)=false then none else some (bytes [] l l.form a)
theorem plc_bare (i:Ins) (h:∀x∈i.oprs,x.name=[]):plc [] i=i:=by
 unfold plc
 cases i with
 |mk op oprs=>
  congr 1
  conv=>rhs;rw[←List.map_id oprs]
  refine List.map_congr_left (fun x hx=>?_)
  have:=h x hx
  cases x with
  |mk n v=>
   simp only at this
   subst this
   simp[numIn]
theorem alone_told {i:Ins} {o:Strd.Op} {ns:List Int} (h:Strd.Told i o ns) (hk:o.kind≠11) (hlen:(Q8 i).length≤2^20) (a:Int):aloneB (Q8 i) a=if Strd.QN i.op=true∧Strd.fits i.op i.op.first a (num i 0)=false then none else some (Strd.bytes i i.op.first a):=by
 have hr:=(told_read h hk).1
 rw[read_tie _ 1]at hr
 obtain⟨l,hl,e⟩:=Option.map_eq_some_iff.1 hr
 have e2:ins l=i:=congrArg Strd.Line.ins e
 have hwf:=read_wf _ 1 l hl hlen
 have hnum:numbers l=true:=by rw[numbers_tie l hwf.1,e2];exact(told_parts h).2.1
 obtain⟨hj,hj6⟩:=kind_isJump l hwf.1
 obtain⟨r1,r2,r3,r4,r5⟩:=told_rng h
 obtain⟨_,_,_,h4,h5,h6⟩:=op_facts l hwf.1
 have hpf:=hwf.1.form
 rw[e2]at hj hj6 h4 h5 h6
 have hform:l.form=upf l i.op.first:=by
  unfold upf
  cases hb:QN l.word with
  |false=>exact hwf.1.plain hb
  |true=>
   rw[if_pos rfl]
   cases hf:far l.word with
   |false=>
    obtain⟨x,y⟩:=h5 hb hf
    by_cases h0:0<l.form
    ·rw[if_pos h0]at x;omega
    ·rw[if_neg h0]at x y;omega
   |true=>
    obtain⟨x,y⟩:=h6 hb hf
    by_cases h0:0<l.form
    ·rw[if_pos h0]at x;omega
    ·rw[if_neg h0]at x y;omega
 have hfo:FormOk l i.op.first:=⟨r2,r3,fun hf=>r4 ((hj6 (by unfold QN;rw[hf,Bool.or_true])).2 hf)⟩
 have hby:bytes [] l l.form a=Strd.bytes i i.op.first a:=by
  rw[hform,bytesF_tie [] l ⟨hwf.1,hnum,by rw[hwf.2];omega⟩ i.op.first a hfo,e2,plc_bare i r5]
 unfold aloneB
 rw[hl]
 simp only
 rw[hnum,if_neg (by decide),hby,hj]
 by_cases hb:QN l.word=true
 ·obtain⟨p,ht,hp,hi⟩:=jump_shape l hwf.1 hb
  have e1:ZI l 0=p:=by unfold ZI;rw[ht];rfl
  have hn0:num i 0=(number p).getD 0:=by
   rw[e2]at hi
   have hx:opr 3 p∈i.oprs:=by rw[hi];simp
   have hnm:=r5 _ hx
   rcases opr_place hp with ⟨q1,q2,q3⟩|⟨n,q1,q2,q3⟩
   ·rw[q3]at hnm
    simp only at hnm
    rw[hnm]at q1
    exact absurd q1 (by decide)
   ·rw[hi,q1,q3];rfl
  have hkk:i.op.kind=5∨i.op.kind=6:=by
   have:=hj
   rw[hb]at this
   unfold Strd.QN at this
   simpa using this
  have hfar:far l.word=decide (i.op.kind=6):=by
   have:=hj6 hb
   by_cases h':i.op.kind=6
   ·rw[this.1 h'];simp[h']
   ·have hn:far l.word=false:=by
     cases e:far l.word with
     |false=>rfl
     |true=>exact(h' (this.2 e)).elim
    rw[hn];simp[h']
  have hup:l.form=i.op.first+1:=by rw[hform];unfold upf;rw[if_pos hb]
  rw[e1,←hn0,hup,fits_tie l.word i.op i.op.first a _ (by omega) r4 hkk hfar]
 ·rw[if_neg (fun h=>hb h.1),if_neg (fun h=>hb h.1)]
theorem alone_none {t:Bs} (h:readLine t=none) (a:Int):aloneB t a=none:=by
 rw[read_tie _ 1,Option.map_eq_none_iff]at h
 unfold aloneB
 rw[h]
def matchesB (t:Bs) (b:Bs) (a:Int):Bool:=match aloneB t a with
 |none=>false
 |some m=>decide (0<m.length)&&m.isPrefixOf b
theorem zip_ns:∀(rs ns:List Int),List.zipWith (fun r (o:Opr)=>ZE r o.num) rs (ns.map fun n=>⟨[],n⟩)=List.zipWith (fun r n=>ZE r n) rs ns
 |[],_=>by simp
 |_::_,[]=>by simp
 |r::rs,n::ns=>by simp[zip_ns rs ns]
theorem sum_two:∀(l:List Bs),l.length≤2→(∀x∈l,x.length≤20)→(l.map List.length).sum≤2*20
 |[],_,_=>by simp
 |[x],_,hx=>by have:=hx x (by simp);simp;omega
 |[x,y],_,hx=>by have:=hx x (by simp);have:=hx y (by simp);simp;omega
 |_::_::_::_,hl,_=>by simp at hl
theorem cand_len (b:Bs) (a:Int) (ha:0≤a∧a≤20000000) (i:Ins) (o:Strd.Op) (ns:List Int) (h:Strd.Told i o ns):(Q8 i).length≤2^20:=by
 have:=told_len h
 have h2:=h.two
 have h4:=(told_parts h)
 have hsum:((ZK i).map List.length).sum≤2*20:=by
  have hl:(ZK i).length≤2:=by rw[h4.2.2.1];exact h2
  have hx:∀x∈ZK i,x.length≤20:=by
   intro x hx
   have hrl:=h.len
   have hok:=h.ok
   have he:ZK i=List.zipWith (fun r n=>ZE r n) (roles o.kind ns.length) ns:=by
    rw[h.ins]
    show List.zipWith _ (roles o.kind (ns.map _).length) (ns.map _)=_
    rw[List.length_map]
    exact zip_ns _ _
   rw[he,List.mem_iff_getElem]at hx
   obtain⟨k,hk,rfl⟩:=hx
   rw[List.getElem_zipWith]
   rw[List.length_zipWith]at hk
   have hz:((roles o.kind ns.length)[k]'(by omega),ns[k]'(by omega))∈(roles o.kind ns.length).zip ns:=by
    rw[List.mem_iff_getElem]
    exact⟨k,by rw[List.length_zip];omega,by simp⟩
   have hb:=(hok _ hz).1
   simp only at hb
   generalize (roles o.kind ns.length)[k]'(by omega)=r at *
   generalize ns[k]'(by omega)=n at *
   have hm:(Strd.mark r).length≤1:=by
    unfold Strd.mark
    by_cases h0:r=0
    ·rw[if_pos h0];simp
    ·rw[if_neg h0]
     by_cases h1:r=1
     ·rw[if_pos h1];simp
     ·rw[if_neg h1];simp
   have hi:(itoa n).length≤9:=by
    unfold itoa
    split
    ·have:=dec_len (-n).toNat 7 (by omega)
     rw[List.length_cons];omega
    ·have:=dec_len n.toNat 7 (by omega)
     omega
   unfold ZE
   rw[List.length_append];omega
  exact sum_two _ hl hx
 omega
theorem bytes_pos {i:Ins} {o:Strd.Op} {ns:List Int} (h:Strd.Told i o ns) (hk:o.kind≠11) (hk0:o.kind≠0) (a:Int) (hns:o.kind=7∨o.kind=8→0<ns.length):0<(Strd.bytes i i.op.first a).length:=by
 obtain⟨r1,r2,r3,r4,r5⟩:=told_rng h
 rw[bytes_len i i.op.first a ⟨r2,r3⟩ r4]
 have ho:i.op=o:=by rw[h.ins];rfl
 have hop:i.oprs.length=ns.length:=by rw[h.ins];simp[QQ]
 have hkinds:o.kind=1∨o.kind=2∨o.kind=3∨o.kind=4∨o.kind=5∨o.kind=6∨o.kind=7∨o.kind=8:=by
  have:∀o∈toldOps,o.kind=1∨o.kind=2∨o.kind=3∨o.kind=4∨o.kind=5∨o.kind=6∨o.kind=7∨o.kind=8∨o.kind=11:=by decide +kernel
  have:=this o h.op
  omega
 have hjs:=jumpSize_rng i.op i.op.first
 have hjp:2≤jumpSize i.op i.op.first:=by
  unfold jumpSize
  by_cases h0:i.op.first=0
  ·rw[if_pos h0];omega
  ·rw[if_neg h0]
   by_cases h1:i.op.first=1
   ·rw[if_pos h1];omega
   ·rw[if_neg h1];split <;> omega
 have:0<size i i.op.first a:=by
  unfold size
  simp only[ho,hop]
  rw[ho]at hjp
  rcases hkinds with e|e|e|e|e|e|e|e <;> simp only[e]
  ·simp
  ·simp
  ·simp
  ·simp;split <;> omega
  ·simp;omega
  ·simp;omega
  ·have:=hns (.inl e);simp;omega
  ·have:=hns (.inr e);simp;omega
 omega
theorem cand_matches (b:Bs) (a:Int) (ha:0≤a∧a≤20000000) (i:Ins) (hi:i∈cands b a):matchesB (Q8 i) b a=begins i b a:=by
 rcases cand_told b a ha i hi with ⟨o,ns,ht,hk,hk0⟩|⟨h1,h2,_⟩
 ·have hp:0<(Strd.bytes i i.op.first a).length:=by
   refine bytes_pos ht hk hk0 a (fun h78=>?_)
   have:=ht.len
   have hr:roles o.kind ns.length=List.replicate (min (max ns.length 1) 8) 3:=by
    rcases h78 with e|e <;> rw[e] <;> rfl
   rw[hr,List.length_replicate]at this
   omega
  unfold matchesB begins
  rw[alone_told ht hk (cand_len b a ha i o ns ht) a]
  split
  ·rename_i hc
   split at hc
   ·rename_i hh;rw[if_pos hh]
   ·cases hc
  ·rename_i m hc
   split at hc
   ·cases hc
   ·rename_i hh
    rw[if_neg hh]
    simp only[Option.some.injEq]at hc
    subst hc
    simp[hp]
 ·unfold matchesB
  rw[alone_none h2,h1]
theorem find_cand (b:Bs) (hb:b≠[]) (a:Int) (ha:0≤a∧a≤20000000):∃j,∃h:j<(cands b a).length,(cands b a)[j]=ZH b a∧matchesB (Q8 (ZH b a)) b a=true∧aloneB (Q8 (ZH b a)) a=some (b.take (size (ZH b a) (ZH b a).op.first a).toNat)∧∀k (hk:k<(cands b a).length),k<j→matchesB (Q8 (cands b a)[k]) b a=false:=by
 have hf:=first_cand b hb a
 obtain⟨h1,as0,bs,h2,h3⟩:=List.find?_eq_some_iff_append.1 hf
 have hlt:as0.length<(cands b a).length:=by rw[h2];simp
 have hg:=good_first b hb a
 refine⟨as0.length,hlt,by simp[h2],?_,?_,?_⟩
 ·rw[cand_matches b a ha _ (by rw[h2];simp)];exact h1
 ·obtain⟨o,ns,ht,hk,_⟩:=hg.told
  rw[alone_told ht hk (cand_len b a ha _ o ns ht) a,if_neg]
  ·rw[(good_size hg).1]
  ·rintro ⟨q1,q2⟩
   rw[hg.jump q1]at q2;cases q2
 ·intro k hk hkl
  have hmem:(cands b a)[k]∈as0:=by
   have:(cands b a)[k]=as0[k]:=by
    have:=List.getElem_of_eq h2 hk
    rw[this,List.getElem_append_left hkl]
   rw[this];exact List.getElem_mem _
  rw[cand_matches b a ha _ (List.getElem_mem hk)]
  have:=h3 _ hmem
  simpa using this
def Formed (t:Bs):Prop:=∀l,read t 1=some l→QN l.word=true→l.form≠0
theorem told_formed {i:Ins} {o:Strd.Op} {ns:List Int} (h:Strd.Told i o ns) (hk:o.kind≠11) (hlen:(Q8 i).length≤2^20):Formed (Q8 i):=by
 intro l hl hb h0
 have hr:=(told_read h hk).1
 rw[read_tie _ 1,hl]at hr
 have e2:ins l=i:=congrArg Strd.Line.ins (Option.some.inj hr)
 have hwf:=read_wf _ 1 l hl hlen
 obtain⟨r1,_⟩:=told_rng h
 obtain⟨_,_,_,_,h5,h6⟩:=op_facts l hwf.1
 rw[e2]at h5 h6
 cases hf:far l.word with
 |false=>
  obtain⟨x,y⟩:=h5 hb hf
  rw[if_neg (by omega)]at x y
  omega
 |true=>
  obtain⟨x,y⟩:=h6 hb hf
  rw[if_neg (by omega)]at x y
  omega
theorem cand_formed (b:Bs) (a:Int) (ha:0≤a∧a≤20000000) (i:Ins) (hi:i∈cands b a):Formed (Q8 i)∧(Q8 i).length≤2^20:=by
 rcases cand_told b a ha i hi with ⟨o,ns,ht,hk,_⟩|⟨_,h2,h3⟩
 ·have hlen:=cand_len b a ha i o ns ht
  exact⟨told_formed ht hk hlen,hlen⟩
 ·refine⟨fun l hl=>?_,h3⟩
  rw[read_tie _ 1,hl]at h2
  cases h2
end Go.Proofs.YtegiloiojloaoaaGreatDoor.Rf
