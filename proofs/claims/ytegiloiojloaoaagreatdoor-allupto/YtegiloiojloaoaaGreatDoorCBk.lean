/- Disassemble as plain functions; what it tells of an image is made into this image again. -/
import Derived.Test.YtegiloiojloaoaaGreatDoorCSpec
set_option linter.unusedVariables false
set_option linter.unusedSimpArgs false
namespace Go.Proofs.YtegiloiojloaoaaGreatDoor.Strd
def QG (s:Bs) (k:Nat):Int:=if k+2≤s.length then 256*((s.getD k 0).toNat:Int)+((s.getD (k+1) 0).toNat:Int) else 0
def sgn8 (n:Int):Int:=(n+128) % 256-128
def sgn16 (n:Int):Int:=(n+32768) % 65536-32768
def QK (o:Op) (s:Bs) (addr:Int):List Int:=
 if o.kind=2 then [QG s 0 % 8,QG s 0 / 512 % 8]
 else if o.kind=3 then [sgn8 (QG s 0),QG s 0 / 512 % 8]
 else if o.kind=4 then (if QG s 0<0x5040 then [QG s 2,QG s 0 % 8] else [(QG s 0 / 512 % 8+7) % 8+1,QG s 0 % 8])
 else if o.kind=5 then (if o.first=0 then [addr+2+sgn8 (QG s 0)] else [addr+2+sgn16 (QG s 2)])
 else if o.kind=6 then (if o.first=1 then [QG s 2] else [65536*QG s 2+QG s 4])
 else []
def QQ (o:Op) (l:List Int):Ins:=⟨o,l.map fun n=>⟨[],n⟩⟩
def begins (i:Ins) (s:Bs) (addr:Int):Bool:=
 if QN i.op=true∧fits i.op i.op.first addr (num i 0)=false then false
 else (bytes i i.op.first addr).isPrefixOf s
def ZL:List Op:=
 (fixedWords.take 8).map (fun r=>⟨r.2.1,r.2.2,0,0,0⟩)
 ++ ((List.range 16).map fun (n:Nat)=>[jumpOp n 0 0,jumpOp n 1 1]).flatten
 ++ (farWords.map fun r=>[ZZ r.2 1 1,ZZ r.2 2 2]).flatten
def matchIns (s:Bs) (addr:Int):Option Ins:=(ZL.map fun o=>QQ o (QK o s addr)).find? fun i=>begins i s addr
def wordsOp:Op:=⟨7,0,0,0,0⟩
def bytesOp:Op:=⟨8,0,0,0,0⟩
def orgOp:Op:=⟨11,0,0,0,0⟩
def ZH (s:Bs) (addr:Int):Ins:=
 match matchIns s addr with
 |some i=>i
 |none=>if s.length=1 then QQ bytesOp [((s.getD 0 0).toNat:Int)] else QQ wordsOp [256*((s.getD 0 0).toNat:Int)+((s.getD 1 0).toNat:Int)]
def formEndings:List Bs:=[[46,115],[46,119],[46,108]]
def ending (o:Op):Bs:=if o.first<o.last then [] else formEndings.getD o.first.toNat []
def Q2 (o:Op):Bs:=
 if o.kind=5 then jumpWords.getD o.number.toNat []++ending o
 else match (if o.kind=6 then farWords.find? (fun r=>r.2==o.base) else none) with
 |some r=>r.1++ending o
 |none=>match fixedWords.find? (fun r=>r.2.1==o.kind&&r.2.2==o.base) with
  |some r=>r.1
  |none=>[]
def itoa (n:Int):Bs:=if n<0 then 45::dec (-n).toNat else dec n.toNat
def ZE (r n:Int):Bs:=mark r++itoa n
def ZK (i:Ins):List Bs:=List.zipWith (fun r (o:Opr)=>ZE r o.num) (roles i.op.kind i.oprs.length) i.oprs
def joined:List Bs→Bs
 |[]=>[]
 |x::xs=>32::x++(xs.map (44::·)).flatten
def Q8 (i:Ins):Bs:=Q2 i.op++joined (ZK i)
def disFrom:Nat→Int→Bs→List Ins
 |0,_,_=>[]
 |f+1,a,s=>if s=[] then [] else ZH s a::disFrom f (a+size (ZH s a) (ZH s a).op.first a) (s.drop (size (ZH s a) (ZH s a).op.first a).toNat)
def mayBe (org:Int) (s:Bs):Bool:=isPlace org&&decide (s.length≤400)&&decide (org+s.length-1≤0xfffffe)
def disLines (org:Int) (s:Bs):List Ins:=QQ orgOp [org]::disFrom s.length org s
def disText (l:List Ins):Bs:=(l.map fun i=>Q8 i++[10]).flatten
def disassemble (org:Int) (s:Bs):Bs×Int:=if mayBe org s=true then (disText (disLines org s),0) else ([],8)
theorem itoa_plain (n:Int):∀c∈itoa n,plainSign c=true:=by
 unfold itoa
 split
 ·intro c hc
  rcases List.mem_cons.1 hc with rfl|hc
  ·decide
  ·exact dec_plain _ c hc
 ·exact dec_plain _
theorem itoa_pos (n:Int):itoa n≠[]:=by
 unfold itoa
 split
 ·simp
 ·exact dec_pos _
theorem number_itoa (n:Int) (h1:-100000000<n) (h2:n<100000000):number (itoa n)=some n:=by
 unfold itoa
 split
 ·rename_i hn
  have hv:=number_dec (-n).toNat (by omega)
  have hl:=dec_len (-n).toNat 7 (by omega)
  have hp:=dec_pos (-n).toNat
  have hd:=dec_digs (-n).toNat
  have hval:=dec_val (-n).toNat
  generalize dec (-n).toNat=s at *
  unfold number
  simp only[show ZB 45 (45::s)=(s,true) from rfl]
  cases s with
  |nil=>exact(hp rfl).elim
  |cons c t=>
   obtain⟨d,hd10,rfl⟩:=hd c (by simp)
   have hdv:=dig_val d hd10
   have e2:ZB 36 ((48+d).toUInt8::t)=((48+d).toUInt8::t,false):=by rw[ZB,if_neg hdv.2.2.2.2.2.2.2.1]
   simp only[e2]
   rw[if_pos ⟨by simp,hl⟩]
   rw[if_neg (by simp),hval]
   show some (-(((-n).toNat:Nat):Int))=some n
   congr 1
   omega
 ·rw[number_dec _ (by omega)]
  congr 1
  omega
theorem itoa_noName (n:Int):ZT (itoa n)=false:=by
 unfold itoa
 split
 ·unfold ZT
  rw[List.length_cons]
  have hs:∀t,QU (45::t)=1:=fun t=>by simp[QU]
  simp only[nameCount,hs]
  rfl
 ·exact digs_noName _ (dec_digs _)
theorem readOperand_itoa (r n:Int) (hr:r=0∧0≤n∧n≤7∨(r=1∨r=2∨r=3)∧-100000000<n∧n<100000000):QR r (ZE r n)=some ⟨[],n⟩:=by
 rcases hr with ⟨rfl,h0,h7⟩|⟨hr,h1,h2⟩
 ·have:=readOperand_reg n.toNat (by omega)
  unfold ZE itoa
  rw[if_neg (by omega)]
  rw[show ((n.toNat:Nat):Int)=n by omega]at this
  exact this
 ·unfold ZE QR
  have hm:mark r=[]∨mark r=[35]:=by rcases hr with rfl|rfl|rfl <;> simp[mark]
  have hc:¬(r=3∧ZT (mark r++itoa n)=true):=by
   rintro ⟨rfl,h⟩
   rw[show mark 3=[] from rfl,List.nil_append,itoa_noName]at h
   cases h
  rw[if_neg hc]
  have hsp:stripPrefix (mark r++itoa n) (mark r)=some (itoa n):=by
   rcases hm with h|h <;> rw[h] <;> simp[stripPrefix]
  rw[hsp]
  simp only
  rw[if_neg (by rcases hr with rfl|rfl|rfl <;> simp),number_itoa n h1 h2]
  rfl
theorem oprText_plain (r n:Int):∀c∈ZE r n,plainSign c=true:=by
 unfold ZE
 intro c hc
 rcases List.mem_append.1 hc with hc|hc
 ·unfold mark at hc
  split at hc
  ·rw[List.mem_singleton]at hc;subst hc;decide
  ·split at hc
   ·rw[List.mem_singleton]at hc;subst hc;decide
   ·cases hc
 ·exact itoa_plain n c hc
theorem oprText_pos (r n:Int):ZE r n≠[]:=by
 unfold ZE
 intro h
 exact itoa_pos n (List.append_eq_nil_iff.1 h).2
def OprOk (kind r n:Int):Prop:=(r=0∧0≤n∧n≤7∨(r=1∨r=2∨r=3)∧-100000000<n∧n<100000000)∧(r≠0→allows kind n=true)
theorem rops_told (kind:Int):∀(rs ns:List Int),rs.length=ns.length→(∀p∈rs.zip ns,OprOk kind p.1 p.2)→ropsAll rs (List.zipWith (fun r (o:Opr)=>ZE r o.num) rs (ns.map fun n=>⟨[],n⟩))=some (ns.map fun n=>⟨[],n⟩)∧numbersOk kind rs (ns.map fun n=>⟨[],n⟩)=true
 |[],[],_,_=>⟨rfl,rfl⟩
 |[],_::_,h,_=>by cases h
 |_::_,[],h,_=>by cases h
 |r::rs,n::ns,h,ho=>by
  obtain⟨i1,i2⟩:=rops_told kind rs ns (by simpa using h) (fun p hp=>ho p (by simp[hp]))
  have h0:=ho (r,n) (by simp)
  constructor
  ·simp only[List.map_cons,List.zipWith_cons_cons,ropsAll,i1,readOperand_itoa r n h0.1,Option.bind_some,Option.map_some]
  ·simp only[List.map_cons,numbersOk,i2,Bool.and_true]
   rw[if_neg (by simp)]
   split
   ·rename_i e
    have:=h0.1
    simp;omega
   ·rename_i e
    exact h0.2 e
def toldOps:List Op:=ZL++[wordsOp,bytesOp,orgOp]
theorem told_words:∀o∈toldOps,(Q2 o).isEmpty=false∧(Q2 o).all plainSign=true∧(find (Q2 o)).isSome=true∧(Q2 o).length≤5∧(∀q∈find (Q2 o),q.kind=o.kind∧q.base=o.base∧q.number=o.number∧q.first=o.first∧q.last=o.last)∧o.first=o.last∧0≤o.first∧o.first≤2∧(o.kind=6→o.first≠0):=by decide +kernel
theorem told_find (o:Op) (h:o∈toldOps):find (Q2 o)=some o:=by
 have h1:=(told_words o h).2.2.1
 have h2:=(told_words o h).2.2.2.2.1
 obtain⟨q,hq⟩:=Option.isSome_iff_exists.1 h1
 obtain⟨a,b,c,d,e⟩:=h2 q hq
 rw[hq]
 congr 1
 cases q;cases o
 simp only at a b c d e
 subst a b c d e
 rfl
structure Told (i:Ins) (o:Op) (ns:List Int):Prop where
 ins:i=QQ o ns
 op:o∈toldOps
 len:(roles o.kind ns.length).length=ns.length
 two:ns.length≤2
 ok:∀p∈(roles o.kind ns.length).zip ns,OprOk o.kind p.1 p.2
def toldBody (i:Ins):Body:=⟨Q2 i.op,ZK i,i⟩
theorem told_parts {i:Ins} {o:Op} {ns:List Int} (h:Told i o ns):ropsAll (roles o.kind ns.length) (ZK i)=some i.oprs∧Q9 i=true∧(ZK i).length=ns.length∧(∀x∈ZK i,∃r n,x=ZE r n):=by
 obtain⟨rfl,hop,hl,ht,hok⟩:=h
 obtain⟨h1,h2⟩:=rops_told o.kind (roles o.kind ns.length) ns hl hok
 refine⟨?_,?_,?_,?_⟩
 ·show ropsAll _ (List.zipWith _ (roles o.kind (ns.map _).length) (ns.map _))=some (ns.map _)
  rw[List.length_map]
  exact h1
 ·show numbersOk o.kind (roles o.kind (ns.map _).length) (ns.map _)=true
  rw[List.length_map]
  exact h2
 ·show (List.zipWith _ (roles o.kind (ns.map _).length) (ns.map _)).length=_
  rw[List.length_zipWith,List.length_map,hl,Nat.min_self]
 ·intro x hx
  obtain⟨k,hk,rfl⟩:=List.getElem_of_mem hx
  exact⟨_,_,by simp only[ZK,List.getElem_zipWith];rfl⟩
theorem told_body {i:Ins} {o:Op} {ns:List Int} (h:Told i o ns) (hk:o.kind≠11):BodyOk (toldBody i):=by
 obtain⟨h1,h2,h3,h4⟩:=told_parts h
 have hw:=told_words o h.op
 have hi:i.op=o:=by rw[h.ins];rfl
 refine⟨?_,?_,?_,?_,?_,?_,h2,?_⟩
 ·show Q2 i.op≠[]
  rw[hi]
  intro e;rw[e]at hw;simp at hw
 ·show ∀c∈Q2 i.op,_
  rw[hi]
  exact fun c hc=>List.all_eq_true.1 hw.2.1 c hc
 ·intro x hx
  obtain⟨r,n,rfl⟩:=h4 x hx
  exact oprText_pos r n
 ·intro x hx
  obtain⟨r,n,rfl⟩:=h4 x hx
  exact oprText_plain r n
 ·show find (Q2 i.op)=some i.op
  rw[hi];exact told_find o h.op
 ·show ropsAll (roles i.op.kind (ZK i).length) (ZK i)=some i.oprs
  rw[hi,h3];exact h1
 ·show i.op.kind≠11
  rw[hi];exact hk
theorem told_text {i:Ins} {o:Op} {ns:List Int} (h:Told i o ns):Q8 i=(toldBody i).text:=by
 have h3:=(told_parts h).2.2.1
 have h2:=h.two
 show Q2 i.op++joined (ZK i)=Body.text ⟨Q2 i.op,ZK i,i⟩
 unfold Body.text
 simp only
 match e:ZK i with
 |[]=>simp[joined]
 |[x]=>simp[joined]
 |[x,y]=>simp[joined]
 |_::_::_::_=>rw[e]at h3;simp at h3;omega
theorem told_read {i:Ins} {o:Op} {ns:List Int} (h:Told i o ns) (hk:o.kind≠11):readLine (Q8 i)=some ⟨[],i⟩∧(∀c∈Q8 i,c≠10):=by
 have hb:=told_body h hk
 have hl:Laid (toldBody i) (toldBody i).text:=body_laid _ (by show (ZK i).length≤2;rw[(told_parts h).2.2.1];exact h.two)
 have hs:=laid_signs _ hb _ hl
 rw[told_text h]
 constructor
 ·have hi:=instr_body _ hb [] _ [] blanks_nil hl blanks_nil
  have:=readLine_bare (toldBody i).text [] (fun c hc=>⟨(hs c hc).1,(hs c hc).2.1⟩) (.inl rfl)
  simp only[List.append_nil,List.nil_append]at this hi
  rw[this,hi]
  rfl
 ·exact fun c hc=>(hs c hc).2.2
theorem itoa_len (n:Int) (k:Nat) (h:n.toNat<10^(k+1)) (h0:0≤n):(itoa n).length≤k+1:=by
 unfold itoa
 rw[if_neg (by omega)]
 exact dec_len _ _ h
theorem u8_lt (c:UInt8):c.toNat<256:=c.toNat_lt
theorem QV (s:Bs) (k:Nat):0≤QG s k∧QG s k≤65535:=by
 unfold QG
 have h1:=u8_lt (s.getD k 0)
 have h2:=u8_lt (s.getD (k+1) 0)
 split <;> omega
theorem sgn8_rng (n:Int):-128≤sgn8 n∧sgn8 n≤127:=by unfold sgn8;omega
theorem place_rng {n:Int} (h:isPlace n=true):0≤n∧n≤16777214:=by
 simp[isPlace,within]at h
 omega
theorem fits_place {o:Op} {f a t:Int} (h:fits o f a t=true):isPlace t=true:=by
 unfold fits at h
 cases e:isPlace t
 ·simp[e]at h
 ·rfl
theorem told_len {i:Ins} {o:Op} {ns:List Int} (h:Told i o ns):(Q8 i).length≤5+(ns.length+((ZK i).map List.length).sum):=by
 have h3:=(told_parts h).2.2.1
 have h2:=h.two
 have hw:=(told_words o h.op).2.2.2.1
 have hi:i.op=o:=by rw[h.ins];rfl
 unfold Q8
 rw[hi,List.length_append]
 match e:ZK i with
 |[]=>simp[joined];omega
 |[x]=>rw[e]at h3;simp[joined]at h3 ⊢;omega
 |[x,y]=>rw[e]at h3;simp[joined]at h3 ⊢;omega
 |_::_::_::_=>rw[e]at h3;simp at h3;omega
structure Good (i:Ins) (s:Bs) (a:Int):Prop where
 told:∃o ns,Told i o ns∧o.kind≠11∧o.kind≠0
 pre:bytes i i.op.first a <+: s
 len:(Q8 i).length≤14
 jump:QN i.op=true→fits i.op i.op.first a (num i 0)=true
 size:2≤size i i.op.first a∨s.length=1∧size i i.op.first a=1
theorem reg_len (n:Int) (h0:0≤n) (h7:n≤7):(ZE 0 n).length=2:=by
 have:n=0∨n=1∨n=2∨n=3∨n=4∨n=5∨n=6∨n=7:=by omega
 rcases this with rfl|rfl|rfl|rfl|rfl|rfl|rfl|rfl <;> rfl
theorem val8_len (n:Int) (h0:-128≤n) (h7:n≤127):(ZE 1 n).length≤5:=by
 unfold ZE itoa
 rw[show mark 1=[35] from rfl]
 split
 ·have:=dec_len (-n).toNat 2 (by omega)
  simp;omega
 ·have:=dec_len n.toNat 2 (by omega)
  simp;omega
theorem num_len (r n:Int) (k:Nat) (h:n.toNat<10^(k+1)) (h0:0≤n) (hr:r=1∨r=2∨r=3):(ZE r n).length≤k+2:=by
 have:=itoa_len n k h h0
 unfold ZE
 rw[List.length_append]
 have:(mark r).length≤1:=by rcases hr with rfl|rfl|rfl <;> decide
 omega
theorem num_len' (r n:Int) (k:Nat) (h:n.toNat<10^(k+1)) (h0:0≤n) (hr:r=2∨r=3):(ZE r n).length≤k+1:=by
 have:=itoa_len n k h h0
 unfold ZE
 rw[List.length_append]
 have:(mark r).length=0:=by rcases hr with rfl|rfl <;> decide
 omega
theorem told_mem {o:Op} (h:o∈ZL):o∈toldOps:=List.mem_append_left _ h
theorem match_kinds:∀o∈ZL,o.kind=1∨o.kind=2∨o.kind=3∨o.kind=4∨o.kind=5∨o.kind=6:=by decide +kernel
theorem short_words:∀o∈ZL,o.kind=4→(Q2 o).length≤4:=by decide +kernel
theorem within_mk {n lo hi:Int} (h1:lo≤n) (h2:n≤hi):within n lo hi=true:=by simp[within,h1,h2]
theorem good_match (o:Op) (ho:o∈ZL) (s:Bs) (a:Int) (hb:begins (QQ o (QK o s a)) s a=true):Good (QQ o (QK o s a)) s a:=by
 have hT:=told_mem ho
 have hw:=told_words o hT
 have w0:=QV s 0
 have w2:=QV s 2
 have w4:=QV s 4
 have g8:=sgn8_rng (QG s 0)
 have hop:∀ns,(QQ o ns).op=o:=fun _=>rfl
 have hjump:QN o=true→fits o o.first a (num (QQ o (QK o s a)) 0)=true:=by
  intro hj
  unfold begins at hb
  rw[hop]at hb
  split at hb
  ·cases hb
  ·rename_i hc
   cases e:fits o o.first a (num (QQ o (QK o s a)) 0)
   ·exact(hc ⟨hj,e⟩).elim
   ·rfl
 have hpre:bytes (QQ o (QK o s a)) o.first a <+: s:=by
  unfold begins at hb
  rw[hop]at hb
  split at hb
  ·cases hb
  ·exact List.isPrefixOf_iff_prefix.1 hb
 rcases match_kinds o ho with hk|hk|hk|hk|hk|hk
 ·have e:QK o s a=[]:=by simp[QK,hk]
  rw[e]at hjump hpre ⊢
  have t:Told (QQ o []) o []:=⟨rfl,hT,by rw[hk];rfl,by simp,by rw[hk];simp[roles]⟩
  have hl:=told_len t
  have hx:ZK (QQ o [])=[]:=by simp[ZK,QQ]
  rw[hx]at hl
  simp only[List.length_nil,List.map_nil,List.sum_nil]at hl
  exact⟨⟨o,[],t,by omega,by omega⟩,hpre,by omega,hjump,.inl (by simp[Strd.size,hop,hk])⟩
 ·have e:QK o s a=[QG s 0 % 8,QG s 0 / 512 % 8]:=by simp[QK,hk]
  rw[e]at hjump hpre ⊢
  have r1:=reg_len (QG s 0 % 8) (by omega) (by omega)
  have r2:=reg_len (QG s 0 / 512 % 8) (by omega) (by omega)
  have t:Told (QQ o [QG s 0 % 8,QG s 0 / 512 % 8]) o [QG s 0 % 8,QG s 0 / 512 % 8]:=⟨rfl,hT,by rw[hk];rfl,by simp,by
   rw[hk]
   simp only[roles,if_true,List.zip_cons_cons,List.zip_nil_right,List.mem_cons,List.not_mem_nil,or_false]
   rintro p (rfl|rfl)
   ·exact⟨.inl ⟨rfl,by simp only;omega,by simp only;omega⟩,fun h=>(h rfl).elim⟩
   ·exact⟨.inl ⟨rfl,by simp only;omega,by simp only;omega⟩,fun h=>(h rfl).elim⟩⟩
  have hl:=told_len t
  have hx:ZK (QQ o [QG s 0 % 8,QG s 0 / 512 % 8])=[ZE 0 (QG s 0 % 8),ZE 0 (QG s 0 / 512 % 8)]:=by simp[ZK,QQ,hk,roles]
  rw[hx]at hl
  simp only[List.length_cons,List.length_nil,List.map_cons,List.map_nil,List.sum_cons,List.sum_nil,r1,r2]at hl
  exact⟨⟨o,_,t,by omega,by omega⟩,hpre,by omega,hjump,.inl (by simp[Strd.size,hop,hk])⟩
 ·have e:QK o s a=[sgn8 (QG s 0),QG s 0 / 512 % 8]:=by simp[QK,hk]
  rw[e]at hjump hpre ⊢
  have r1:=val8_len (sgn8 (QG s 0)) g8.1 g8.2
  have r2:=reg_len (QG s 0 / 512 % 8) (by omega) (by omega)
  have t:Told (QQ o [sgn8 (QG s 0),QG s 0 / 512 % 8]) o [sgn8 (QG s 0),QG s 0 / 512 % 8]:=⟨rfl,hT,by rw[hk];rfl,by simp,by
   rw[hk]
   simp only[show ∀n,roles 3 n=[1,0] from fun _=>rfl,List.zip_cons_cons,List.zip_nil_right,List.mem_cons,List.not_mem_nil,or_false]
   rintro p (rfl|rfl)
   ·exact⟨.inr ⟨.inl rfl,by simp only;omega,by simp only;omega⟩,fun _=>within_mk (by simp only;omega) (by simp only;omega)⟩
   ·exact⟨.inl ⟨rfl,by simp only;omega,by simp only;omega⟩,fun h=>(h rfl).elim⟩⟩
  have hl:=told_len t
  have hx:ZK (QQ o [sgn8 (QG s 0),QG s 0 / 512 % 8])=[ZE 1 (sgn8 (QG s 0)),ZE 0 (QG s 0 / 512 % 8)]:=by simp[ZK,QQ,hk,roles]
  rw[hx]at hl
  simp only[List.length_cons,List.length_nil,List.map_cons,List.map_nil,List.sum_cons,List.sum_nil,r2]at hl
  exact⟨⟨o,_,t,by omega,by omega⟩,hpre,by omega,hjump,.inl (by simp[Strd.size,hop,hk])⟩
 ·have key:∀v,0≤v→v≤65535→QK o s a=[v,QG s 0 % 8]→Good (QQ o (QK o s a)) s a:=by
   intro v v0 v1 e
   rw[e]at hjump hpre ⊢
   have r1:=num_len 1 v 4 (by omega) v0 (.inl rfl)
   have r2:=reg_len (QG s 0 % 8) (by omega) (by omega)
   have t:Told (QQ o [v,QG s 0 % 8]) o [v,QG s 0 % 8]:=⟨rfl,hT,by rw[hk];rfl,by simp,by
    rw[hk]
    simp only[show ∀n,roles 4 n=[1,0] from fun _=>rfl,List.zip_cons_cons,List.zip_nil_right,List.mem_cons,List.not_mem_nil,or_false]
    rintro p (rfl|rfl)
    ·exact⟨.inr ⟨.inl rfl,by simp only;omega,by simp only;omega⟩,fun _=>within_mk (by simp only;omega) (by simp only;omega)⟩
    ·exact⟨.inl ⟨rfl,by simp only;omega,by simp only;omega⟩,fun h=>(h rfl).elim⟩⟩
   have hx:ZK (QQ o [v,QG s 0 % 8])=[ZE 1 v,ZE 0 (QG s 0 % 8)]:=by simp[ZK,QQ,hk,roles]
   have hl:(Q8 (QQ o [v,QG s 0 % 8])).length≤14:=by
    unfold Q8
    rw[hx,List.length_append]
    have:=short_words o ho hk
    simp[joined,r2,hop]at r1 ⊢
    omega
   exact⟨⟨o,_,t,by omega,by omega⟩,hpre,hl,hjump,.inl (by simp only[Strd.size,hop,hk];rw[if_neg (by omega),if_pos trivial];split <;> simp)⟩
  by_cases hc:QG s 0<0x5040
  ·exact key (QG s 2) w2.1 w2.2 (by simp[QK,hk,hc])
  ·exact key ((QG s 0 / 512 % 8+7) % 8+1) (by omega) (by omega) (by simp[QK,hk,hc])
 ·have hj:QN o=true:=by simp[QN,hk]
  have key:∀v,QK o s a=[v]→Good (QQ o (QK o s a)) s a:=by
   intro v e
   rw[e]at hjump hpre ⊢
   have hp:=place_rng (fits_place (hjump hj))
   have hp':0≤v∧v≤16777214:=hp
   have r1:=num_len' 3 v 7 (by omega) hp'.1 (.inr rfl)
   have t:Told (QQ o [v]) o [v]:=⟨rfl,hT,by rw[hk];rfl,by simp,by
    rw[hk]
    simp only[show ∀n,roles 5 n=[3] from fun _=>rfl,List.zip_cons_cons,List.zip_nil_right,List.mem_cons,List.not_mem_nil,or_false]
    rintro p rfl
    exact⟨.inr ⟨.inr (.inr rfl),by simp only;omega,by simp only;omega⟩,fun _=>rfl⟩⟩
   have hl:=told_len t
   have hx:ZK (QQ o [v])=[ZE 3 v]:=by simp[ZK,QQ,hk,roles]
   rw[hx]at hl
   simp only[List.length_cons,List.length_nil,List.map_cons,List.map_nil,List.sum_cons,List.sum_nil]at hl
   exact⟨⟨o,_,t,by omega,by omega⟩,hpre,by omega,hjump,.inl (by simp only[Strd.size,hop,hk,jumpSize];repeat (first|(split;· simp)|simp))⟩
  by_cases hc:o.first=0
  ·exact key _ (by simp[QK,hk,hc];rfl)
  ·exact key _ (by simp[QK,hk,hc];rfl)
 ·have hj:QN o=true:=by simp[QN,hk]
  have key:∀v,QK o s a=[v]→Good (QQ o (QK o s a)) s a:=by
   intro v e
   rw[e]at hjump hpre ⊢
   have hp:=place_rng (fits_place (hjump hj))
   have hp':0≤v∧v≤16777214:=hp
   have r1:=num_len' 3 v 7 (by omega) hp'.1 (.inr rfl)
   have t:Told (QQ o [v]) o [v]:=⟨rfl,hT,by rw[hk];rfl,by simp,by
    rw[hk]
    simp only[show ∀n,roles 6 n=[3] from fun _=>rfl,List.zip_cons_cons,List.zip_nil_right,List.mem_cons,List.not_mem_nil,or_false]
    rintro p rfl
    exact⟨.inr ⟨.inr (.inr rfl),by simp only;omega,by simp only;omega⟩,fun _=>rfl⟩⟩
   have hl:=told_len t
   have hx:ZK (QQ o [v])=[ZE 3 v]:=by simp[ZK,QQ,hk,roles]
   rw[hx]at hl
   simp only[List.length_cons,List.length_nil,List.map_cons,List.map_nil,List.sum_cons,List.sum_nil]at hl
   exact⟨⟨o,_,t,by omega,by omega⟩,hpre,by omega,hjump,.inl (by simp only[Strd.size,hop,hk,jumpSize];repeat (first|(split;· simp)|simp))⟩
  by_cases hc:o.first=1
  ·exact key _ (by simp[QK,hk,hc];rfl)
  ·exact key _ (by simp[QK,hk,hc];rfl)
theorem byte_back (c:UInt8) (n:Int) (h:n % 256=(c.toNat:Int)):(n % 256).toNat.toUInt8=c:=by
 rw[h,Int.toNat_natCast]
 exact UInt8.ofNat_toNat
theorem word_back (x y:UInt8):QI (256*(x.toNat:Int)+(y.toNat:Int))=[x,y]:=by
 have h1:=u8_lt x
 have h2:=u8_lt y
 unfold QI
 rw[byte_back x ((256*(x.toNat:Int)+(y.toNat:Int)) / 256) (by omega),byte_back y _ (by omega)]
theorem told_of (o:Op) (v:Int) (ho:o∈toldOps) (hk:o.kind=7∨o.kind=8) (h0:0≤v) (h1:v≤65535) (h2:o.kind=8→v≤255):Told (QQ o [v]) o [v]:=by
 have hr:roles o.kind [v].length=[3]:=by rcases hk with e|e <;> rw[e] <;> rfl
 refine⟨rfl,ho,by rw[hr];rfl,by simp,?_⟩
 rw[hr]
 simp only[List.zip_cons_cons,List.zip_nil_right,List.mem_cons,List.not_mem_nil,or_false]
 rintro p rfl
 refine⟨.inr ⟨.inr (.inr rfl),by simp only;omega,by simp only;omega⟩,fun _=>?_⟩
 rcases hk with e|e
 ·rw[e];exact within_mk (lo:=-32768) (hi:=65535) (by omega) (by omega)
 ·rw[e];have:=h2 e;exact within_mk (lo:=-128) (hi:=255) (by omega) (by omega)
theorem told_one_len (o:Op) (v:Int) (ho:o∈toldOps) (hk:o.kind=7∨o.kind=8) (h0:0≤v) (h1:v≤65535) (h2:o.kind=8→v≤255):(Q8 (QQ o [v])).length≤14:=by
 have hl:=told_len (told_of o v ho hk h0 h1 h2)
 have hr:roles o.kind 1=[3]:=by rcases hk with e|e <;> rw[e] <;> rfl
 have hx:ZK (QQ o [v])=[ZE 3 v]:=by
  unfold ZK QQ
  simp only[List.map_cons,List.map_nil,List.length_singleton,hr]
  rfl
 have r1:=num_len' 3 v 4 (by omega) h0 (.inr rfl)
 rw[hx]at hl
 simp only[List.length_cons,List.length_nil,List.map_cons,List.map_nil,List.sum_cons,List.sum_nil]at hl
 omega
theorem mem_words:wordsOp∈toldOps:=List.mem_append_right _ (by simp)
theorem mem_bytes:bytesOp∈toldOps:=List.mem_append_right _ (by simp)
theorem good_byte (c:UInt8) (a:Int):Good (QQ bytesOp [(c.toNat:Int)]) [c] a:=by
 have hc:=u8_lt c
 refine⟨⟨bytesOp,_,told_of bytesOp _ mem_bytes (.inr rfl) (by omega) (by omega) (fun _=>by omega),by decide,by decide⟩,?_,told_one_len bytesOp _ mem_bytes (.inr rfl) (by omega) (by omega) (fun _=>by omega),(fun h=>by cases h),.inr ⟨rfl,rfl⟩⟩
 have:bytes (QQ bytesOp [(c.toNat:Int)]) (QQ bytesOp [(c.toNat:Int)]).op.first a=[byteB (c.toNat:Int)]:=rfl
 rw[this]
 unfold byteB
 rw[byte_back c _ (by omega)]
 exact List.prefix_refl _
theorem good_word (x y:UInt8) (r:Bs) (a:Int):Good (QQ wordsOp [256*(x.toNat:Int)+(y.toNat:Int)]) (x::y::r) a:=by
 have hx:=u8_lt x
 have hy:=u8_lt y
 refine⟨⟨wordsOp,_,told_of wordsOp _ mem_words (.inl rfl) (by omega) (by omega) (fun h=>by cases h),by decide,by decide⟩,?_,told_one_len wordsOp _ mem_words (.inl rfl) (by omega) (by omega) (fun h=>by cases h),(fun h=>by cases h),.inl (Int.le_refl _)⟩
 have:bytes (QQ wordsOp [256*(x.toNat:Int)+(y.toNat:Int)]) (QQ wordsOp [256*(x.toNat:Int)+(y.toNat:Int)]).op.first a=QI (256*(x.toNat:Int)+(y.toNat:Int))++[]:=rfl
 rw[this,word_back,List.append_nil]
 exact⟨r,rfl⟩
theorem good_first (s:Bs) (hs:s≠[]) (a:Int):Good (ZH s a) s a:=by
 unfold ZH
 cases hm:matchIns s a with
 |some i=>
  simp only
  unfold matchIns at hm
  have h1:=List.find?_some hm
  obtain⟨o,ho,rfl⟩:=List.mem_map.1 (List.mem_of_find?_eq_some hm)
  exact good_match o ho s a h1
 |none=>
  simp only
  clear hm
  split
  ·rename_i hl
   match s,hl with
   |[c],_=>exact good_byte c a
  ·rename_i hl
   match s,hs,hl with
   |[c],_,hl=>exact(hl rfl).elim
   |x::y::r,_,_=>exact good_word x y r a
theorem told_rng {i:Ins} {o:Op} {ns:List Int} (h:Told i o ns):i.op.first=i.op.last∧0≤i.op.first∧i.op.first≤2∧(i.op.kind=6→i.op.first≠0)∧∀x∈i.oprs,x.name=[]:=by
 have hw:=(told_words o h.op).2.2.2.2.2
 rw[h.ins]
 refine⟨hw.1,hw.2.1,hw.2.2.1,hw.2.2.2,fun x hx=>?_⟩
 obtain⟨n,_,rfl⟩:=List.mem_map.1 hx
 rfl
theorem good_size {i:Ins} {s:Bs} {a:Int} (h:Good i s a):bytes i i.op.first a=s.take (size i i.op.first a).toNat∧(size i i.op.first a).toNat≤s.length:=by
 obtain⟨o,ns,ht,_⟩:=h.told
 have hr:=told_rng ht
 have hl:=bytes_len i i.op.first a ⟨hr.2.1,hr.2.2.1⟩ hr.2.2.2.1
 have hp:=h.pre
 refine⟨?_,?_⟩
 ·rw[←hl];exact(List.prefix_iff_eq_take.1 hp)
 ·rw[←hl];exact hp.length_le
def Chain:Int→Bs→List Ins→Prop
 |_,s,[]=>s=[]
 |a,s,i::l=>s≠[]∧Good i s a∧Chain (a+size i i.op.first a) (s.drop (size i i.op.first a).toNat) l
theorem dis_chain:∀(f:Nat) (a:Int) (s:Bs),s.length≤f→Chain a s (disFrom f a s)
 |0,a,s,h=>by
  have:s=[]:=List.length_eq_zero_iff.1 (by omega)
  rw[this];rfl
 |f+1,a,s,h=>by
  unfold disFrom
  split
  ·rename_i e;rw[e];rfl
  ·rename_i e
   have hg:=good_first s e a
   have hs:=hg.size
   refine⟨e,hg,dis_chain f _ _ ?_⟩
   rw[List.length_drop]
   omega
theorem chain_len:∀(l:List Ins) (a:Int) (s:Bs),Chain a s l→(disText l).length≤8*s.length+8
 |[],_,_,_=>by simp[disText]
 |i::l,a,s,h=>by
  obtain⟨hs,hg,hc⟩:=h
  have ih:=chain_len l _ _ hc
  have h1:=hg.len
  have h2:=hg.size
  have h3:=(good_size hg).2
  rw[List.length_drop]at ih
  simp only[disText,List.map_cons,List.flatten_cons,List.length_append,List.length_cons,List.length_nil]at ih ⊢
  rcases h2 with h2|⟨h2,h4⟩
  ·omega
  ·rw[h4]at ih h3
   have hl:l=[]:=by
    cases l with
    |nil=>rfl
    |cons j l=>
     have:=hc.1
     rw[h4]at this
     exact(this (List.drop_eq_nil_of_le (by simp;omega))).elim
   subst hl
   simp only[List.map_nil,List.flatten_nil,List.length_nil]
   omega
def bare (i:Ins):Line:=⟨[],i⟩
theorem org_read (n:Int) (h:isPlace n=true):readLine (Q8 (QQ orgOp [n]))=some (bare (QQ orgOp [n]))∧(∀c∈Q8 (QQ orgOp [n]),c≠10)∧Q9 (QQ orgOp [n])=true∧(Q8 (QQ orgOp [n])).length≤12:=by
 have hp:=place_rng h
 have hT:Told (QQ orgOp [n]) orgOp [n]:=⟨rfl,List.mem_append_right _ (by simp),rfl,by simp,by
  rw[show roles orgOp.kind [n].length=[2] from rfl]
  simp only[List.zip_cons_cons,List.zip_nil_right,List.mem_cons,List.not_mem_nil,or_false]
  rintro p rfl
  exact⟨.inr ⟨.inr (.inl rfl),by simp only;omega,by simp only;omega⟩,fun _=>h⟩⟩
 have hpl:=itoa_plain n
 have hps:=itoa_pos n
 have hw:Q2 orgOp=[111,114,103]:=by decide +kernel
 have ht:Q8 (QQ orgOp [n])=[111,114,103]++[32]++itoa n:=by
  show Q2 orgOp++joined [ZE 2 n]=_
  rw[hw]
  simp[joined,ZE,mark]
 have hs:∀c∈Q8 (QQ orgOp [n]),c≠58∧c≠59∧c≠10:=by
  rw[ht]
  intro c hc
  simp only[List.mem_append,List.mem_cons,List.not_mem_nil,or_false]at hc
  rcases hc with ((rfl|rfl|rfl)|rfl)|hc
  ·decide
  ·decide
  ·decide
  ·decide
  ·exact(ZW (hpl c hc)).2.2
 have hl:=itoa_len n 7 (by omega) hp.1
 refine⟨?_,fun c hc=>(hs c hc).2.2,(told_parts hT).2.1,by rw[ht];simp;omega⟩
 have hi:=instruction_at [] [111,114,103] [32] (itoa n) [] blanks_nil (by decide) (by simp) (by intro c hc;rw[List.mem_singleton]at hc;subst hc;decide) (by simp) (tight_all _ fun c hc=>(ZW (hpl c hc)).1) hps blanks_nil orgOp rfl
 rw[operands_one _ _ hpl]at hi
 have hr:=(told_parts hT).1
 rw[show ZK (QQ orgOp [n])=[itoa n] from rfl]at hr
 rw[show ropsAll (roles orgOp.kind 1) [itoa n]=some (QQ orgOp [n]).oprs from hr]at hi
 have:=readLine_bare (Q8 (QQ orgOp [n])) [] (fun c hc=>⟨(hs c hc).1,(hs c hc).2.1⟩) (.inl rfl)
 rw[List.append_nil]at this
 rw[this,ht]
 simp only[List.nil_append,List.append_nil]at hi
 rw[hi]
 rfl
end Go.Proofs.YtegiloiojloaoaaGreatDoor.Strd
