/- The program's answers as plain functions on lists of bytes. The texts of this claim are shortened by program (blanks, what is not reached, names): Q0 is setCell_other, Q1 is BytesAt, Q2 is wordOf, Q4 is bstr_list, Q5 is firstForms, Q6 is results_cell_tmp2, Q7 is numberOf, Q8 is insText, Q9 is numbersMayBe, QA is unhide, QB is hide, QC is box_cell, QD is lt_of_box, QE is below_t, QF is below_a, QG is wordAt, QH is box_new, QI is wordBs, QJ is layForms, QK is opersIn, QL is kind_fixed, QM is readSource, QN is isJump, QO is ownsRow_below, QP is results_cell_tmp, QQ is insOf, QR is readOperand, QS is OprsAt, QT is below_row, QU is signLen, QV is wordAt_rng, QW is below_d, QX is bareOprs, QY is digitsVal, QZ is bytes_ext, Z0 is LabsAt, Z1 is ins_two, Z2 is allFine, ZA is bstr_size, ZB is cutHead, ZC is box_free, ZD is labCells, ZE is oprText, ZF is setCell_size, ZG is readOperands, ZH is firstIns, ZI is textAt, ZJ is row_at, ZK is oprTexts, ZL is matchOps, ZM is layOutOf, ZN is ownsRow_keptD, ZO is IntsAt, ZP is ownsRow_row, ZQ is bstr_get, ZR is StrsAt, ZS is LinesAt, ZT is isName, ZU is cutWord, ZV is toList_extract, ZW is plain_parts, ZX is opOf, ZY is size_list, ZZ is farOp. -/
set_option linter.unusedVariables false
set_option linter.unusedSimpArgs false
namespace Go.Proofs.YtegiloiojloaoaaGreatDoor
theorem gZ.{u} {α : Type u} {a : α} {l : List α} : (a :: l)[0]? = some a := List.getElem?_cons_zero
theorem gS.{u} {α : Type u} {a : α} {i : Nat} {l : List α} : (a :: l)[i + 1]? = l[i]? := List.getElem?_cons_succ
theorem gA.{u} {α : Type u} {l : List α} {i : Nat} : l.toArray[i]? = l[i]? := List.getElem?_toArray
theorem gE.{u} {α : Type u} {l : List α} {i : Nat} (h : i < l.length) : l[i]? = some l[i] := List.getElem?_eq_getElem h
theorem gD.{u} {α : Type u} (l : List α) (i : Nat) (a : α) : l.getD i a = l[i]?.getD a := List.getD_eq_getElem?_getD
end Go.Proofs.YtegiloiojloaoaaGreatDoor
namespace Go.Proofs.YtegiloiojloaoaaGreatDoor.Strd
abbrev Bs:=List UInt8
def blank (c:UInt8):Bool:=c==32||c==9
def trimL (s:Bs):Bs:=s.dropWhile blank
def trim (s:Bs):Bs:=(trimL (trimL s).reverse).reverse
def split (m:UInt8):Bs→List Bs
 |[]=>[[]]
 |c::t=>if c=m then []::split m t else
  match split m t with
  |[]=>[[c]]
  |h::r=>(c::h)::r
def contB (c:UInt8):Bool:=128≤c.toNat&&c.toNat<192
def QU:Bs→Nat
 |[]=>0
 |a::t=>
  let n:=a.toNat
  if n<128 then 1
  else if 194≤n∧n<224 then
   match t with
   |b::_=>if contB b then 2 else 0
   |_=>0
  else if 224≤n∧n<240 then
   match t with
   |b::c::_=>if contB b&&contB c&&(n != 224||160≤b.toNat)&&(n != 237||b.toNat<160) then 3 else 0
   |_=>0
  else if 240≤n∧n<245 then
   match t with
   |b::c::d::_=>if contB b&&contB c&&contB d&&(n != 240||144≤b.toNat)&&(n != 244||b.toNat<144) then 4 else 0
   |_=>0
  else 0
def letter (c:UInt8):Bool:=(97≤c&&c≤122)||(65≤c&&c≤90)||c==95
def digit (c:UInt8):Bool:=48≤c&&c≤57
def nameCount:Nat→Bool→Bs→Option Nat
 |_,_,[]=>some 0
 |0,_,_::_=>none
 |f+1,first,c::t=>
  let k:=QU (c::t)
  if k=0∨(k=1∧letter c=false∧(digit c=false∨first=true)) then none
  else (nameCount f false (t.drop (k-1))).map (·+1)
def ZT (s:Bs):Bool:=match nameCount s.length true s with
 |some n=>decide (1≤n)&&decide (n≤20)
 |none=>false
def digitVal (c:UInt8):Nat:=if digit c then c.toNat-48 else if 97≤c&&c≤102 then c.toNat-87 else 99
def QY (base:Nat):Nat→Bs→Option Nat
 |acc,[]=>some acc
 |acc,c::t=>if digitVal c<base then QY base (acc*base+digitVal c) t else none
def ZB (c:UInt8):Bs→Bs×Bool
 |[]=>([],false)
 |d::t=>if d=c then (t,true) else (d::t,false)
def number (s:Bs):Option Int:=
 let p:=ZB 45 s
 let q:=ZB 36 p.1
 if 1≤q.1.length∧q.1.length≤8 then
  (QY (if q.2 then 16 else 10) 0 q.1).map fun v=>if p.2 then -(v:Int) else v
 else none
structure Op where
 kind:Int
 base:Int
 number:Int
 first:Int
 last:Int
structure Opr where
 name:Bs
 num:Int
structure Ins where
 op:Op
 oprs:List Opr
structure Line where
 label:Bs
 ins:Ins
def fixedWords:List (Bs×Int×Int):=[
 ([110,111,112],1,0x4e71),([114,116,115],1,0x4e75),([109,111,118,101],2,0x3000),([97,100,100],2,0xd040),([115,117,98],2,0x9040),([99,109,112],2,0xb040),
 ([109,111,118,101,113],3,0x7000),([97,100,100,105],4,0x0640),([100,99,46,119],7,0),([100,99,46,98],8,0),([100,115],9,0),([97,108,105,103,110],10,0),([111,114,103],11,0)]
def jumpWords:List Bs:=[[98,114,97],[98,115,114],[98,104,105],[98,108,115],[98,99,99],[98,99,115],[98,110,101],[98,101,113],[98,118,99],[98,118,115],[98,112,108],[98,109,105],[98,103,101],[98,108,116],[98,103,116],[98,108,101]]
def farWords:List (Bs×Int):=[([106,109,112],0x4ef8),([106,115,114],0x4eb8)]
def endsWith (s e:Bs):Bool:=e.isSuffixOf s
def cutForm (w:Bs):Bs×Int×Int:=
 if endsWith w [46,115] then (w.take (w.length-2),0,0)
 else if endsWith w [46,119] then (w.take (w.length-2),1,1)
 else if endsWith w [46,108] then (w.take (w.length-2),2,2)
 else (w,0,2)
def jumpOp (n f l:Int):Op:=⟨5,0x6000+0x100*n,n,f,l⟩
def ZZ (b f l:Int):Op:=⟨6,b,0,f,l⟩
def findIdx (l:List Bs) (w:Bs):Option Nat:=l.findIdx? (·==w)
def find (w:Bs):Option Op:=
 match fixedWords.find? (fun r=>r.1==w) with
 |some r=>some ⟨r.2.1,r.2.2,0,0,0⟩
 |none=>
  let (stem,f,l):=cutForm w
  match findIdx jumpWords stem with
  |some n=>some (jumpOp n f l)
  |none=>
   if l=0 then none
   else match farWords.find? (fun r=>r.1==stem) with
   |some r=>some (ZZ r.2 (max f 1) l)
   |none=>none
def roles (kind:Int) (count:Nat):List Int:=
 if kind=2 then [0,0]
 else if kind=3∨kind=4 then [1,0]
 else if kind=5∨kind=6 then [3]
 else if kind=7∨kind=8 then List.replicate (min (max count 1) 8) 3
 else if kind=9∨kind=10∨kind=11 then [2]
 else []
def mark (role:Int):Bs:=if role=0 then [100] else if role=1 then [35] else []
def stripPrefix (s p:Bs):Option Bs:=if p.isPrefixOf s then some (s.drop p.length) else none
def isDigit1 (s:Bs):Bool:=match s with|[c]=>digit c|_=>false
def QR (role:Int) (text:Bs):Option Opr:=
 if role=3∧ZT text=true then some ⟨text,0⟩
 else match stripPrefix text (mark role) with
 |none=>none
 |some d=>if role=0∧isDigit1 d=false then none else (number d).map fun n=>⟨[],n⟩
def ZG:List Int→List Bs→Option (List Opr)
 |[],[]=>some []
 |r::rs,t::ts=>(QR r (trim t)).bind fun o=>(ZG rs ts).map (o::·)
 |_,_=>none
def operands (kind:Int) (texts:List Bs):Option (List Opr):=ZG (roles kind texts.length) texts
def ZU:Bs→Bs×Bs
 |[]=>([],[])
 |c::t=>if blank c then ([],trim (c::t)) else ((c::(ZU t).1),(ZU t).2)
def emptyIns:Ins:=⟨⟨0,0,0,0,0⟩,[]⟩
def instruction (text:Bs):Option Ins:=
 let (word,rest):=ZU (trim text)
 if word=[] then some emptyIns
 else (find word).bind fun op=>(operands op.kind (if rest=[] then [] else split 44 rest)).map fun l=>⟨op,l⟩
def labelName (text:Bs):Option Bs:=
 let name:=trim text
 if ZT name=true∧text.drop (text.length-name.length)=name then some name else none
def readLine (text:Bs):Option Line:=
 match split 58 ((split 59 text).headD []) with
 |[a]=>(instruction a).map fun i=>⟨[],i⟩
 |[a,b]=>(instruction b).bind fun i=>(labelName a).map fun l=>⟨l,i⟩
 |_=>none
def within (n lo hi:Int):Bool:=decide (lo≤n)&&decide (n≤hi)
def isOdd (n:Int):Bool:=n % 2 != 0
def isPlace (n:Int):Bool:=within n 0 0xfffffe&&!isOdd n
def isPow (n:Int):Bool:=n==2||n==4||n==8||n==16||n==32||n==64||n==128||n==256
def allows (kind n:Int):Bool:=
 if kind=3 then within n (-0x80) 0x7f
 else if kind=4∨kind=7 then within n (-0x8000) 0xffff
 else if kind=8 then within n (-0x80) 0xff
 else if kind=9 then within n 0 0x400
 else if kind=10 then isPow n
 else if kind=11 then isPlace n
 else true
def numbersOk (kind:Int):List Int→List Opr→Bool
 |r::rs,o::os=>(if o.name≠[] then true else if r=0 then decide (o.num≤7) else allows kind o.num)&&numbersOk kind rs os
 |_,_=>true
def Q9 (i:Ins):Bool:=numbersOk i.op.kind (roles i.op.kind i.oprs.length) i.oprs
structure Rd where
 org:Int
 lines:List Line
 begun:Bool
def hasLabel (lines:List Line) (n:Bs):Bool:=n != []&&lines.any (fun l=>l.label==n)
def add (r:Rd) (text:Bs):Rd×Int:=
 match readLine text with
 |none=>(r,1)
 |some l=>
  if hasLabel r.lines l.label then (r,3)
  else if Q9 l.ins=false then (r,4)
  else
   let begun:=r.begun||l.label != []
   if l.ins.op.kind=11∧begun=true then (r,5)
   else (⟨if l.ins.op.kind=11 then (l.ins.oprs.headD ⟨[],0⟩).num else r.org,r.lines++[l],begun||decide (l.ins.op.kind≠0)⟩,0)
def addAll:Nat→Rd→List Bs→Rd×Nat×Int
 |_,r,[]=>(r,0,0)
 |k,r,t::ts=>let p:=add r t;if p.2=0 then addAll (k+1) p.1 ts else (p.1,k+1,p.2)
def QM (s:Bs):Rd×Nat×Int:=
 if s.length > 4000 then (⟨0,[],false⟩,0,7) else addAll 0 ⟨0,[],false⟩ (split 10 s)
def num (i:Ins) (k:Nat):Int:=(i.oprs.getD k ⟨[],0⟩).num
def QN (o:Op):Bool:=o.kind==5||o.kind==6
def isCond (o:Op):Bool:=o.kind==5&&decide (o.number > 1)
def addsShort (v:Int):Bool:=within v 1 8
def jumpSize (o:Op) (form:Int):Int:=if form=0 then 2 else if form=1 then 4 else if isCond o then 8 else 6
def size (i:Ins) (form addr:Int):Int:=
 let k:=i.op.kind
 if k=1∨k=2∨k=3 then 2
 else if k=4 then (if addsShort (num i 0) then 2 else 4)
 else if k=5∨k=6 then jumpSize i.op form
 else if k=7 then 2*i.oprs.length
 else if k=8 then i.oprs.length
 else if k=9 then num i 0
 else if k=10 then (-addr) % (num i 0)
 else 0
def fits (o:Op) (form addr target:Int):Bool:=
 if isPlace target=false∨isOdd addr=true then false
 else if form=2 then true
 else if o.kind=6 then decide (target≤0x7fff)
 else if form=0 then within (target-addr-2) (-0x80) 0x7f&&(target-addr-2) != 0
 else within (target-addr-2) (-0x8000) 0x7fff
def labelAt (lines:List Line) (n:Bs):Option Nat:=lines.findIdx? (fun l=>l.label==n)
def known (lines:List Line) (n:Bs):Bool:=n==[]||lines.any (fun l=>l.label==n)
def firstUnknown (lines:List Line):Nat:=
 match lines.findIdx? (fun l=>l.ins.oprs.any fun o=>!known lines o.name) with
 |some k=>k+1
 |none=>0
def starts:Int→List Line→List Int→List Int
 |a,l::ls,f::fs=>a::starts (a+size l.ins f a) ls fs
 |a,_,_=>[a]
def placeOf (lines:List Line) (st:List Int) (n:Bs):Int:=st.getD ((labelAt lines n).getD 0) 0
def Q7 (lines:List Line) (st:List Int) (o:Opr):Int:=if o.name=[] then o.num else placeOf lines st o.name
def misses (lines:List Line) (st:List Int) (l:Line) (f a:Int):Bool:=
 QN l.ins.op&&!fits l.ins.op f a (Q7 lines st (l.ins.oprs.headD ⟨[],0⟩))
def longer (lines:List Line) (st:List Int):List Line→List Int→List Int→List Int
 |l::ls,f::fs,a::as=>(if f<l.ins.op.last∧misses lines st l f a=true then f+1 else f)::longer lines st ls fs as
 |_,_,_=>[]
def settle (org:Int) (lines:List Line):Nat→List Int→List Int
 |0,fs=>fs
 |n+1,fs=>let gs:=longer lines (starts org lines fs) lines fs (starts org lines fs);if gs=fs then fs else settle org lines n gs
def Q5 (lines:List Line):List Int:=lines.map (·.ins.op.first)
def QJ (org:Int) (lines:List Line):List Int:=settle org lines (2*lines.length+1) (Q5 lines)
def firstMiss (lines:List Line) (st:List Int):Nat→List Line→List Int→List Int→Nat
 |k,l::ls,f::fs,a::as=>if misses lines st l f a then k+1 else firstMiss lines st (k+1) ls fs as
 |_,_,_,_=>0
def overflows (lines:List Line) (st:List Int) (l:Line):Bool:=l.ins.oprs.any fun o=>decide (o.name≠[])&&!allows l.ins.op.kind (Q7 lines st o)
def firstOver (lines:List Line) (st:List Int):Nat:=
 match lines.findIdx? (overflows lines st) with
 |some k=>k+1
 |none=>0
def QI (n:Int):Bs:=[((n / 256) % 256).toNat.toUInt8,(n % 256).toNat.toUInt8]
def byteB (n:Int):UInt8:=(n % 256).toNat.toUInt8
def longJump (base target:Int):Bs:=QI (base+1)++QI (target / 65536)++QI target
def opp (n:Int):Int:=if n % 2=0 then n+1 else n-1
def jumpBytes (i:Ins) (form addr:Int):Bs:=
 let t:=num i 0
 let by':=t-addr-2
 if form=0 then QI (i.op.base+by' % 256)
 else if form=1 then QI i.op.base++QI by'
 else if i.op.number=1 then longJump 0x4eb8 t
 else (if isCond i.op then QI (0x6000+0x100*opp i.op.number+6) else [])++longJump 0x4ef8 t
def addBytes (i:Ins):Bs:=if addsShort (num i 0) then QI (0x5040+0x200*(num i 0 % 8)+num i 1) else QI (i.op.base+num i 1)++QI (num i 0)
def farBytes (i:Ins) (form:Int):Bs:=if form=1 then QI i.op.base++QI (num i 0) else longJump i.op.base (num i 0)
def bytes (i:Ins) (form addr:Int):Bs:=
 let k:=i.op.kind
 if k=1 then QI i.op.base
 else if k=2 then QI (i.op.base+0x200*num i 1+num i 0)
 else if k=3 then QI (i.op.base+0x200*num i 1+num i 0 % 256)
 else if k=4 then addBytes i
 else if k=5 then jumpBytes i form addr
 else if k=6 then farBytes i form
 else if k=7 then (i.oprs.map fun o=>QI o.num).flatten
 else if k=8 then i.oprs.map fun o=>byteB o.num
 else if k=9∨k=10 then List.replicate (size i form addr).toNat 0
 else []
def placed (lines:List Line) (st:List Int) (i:Ins):Ins:=⟨i.op,i.oprs.map fun o=>⟨[],Q7 lines st o⟩⟩
def image (lines:List Line) (st:List Int):List Line→List Int→List Int→Bs
 |l::ls,f::fs,a::as=>bytes (placed lines st l.ins) f a++image lines st ls fs as
 |_,_,_=>[]
def lay (org:Int) (lines:List Line):(List Int×List Int)×Nat×Int:=
 if firstUnknown lines > 0 then (([],[]),firstUnknown lines,2)
 else
  let fs:=QJ org lines
  let st:=starts org lines fs
  let m:=firstMiss lines st 0 lines fs st
  if m > 0 then (([],[]),m,6)
  else if firstOver lines st > 0 then (([],[]),firstOver lines st,4)
  else if st.getD lines.length 0-1 > 0xfffffe then (([],[]),0,7)
  else ((fs,st),0,0)
def assemble (s:Bs):(Int×Bs)×Nat×Int:=
 let r:=QM s
 if r.2.2≠0 then ((0,[]),r.2.1,r.2.2)
 else
  let p:=lay r.1.org r.1.lines
  if p.2.2≠0 then ((0,[]),p.2.1,p.2.2)
  else ((r.1.org,image r.1.lines p.1.2 r.1.lines p.1.1 p.1.2),0,0)
theorem st_len:∀(a:Int) (ls:List Line) (fs:List Int),fs.length=ls.length→(starts a ls fs).length=ls.length+1
 |_,[],[],_=>rfl
 |_,[],_::_,h=>by cases h
 |_,_::_,[],h=>by cases h
 |a,l::ls,f::fs,h=>by simp only[starts,List.length_cons];rw[st_len _ ls fs (by simpa using h)]
theorem st_zero (a:Int) (ls:List Line) (fs:List Int):(starts a ls fs).getD 0 0=a:=by
 cases ls <;> cases fs <;> rfl
theorem st_step:∀(a:Int) (ls:List Line) (fs:List Int) (k:Nat) (h1:k<ls.length),fs.length=ls.length→(starts a ls fs).getD (k+1) 0=(starts a ls fs).getD k 0+size ls[k].ins (fs.getD k 0) ((starts a ls fs).getD k 0)
 |_,[],_,_,h1,_=>by cases h1
 |_,_::_,[],_,_,h2=>by cases h2
 |a,l::ls,f::fs,0,_,_=>by
  simp only[starts,List.getD_cons_succ,List.getD_cons_zero,List.getElem_cons_zero]
  exact st_zero _ _ _
 |a,l::ls,f::fs,k+1,h1,h2=>by
  simp only[starts,List.getD_cons_succ,List.getElem_cons_succ]
  exact st_step _ ls fs k (by simpa using h1) (by simpa using h2)
structure Simp (lines:List Line):Prop where
 len:lines.length≤4001
 jumps:∀l∈lines,QN l.ins.op=true→∃n j,l.ins.oprs=[⟨n,0⟩]∧n≠[]∧labelAt lines n=some j
 plain:∀l∈lines,QN l.ins.op=false→(∀f a,size l.ins f a=size l.ins 0 0)∧0≤size l.ins 0 0∧size l.ins 0 0≤1024∧size l.ins 0 0 % 2=0∧∀o∈l.ins.oprs,o.name=[]
 forms:∀l∈lines,0≤l.ins.op.first∧l.ins.op.first≤2∧l.ins.op.last≤2
def P (lines:List Line) (F:List Int) (k:Nat):Int:=(starts 0 lines F).getD k 0
def Miss (lines:List Line) (F:List Int) (k:Nat):Prop:=∃h:k<lines.length,misses lines (starts 0 lines F) lines[k] (F.getD k 0) (P lines F k)=true
theorem labelAt_lt' (lines:List Line) (n:Bs) (j:Nat) (h:labelAt lines n=some j):j<lines.length:=by
 unfold labelAt at h
 exact(List.findIdx?_eq_some_iff_getElem.1 h).1
theorem miss_jump {lines:List Line} (hS:Simp lines) (F:List Int) (k:Nat) (hk:k<lines.length) (hj:QN lines[k].ins.op=true):∃j,j<lines.length∧(Miss lines F k↔fits lines[k].ins.op (F.getD k 0) (P lines F k) (P lines F j)=false)∧∀st,Q7 lines st (lines[k].ins.oprs.headD ⟨[],0⟩)=st.getD j 0:=by
 obtain⟨n,j,ho,hn,hl⟩:=hS.jumps lines[k] (List.getElem_mem _) hj
 have hnum:∀st,Q7 lines st (lines[k].ins.oprs.headD ⟨[],0⟩)=st.getD j 0:=by
  intro st
  rw[ho,List.headD_cons]
  unfold Q7 placeOf
  rw[if_neg hn,hl];rfl
 refine⟨j,labelAt_lt' _ _ _ hl,?_,hnum⟩
 have he:misses lines (starts 0 lines F) lines[k] (F.getD k 0) (P lines F k)=!fits lines[k].ins.op (F.getD k 0) (P lines F k) (P lines F j):=by
  unfold misses
  rw[hj,hnum];rfl
 constructor
 ·rintro ⟨_,h⟩
  rw[he]at h
  simpa using h
 ·intro h
  exact⟨hk,by rw[he,h];rfl⟩
def room:List Line→List Int→Nat
 |l::ls,f::fs=>(l.ins.op.last-f).toNat+room ls fs
 |_,_=>0
theorem lng_room (lines:List Line) (st:List Int):∀(ls:List Line) (fs bs:List Int),fs.length=ls.length→ls.length≤bs.length→room ls (longer lines st ls fs bs)≤room ls fs∧(longer lines st ls fs bs≠fs→room ls (longer lines st ls fs bs)<room ls fs)
 |[],[],_,_,_=>⟨Nat.le_refl _,fun h=>absurd (by simp[longer]) h⟩
 |[],_::_,_,h,_=>by cases h
 |_::_,[],_,h,_=>by cases h
 |_::_,_::_,[],_,h=>by simp at h
 |l::ls,f::fs,a::bs,h1,h2=>by
  obtain⟨i1,i2⟩:=lng_room lines st ls fs bs (by simpa using h1) (by simpa using h2)
  simp only[longer]
  by_cases hc:f<l.ins.op.last∧misses lines st l f a=true
  ·rw[if_pos hc]
   simp only[room]
   have:(l.ins.op.last-(f+1)).toNat+1=(l.ins.op.last-f).toNat:=by omega
   exact⟨by omega,fun _=>by omega⟩
  ·rw[if_neg hc]
   simp only[room]
   refine⟨by omega,fun h=>?_⟩
   have:longer lines st ls fs bs≠fs:=fun e=>h (by rw[e])
   have:=i2 this
   omega
theorem first_room:∀(ls:List Line),(∀l∈ls,0≤l.ins.op.first∧l.ins.op.last≤2)→room ls (ls.map (·.ins.op.first))≤2*ls.length
 |[],_=>by simp[room]
 |l::ls,h=>by
  have ih:=first_room ls fun x hx=>h x (by simp[hx])
  have h1:=h l (by simp)
  simp only[List.map_cons,room,List.length_cons]
  omega
theorem split_none (m:UInt8):∀(s:Bs),(∀c∈s,c≠m)→split m s=[s]
 |[],_=>rfl
 |c::t,h=>by
  have h1:c≠m:=h c (by simp)
  rw[split,if_neg h1,split_none m t (fun x hx=>h x (by simp[hx]))]
theorem split_at (m:UInt8):∀(s t:Bs),(∀c∈s,c≠m)→split m (s++m::t)=s::split m t
 |[],t,_=>by rw[List.nil_append,split,if_pos rfl]
 |c::s,t,h=>by
  have h1:c≠m:=h c (by simp)
  rw[List.cons_append,split,if_neg h1,split_at m s t (fun x hx=>h x (by simp[hx]))]
theorem dropWhile_none {p:UInt8→Bool}:∀(s:Bs),(∀c∈s.head?,p c=false)→s.dropWhile p=s
 |[],_=>rfl
 |c::t,h=>by rw[List.dropWhile_cons,h c (by simp)];rfl
theorem dropWhile_all {p:UInt8→Bool}:∀(a s:Bs),(∀c∈a,p c=true)→(a++s).dropWhile p=s.dropWhile p
 |[],s,_=>rfl
 |c::a,s,h=>by rw[List.cons_append,List.dropWhile_cons,h c (by simp),if_pos rfl];exact dropWhile_all a s (fun x hx=>h x (by simp[hx]))
def Tight (s:Bs):Prop:=(∀c∈s.head?,blank c=false)∧(∀c∈s.getLast?,blank c=false)
def Blanks (s:Bs):Prop:=∀c∈s,blank c=true
theorem trim_pad (a s b:Bs) (ha:Blanks a) (hs:Tight s) (hb:Blanks b):trim (a++s++b)=s:=by
 unfold trim trimL
 rw[List.append_assoc,dropWhile_all a _ ha]
 by_cases e:s=[]
 ·subst e
  have h1:([]++b:Bs).dropWhile blank=[]:=by
   have:=dropWhile_all (p:=blank) b [] hb
   simpa using this
  rw[h1];rfl
 ·rw[dropWhile_none (s++b) (by
   cases s with
   |nil=>exact(e rfl).elim
   |cons c t=>exact hs.1)]
  rw[List.reverse_append,dropWhile_all b.reverse _ (fun c hc=>hb c (by simpa using hc)),dropWhile_none s.reverse (by rw[List.head?_reverse];exact hs.2),List.reverse_reverse]
theorem trim_tight (s:Bs) (hs:Tight s):trim s=s:=by
 have:=trim_pad [] s [] (fun c hc=>by cases hc) hs (fun c hc=>by cases hc)
 simpa using this
theorem tight_all (s:Bs) (h:∀c∈s,blank c=false):Tight s:=
 ⟨fun c hc=>h c (List.mem_of_mem_head? hc),fun c hc=>h c (List.mem_of_mem_getLast? hc)⟩
theorem blanks_nil:Blanks []:=fun c hc=>by cases hc
theorem cutWord_word:∀(u:Bs),(∀c∈u,blank c=false)→ZU u=(u,[])
 |[],_=>rfl
 |c::t,h=>by rw[ZU,h c (by simp),cutWord_word t (fun x hx=>h x (by simp[hx]))];rfl
theorem cutWord_rest:∀(u v:Bs) (b:UInt8),(∀c∈u,blank c=false)→blank b=true→ZU (u++b::v)=(u,trim (b::v))
 |[],v,b,_,hb=>by rw[List.nil_append,ZU,if_pos hb]
 |c::t,v,b,h,hb=>by rw[List.cons_append,ZU,h c (by simp),cutWord_rest t v b (fun x hx=>h x (by simp[hx])) hb];rfl
theorem head_append (u v:Bs) (hu:u≠[]):(u++v).head? = u.head?:=by
 cases u with
 |nil=>exact(hu rfl).elim
 |cons c t=>rfl
theorem last_append (u v:Bs) (hv:v≠[]):(u++v).getLast? = v.getLast?:=by
 rw[List.getLast?_append]
 cases h:v.getLast? with
 |none=>exact(hv (List.getLast?_eq_none_iff.1 h)).elim
 |some x=>rfl
theorem instruction_at (a u b v c:Bs) (ha:Blanks a) (hu:∀x∈u,blank x=false) (hu0:u≠[]) (hb:Blanks b) (hb0:b≠[]) (hv:Tight v) (hv0:v≠[]) (hc:Blanks c) (op:Op) (hop:find u=some op) :
  instruction (a++u++b++v++c)=(operands op.kind (split 44 v)).map fun l=>⟨op,l⟩:=by
 have ht:trim (a++u++b++v++c)=u++b++v:=by
  have:=trim_pad a (u++b++v) c ha ⟨by rw[List.append_assoc,head_append u _ hu0];exact fun x hx=>hu x (List.mem_of_mem_head? hx),by rw[last_append _ v hv0];exact hv.2⟩ hc
  simpa [List.append_assoc] using this
 have hw:ZU (u++b++v)=(u,v):=by
  cases b with
  |nil=>exact(hb0 rfl).elim
  |cons x t=>
   rw[List.append_assoc,List.cons_append,cutWord_rest u _ x hu (hb x (by simp))]
   have:=trim_pad (x::t) v [] hb hv blanks_nil
   rw[List.append_nil]at this
   rw[←List.cons_append,this]
 unfold instruction
 rw[ht,hw]
 simp only[hu0,hv0,if_false,hop,Option.bind_some]
theorem instruction_word (a u c:Bs) (ha:Blanks a) (hu:∀x∈u,blank x=false) (hu0:u≠[]) (hc:Blanks c) (op:Op) (hop:find u=some op) :
  instruction (a++u++c)=(operands op.kind []).map fun l=>⟨op,l⟩:=by
 unfold instruction
 rw[trim_pad a u c ha (tight_all u hu) hc,cutWord_word u hu]
 simp only[hu0,if_false,hop,Option.bind_some,if_true]
theorem readLine_bare (x r:Bs) (hx:∀c∈x,c≠58∧c≠59) (hr:r=[]∨∃t,r=59::t):readLine (x++r)=(instruction x).map fun i=>⟨[],i⟩:=by
 have h1:(split 59 (x++r)).headD []=x:=by
  rcases hr with rfl|⟨t,rfl⟩
  ·rw[List.append_nil,split_none 59 x (fun c hc=>(hx c hc).2)];rfl
  ·rw[split_at 59 x t (fun c hc=>(hx c hc).2)];rfl
 unfold readLine
 rw[h1,split_none 58 x (fun c hc=>(hx c hc).1)]
def decAux:Nat→Nat→Bs→Bs
 |0,_,acc=>acc
 |f+1,n,acc=>if n=0 then acc else decAux f (n / 10) ((48+n % 10).toUInt8::acc)
def dec (n:Nat):Bs:=decAux n (n / 10) [(48+n % 10).toUInt8]
theorem dig_val (d:Nat) (h:d<10):digitVal (48+d).toUInt8=d∧blank (48+d).toUInt8=false∧(48+d).toUInt8≠44∧(48+d).toUInt8≠58∧(48+d).toUInt8≠59∧(48+d).toUInt8≠10∧(48+d).toUInt8≠45∧(48+d).toUInt8≠36∧letter (48+d).toUInt8=false∧digit (48+d).toUInt8=true:=by
 have:d=0∨d=1∨d=2∨d=3∨d=4∨d=5∨d=6∨d=7∨d=8∨d=9:=by omega
 rcases this with rfl|rfl|rfl|rfl|rfl|rfl|rfl|rfl|rfl|rfl <;> decide
def Digs (s:Bs):Prop:=∀c∈s,∃d,d<10∧c=(48+d).toUInt8
theorem decAux_digs:∀(f n:Nat) (acc:Bs),Digs acc→Digs (decAux f n acc)
 |0,_,_,h=>h
 |f+1,n,acc,h=>by
  unfold decAux
  split
  ·exact h
  ·exact decAux_digs f _ _ (fun c hc=>by
    rcases List.mem_cons.1 hc with rfl|hc
    ·exact⟨n % 10,by omega,rfl⟩
    ·exact h c hc)
theorem dec_digs (n:Nat):Digs (dec n):=decAux_digs _ _ _ (fun c hc=>by
 rw[List.mem_singleton]at hc;subst hc;exact⟨n % 10,by omega,rfl⟩)
theorem decAux_val:∀(f n:Nat) (acc:Bs),n≤f→∀a,QY 10 a (decAux f n acc)=QY 10 (a*10^((decAux f n acc).length-acc.length)+n) acc
 |0,n,acc,h,a=>by
  obtain rfl:n=0:=by omega
  simp[decAux]
 |f+1,n,acc,h,a=>by
  unfold decAux
  split
  ·rename_i e;subst e;simp
  ·rename_i e
   have ih:=decAux_val f (n / 10) ((48+n % 10).toUInt8::acc) (by omega) a
   have hl:((48+n % 10).toUInt8::acc).length≤(decAux f (n / 10) ((48+n % 10).toUInt8::acc)).length:=by
    clear ih
    generalize (48+n % 10).toUInt8::acc=z
    generalize n / 10=y
    have key:∀(f y:Nat) (z:Bs),z.length≤(decAux f y z).length:=by
     intro f
     induction f with
     |zero=>intro y z;exact Nat.le_refl _
     |succ f ih=>
      intro y z
      unfold decAux
      split
      ·exact Nat.le_refl _
      ·have:=ih (y / 10) ((48+y % 10).toUInt8::z)
       rw[List.length_cons]at this;omega
    exact key f y z
   rw[ih]
   generalize decAux f (n / 10) ((48+n % 10).toUInt8::acc)=D at hl ⊢
   rw[List.length_cons]at hl ⊢
   rw[QY,(dig_val (n % 10) (by omega)).1,if_pos (by omega)]
   congr 1
   rw[show D.length-acc.length=(D.length-(acc.length+1))+1 by omega,Nat.pow_succ]
   generalize 10^(D.length-(acc.length+1))=P
   have h1:=Nat.div_add_mod n 10
   rw[Nat.add_mul,Nat.mul_assoc]
   omega
theorem dec_val (n:Nat):QY 10 0 (dec n)=some n:=by
 unfold dec
 rw[decAux_val n (n / 10) _ (by omega),Nat.zero_mul,Nat.zero_add,QY,(dig_val (n % 10) (by omega)).1,if_pos (by omega),QY]
 congr 1
 omega
theorem decAux_len:∀(f n k:Nat) (acc:Bs),n<10^k→(decAux f n acc).length≤acc.length+k
 |0,_,_,_,_=>by simp[decAux]
 |f+1,n,k,acc,h=>by
  unfold decAux
  split
  ·omega
  ·cases k with
   |zero=>simp at h;omega
   |succ k=>
    have:=decAux_len f (n / 10) k ((48+n % 10).toUInt8::acc) (by rw[Nat.pow_succ]at h;omega)
    rw[List.length_cons]at this
    omega
theorem dec_len (n k:Nat) (h:n<10^(k+1)):(dec n).length≤k+1:=by
 have:=decAux_len n (n / 10) k [(48+n % 10).toUInt8] (by rw[Nat.pow_succ]at h;omega)
 rw[List.length_singleton]at this
 unfold dec;omega
theorem dec_pos (n:Nat):dec n≠[]:=by
 intro e
 have h:=dec_val n
 rw[e]at h
 simp only[QY,Option.some.injEq]at h
 subst h
 simp[dec,decAux]at e
theorem number_dec (n:Nat) (h:n<10^8):number (dec n)=some (n:Int):=by
 have hd:=dec_digs n
 have hl:=dec_len n 7 h
 have hp:=dec_pos n
 have hv:=dec_val n
 unfold number
 generalize dec n=s at *
 cases s with
 |nil=>exact(hp rfl).elim
 |cons c t=>
  obtain⟨d,hd10,rfl⟩:=hd c (by simp)
  have hdv:=dig_val d hd10
  have e1:ZB 45 ((48+d).toUInt8::t)=((48+d).toUInt8::t,false):=by rw[ZB,if_neg hdv.2.2.2.2.2.2.1]
  have e2:ZB 36 ((48+d).toUInt8::t)=((48+d).toUInt8::t,false):=by rw[ZB,if_neg hdv.2.2.2.2.2.2.2.1]
  simp only[e1,e2]
  rw[if_pos ⟨by simp,hl⟩]
  simp only[Bool.false_eq_true,if_false,hv]
  rfl
theorem digs_not (s:Bs) (h:Digs s):∀c∈s,blank c=false∧c≠44∧c≠58∧c≠59∧c≠10:=fun c hc=>by
 obtain⟨d,hd,rfl⟩:=h c hc
 have:=dig_val d hd
 exact⟨this.2.1,this.2.2.1,this.2.2.2.1,this.2.2.2.2.1,this.2.2.2.2.2.1⟩
theorem digs_noName (s:Bs) (h:Digs s):ZT s=false:=by
 unfold ZT
 cases s with
 |nil=>rfl
 |cons c t=>
  obtain⟨d,hd,rfl⟩:=h c (by simp)
  have hv:=dig_val d hd
  have hlt:(48+d).toUInt8.toNat<128:=by
   have:d=0∨d=1∨d=2∨d=3∨d=4∨d=5∨d=6∨d=7∨d=8∨d=9:=by omega
   rcases this with rfl|rfl|rfl|rfl|rfl|rfl|rfl|rfl|rfl|rfl <;> decide
  have hs:QU ((48+d).toUInt8::t)=1:=by simp only[QU];rw[if_pos hlt]
  rw[List.length_cons]
  simp only[nameCount,hs,hv.2.2.2.2.2.2.2.2.1]
  simp
structure Body where
 u:Bs
 xs:List Bs
 ins:Ins
def plainSign (c:UInt8):Bool:=!(blank c)&&c != 44&&c != 58&&c != 59&&c != 10
def ropsAll:List Int→List Bs→Option (List Opr)
 |[],[]=>some []
 |r::rs,t::ts=>(QR r t).bind fun o=>(ropsAll rs ts).map (o::·)
 |_,_=>none
structure BodyOk (b:Body):Prop where
 u0:b.u≠[]
 us:∀c∈b.u,plainSign c=true
 xs0:∀x∈b.xs,x≠[]
 xss:∀x∈b.xs,∀c∈x,plainSign c=true
 op:find b.u=some b.ins.op
 oprs:ropsAll (roles b.ins.op.kind b.xs.length) b.xs=some b.ins.oprs
 may:Q9 b.ins=true
 org:b.ins.op.kind≠11
theorem ZW {c:UInt8} (h:plainSign c=true):blank c=false∧c≠44∧c≠58∧c≠59∧c≠10:=by
 simp[plainSign]at h
 exact⟨h.1.1.1.1,h.1.1.1.2,h.1.1.2,h.1.2,h.2⟩
def Laid (b:Body) (t:Bs):Prop:=(b.xs=[]∧t=b.u)∨(∃x g,b.xs=[x]∧Blanks g∧g≠[]∧t=b.u++g++x)∨(∃x y g p q,b.xs=[x,y]∧Blanks g∧g≠[]∧Blanks p∧Blanks q∧t=b.u++g++(x++p++44::(q++y)))
theorem operands_one (k:Int) (x:Bs) (hx:∀c∈x,plainSign c=true):operands k (split 44 x)=ropsAll (roles k 1) [x]:=by
 rw[split_none 44 x (fun c hc=>(ZW (hx c hc)).2.1)]
 unfold operands
 rw[show [x].length=1 from rfl]
 match roles k 1 with
 |[]=>rfl
 |[r]=>simp only[ZG,ropsAll,trim_tight x (tight_all x fun c hc=>(ZW (hx c hc)).1)]
 |r::r2::rs=>simp only[ZG,ropsAll,trim_tight x (tight_all x fun c hc=>(ZW (hx c hc)).1)]
theorem blank_comma:blank 44=false:=by decide
theorem operands_two (k:Int) (x y p q:Bs) (hx:∀c∈x,plainSign c=true) (hy:∀c∈y,plainSign c=true) (hp:Blanks p) (hq:Blanks q):operands k (split 44 (x++p++44::(q++y)))=ropsAll (roles k 2) [x,y]:=by
 have hb:∀c,blank c=true→c≠44:=fun c hc e=>by rw[e,blank_comma]at hc;cases hc
 rw[split_at 44 (x++p) (q++y) (fun c hc=>by
   rcases List.mem_append.1 hc with hc|hc
   ·exact(ZW (hx c hc)).2.1
   ·exact hb c (hp c hc)),
  split_none 44 (q++y) (fun c hc=>by
   rcases List.mem_append.1 hc with hc|hc
   ·exact hb c (hq c hc)
   ·exact(ZW (hy c hc)).2.1)]
 have t1:trim (x++p)=x:=by
  have:=trim_pad [] x p blanks_nil (tight_all x fun c hc=>(ZW (hx c hc)).1) hp
  simpa using this
 have t2:trim (q++y)=y:=by
  have:=trim_pad q y [] hq (tight_all y fun c hc=>(ZW (hy c hc)).1) blanks_nil
  simpa using this
 unfold operands
 rw[show [x++p,q++y].length=2 from rfl]
 match roles k 2 with
 |[]=>rfl
 |[r]=>simp only[ZG,ropsAll,t1]
 |[r,r2]=>simp only[ZG,ropsAll,t1,t2]
 |r::r2::r3::rs=>simp only[ZG,ropsAll,t1,t2]
theorem instr_body (b:Body) (hb:BodyOk b) (a t c:Bs) (ha:Blanks a) (ht:Laid b t) (hc:Blanks c):instruction (a++t++c)=some b.ins:=by
 have hu:∀x∈b.u,blank x=false:=fun x hx=>(ZW (hb.us x hx)).1
 have hins:∀l,l=b.ins.oprs→(⟨b.ins.op,l⟩:Ins)=b.ins:=fun l e=>by subst e;rfl
 have hr:=hb.oprs
 rcases ht with ⟨hx,rfl⟩|⟨x,g,hx,hg,hg0,rfl⟩|⟨x,y,g,p,q,hx,hg,hg0,hp,hq,rfl⟩
 ·rw[instruction_word a b.u c ha hu hb.u0 hc b.ins.op hb.op]
  rw[hx]at hr
  unfold operands
  rw[show (ZG (roles b.ins.op.kind ([]:List Bs).length) [])=ropsAll (roles b.ins.op.kind ([]:List Bs).length) [] by cases roles b.ins.op.kind ([]:List Bs).length <;> rfl,hr]
  rfl
 ·have hxs:=hb.xss x (by rw[hx];simp)
  have h:=instruction_at a b.u g x c ha hu hb.u0 hg hg0 (tight_all x fun c hc=>(ZW (hxs c hc)).1) (hb.xs0 x (by rw[hx];simp)) hc b.ins.op hb.op
  rw[operands_one _ x hxs]at h
  rw[hx]at hr
  rw[show ropsAll (roles b.ins.op.kind 1) [x]=some b.ins.oprs from hr]at h
  simpa [List.append_assoc] using h
 ·have hxs:=hb.xss x (by rw[hx];simp)
  have hys:=hb.xss y (by rw[hx];simp)
  have hx0:=hb.xs0 x (by rw[hx];simp)
  have hy0:=hb.xs0 y (by rw[hx];simp)
  have h:=instruction_at a b.u g (x++p++44::(q++y)) c ha hu hb.u0 hg hg0 ⟨by
    rw[List.append_assoc,head_append x _ hx0]
    exact fun c hc=>(ZW (hxs c (List.mem_of_mem_head? hc))).1,by
    rw[show x++p++44::(q++y)=(x++p++44::q)++y by simp,last_append _ y hy0]
    exact fun c hc=>(ZW (hys c (List.mem_of_mem_getLast? hc))).1⟩ (by simp) hc b.ins.op hb.op
  rw[operands_two _ x y p q hxs hys hp hq]at h
  rw[hx]at hr
  rw[show ropsAll (roles b.ins.op.kind 2) [x,y]=some b.ins.oprs from hr]at h
  simpa [List.append_assoc] using h
theorem blank_marks {c:UInt8} (h:blank c=true):c≠58∧c≠59∧c≠10:=by
 refine⟨?_,?_,?_⟩ <;> rintro rfl <;> exact absurd h (by decide)
theorem laid_signs (b:Body) (hb:BodyOk b) (t:Bs) (ht:Laid b t):∀c∈t,c≠58∧c≠59∧c≠10:=by
 have hu:∀x∈b.u,x≠58∧x≠59∧x≠10:=fun x hx=>(ZW (hb.us x hx)).2.2
 have hbl:∀s:Bs,Blanks s→∀c∈s,c≠58∧c≠59∧c≠10:=fun s hs c hc=>blank_marks (hs c hc)
 rcases ht with ⟨hx,rfl⟩|⟨x,g,hx,hg,hg0,rfl⟩|⟨x,y,g,p,q,hx,hg,hg0,hp,hq,rfl⟩
 ·exact hu
 ·intro c hc
  simp only[List.mem_append]at hc
  rcases hc with (hc|hc)|hc
  ·exact hu c hc
  ·exact hbl g hg c hc
  ·exact(ZW (hb.xss x (by rw[hx];simp) c hc)).2.2
 ·intro c hc
  simp only[List.mem_append,List.mem_cons]at hc
  rcases hc with (hc|hc)|(hc|hc)|rfl|hc|hc
  ·exact hu c hc
  ·exact hbl g hg c hc
  ·exact(ZW (hb.xss x (by rw[hx];simp) c hc)).2.2
  ·exact hbl p hp c hc
  ·decide
  ·exact hbl q hq c hc
  ·exact(ZW (hb.xss y (by rw[hx];simp) c hc)).2.2
def Fresh (ls:List Line):Prop:=ls.Pairwise fun a b=>a.label≠[]→a.label≠b.label
structure Rest where
 tag:Nat
 x:Nat
 y:Nat
def Rest.body:Rest→Body
 |⟨0,_,_⟩=>⟨[110,111,112],[],⟨⟨1,0x4e71,0,0,0⟩,[]⟩⟩
 |⟨1,_,_⟩=>⟨[114,116,115],[],⟨⟨1,0x4e75,0,0,0⟩,[]⟩⟩
 |⟨2,n,_⟩=>⟨[100,115],[dec n],⟨⟨9,0,0,0,0⟩,[⟨[],n⟩]⟩⟩
 |⟨3,a,b⟩=>⟨[109,111,118,101,113],[35::dec a,100::dec b],⟨⟨3,0x7000,0,0,0⟩,[⟨[],a⟩,⟨[],b⟩]⟩⟩
 |⟨4,a,b⟩=>⟨[97,100,100,105],[35::dec a,100::dec b],⟨⟨4,0x0640,0,0,0⟩,[⟨[],a⟩,⟨[],b⟩]⟩⟩
 |⟨_+5,a,b⟩=>⟨[100,99,46,119],[dec a,dec b],⟨⟨7,0,0,0,0⟩,[⟨[],a⟩,⟨[],b⟩]⟩⟩
def jumpTexts:List Bs:=jumpWords++[[106,109,112],[106,115,114]]
def nameTexts:List Bs:=[[97],[95],[195,169,195,169],[120,57],[90],[100,49]]
def formTexts:List Bs:=[[],[46,115],[46,119],[46,108]]
structure ML where
 label:Int
 word:Int
 to:Int
 rest:Rest
def jumpBody (w f t:Nat):Body:=
 let u:=jumpTexts.getD w []++formTexts.getD f []
 ⟨u,[nameTexts.getD t []],⟨(find u).getD ⟨0,0,0,0,0⟩,[⟨nameTexts.getD t [],0⟩]⟩⟩
def ML.body (m:ML) (f:Nat):Body:=if m.word<0 then m.rest.body else jumpBody m.word.toNat f m.to.toNat
def Body.text (b:Body):Bs:=match b.xs with
 |[]=>b.u
 |[x]=>b.u++[32]++x
 |x::y::_=>b.u++[32]++(x++44::y)
def ML.name (m:ML):Bs:=if m.label<0 then [] else nameTexts.getD m.label.toNat []
def ML.text (m:ML) (f:Nat):Bs:=(if m.label<0 then [] else m.name++[58,32])++(m.body f).text
def ML.line (m:ML) (f:Nat):Line:=⟨m.name,(m.body f).ins⟩
theorem readOperand_reg (n:Nat) (hn:n≤7):QR 0 (100::dec n)=some ⟨[],n⟩:=by
 have:n=0∨n=1∨n=2∨n=3∨n=4∨n=5∨n=6∨n=7:=by omega
 rcases this with rfl|rfl|rfl|rfl|rfl|rfl|rfl|rfl <;> rfl
theorem dec_plain (n:Nat):∀c∈dec n,plainSign c=true:=fun c hc=>by
 have:=digs_not _ (dec_digs n) c hc
 simp[plainSign,this.1,this.2]
def formOk (w f:Nat):Bool:=decide (f<4)&&!(decide (16≤w)&&f==1)
theorem body_laid (b:Body) (h:b.xs.length≤2):Laid b b.text:=by
 have hb:Blanks [32]:=by intro c hc;rw[List.mem_singleton]at hc;subst hc;decide
 unfold Laid Body.text
 match e:b.xs,h with
 |[],_=>exact .inl ⟨rfl,rfl⟩
 |[x],_=>exact .inr (.inl ⟨x,[32],rfl,hb,by simp,rfl⟩)
 |[x,y],_=>exact .inr (.inr ⟨x,y,[32],[],[],rfl,hb,by simp,blanks_nil,blanks_nil,by simp⟩)
def linesOf (ps:List (ML×Nat)):List Line:=ps.map fun p=>p.1.line p.2
theorem word_len (n:Int):(QI n).length=2:=rfl
theorem flat_words:∀(os:List Opr),((os.map fun o=>QI o.num).flatten).length=2*os.length
 |[]=>rfl
 |o::os=>by rw[List.map_cons,List.flatten_cons,List.length_append,flat_words os,word_len,List.length_cons];omega
theorem bytes_len (i:Ins) (f a:Int) (h0:0≤f∧f≤2) (hf:i.op.kind=6→f≠0):(bytes i f a).length=(size i f a).toNat:=by
 by_cases h1:i.op.kind=1
 ·simp[bytes,size,h1,word_len]
 by_cases h2:i.op.kind=2
 ·simp[bytes,size,h2,word_len]
 by_cases h3:i.op.kind=3
 ·simp[bytes,size,h3,word_len]
 by_cases h4:i.op.kind=4
 ·simp only[bytes,size,h4]
  unfold addBytes
  cases addsShort (num i 0) <;> simp[word_len]
 by_cases h5:i.op.kind=5
 ·simp only[bytes,size,h5]
  have hff:f=0∨f=1∨f=2:=by omega
  unfold jumpBytes jumpSize
  rcases hff with rfl|rfl|rfl
  ·simp[word_len]
  ·simp[word_len]
  ·by_cases hn:i.op.number=1
   ·have:isCond i.op=false:=by simp[isCond,hn]
    simp[hn,this,longJump,word_len]
   ·cases isCond i.op <;> simp[hn,longJump,word_len]
 by_cases h6:i.op.kind=6
 ·have:=hf h6
  simp only[bytes,size,h6]
  have hff:f=1∨f=2:=by omega
  have hc:isCond i.op=false:=by simp[isCond,h6]
  unfold farBytes jumpSize
  rcases hff with rfl|rfl
  ·simp[word_len]
  ·simp[longJump,word_len,hc]
 by_cases h7:i.op.kind=7
 ·simp only[bytes,size,h7]
  simp only[show ¬((7:Int)=1) by decide,show ¬((7:Int)=2) by decide,show ¬((7:Int)=3) by decide,show ¬((7:Int)=4) by decide,show ¬((7:Int)=5) by decide,show ¬((7:Int)=6) by decide,or_self,if_false,if_true]
  rw[flat_words];omega
 by_cases h8:i.op.kind=8
 ·simp[bytes,size,h8]
 by_cases h9:i.op.kind=9∨i.op.kind=10
 ·have:bytes i f a=List.replicate (size i f a).toNat 0:=by
   unfold bytes
   simp only[h1,h2,h3,h4,h5,h6,h7,h8,h9,if_false,if_true]
  rw[this,List.length_replicate]
 ·have e1:bytes i f a=[]:=by
   unfold bytes
   simp only[h1,h2,h3,h4,h5,h6,h7,h8,h9,if_false]
  have e2:size i f a=0:=by
   have h9':¬i.op.kind=9:=fun e=>h9 (.inl e)
   have h10:¬i.op.kind=10:=fun e=>h9 (.inr e)
   unfold size
   simp only[h1,h2,h3,h4,h5,h6,h7,h8,h9',h10,or_self,if_false]
  rw[e1,e2];rfl
def emptyLine:Line:=⟨[],emptyIns⟩
def L (ps:List (ML×Nat)):List Line:=linesOf ps++[emptyLine]
def ZX (w f:Nat):Op:=(find (jumpTexts.getD w []++formTexts.getD f [])).getD ⟨0,0,0,0,0⟩
def opCheck (w f:Nat):Bool:=(ZX w f).kind==(ZX w 0).kind&&(ZX w f).base==(ZX w 0).base&&(ZX w f).number==(ZX w 0).number&&QN (ZX w f)&&(decide ((ZX w f).kind≠6)||decide (1≤(ZX w f).first))&&decide (0≤(ZX w 0).first)&&decide ((ZX w 0).first≤(ZX w f).first)&&(ZX w 0).last==2&&decide ((ZX w f).first≤2)&&decide ((ZX w f).last≤2)&&(f==0||((ZX w f).first==(f:Int)-1&&(ZX w f).last==(f:Int)-1))
theorem op_checks:∀w,w<18→∀f,f<4→formOk w f=true→opCheck w f=true:=by decide +kernel
theorem op_facts (w:Nat) (hw:w<18) (f:Nat) (hf:f<4) (hk:formOk w f=true):(ZX w f).kind=(ZX w 0).kind∧(ZX w f).base=(ZX w 0).base∧(ZX w f).number=(ZX w 0).number∧QN (ZX w f)=true∧((ZX w f).kind=6→1≤(ZX w f).first)∧0≤(ZX w 0).first∧(ZX w 0).first≤(ZX w f).first∧(ZX w 0).last=2∧(ZX w f).first≤2∧(ZX w f).last≤2∧(f≠0→(ZX w f).first=(f:Int)-1∧(ZX w f).last=(f:Int)-1):=by
 have h:=op_checks w hw f hf hk
 simp only[opCheck,Bool.and_eq_true,Bool.or_eq_true,beq_iff_eq,decide_eq_true_eq]at h
 obtain⟨⟨⟨⟨⟨⟨⟨⟨⟨⟨h1,h2⟩,h3⟩,h4⟩,h5⟩,h6⟩,h7⟩,h8⟩,h9⟩,h10⟩,h11⟩:=h
 exact⟨h1,h2,h3,h4,fun e=>h5.resolve_left (fun n=>n e),h6,h7,h8,h9,h10,fun n=>h11.resolve_left n⟩
def sel {α:Type}:List Bool→List α→List α
 |true::ks,x::xs=>x::sel ks xs
 |false::ks,_::xs=>sel ks xs
 |_,_=>[]
def Out:List Bool→List Line→Prop
 |[],[]=>True
 |k::ks,l::ls=>(k=false→l=emptyLine)∧Out ks ls
 |_,_=>False
def Zero:List Bool→List Int→Prop
 |[],[]=>True
 |k::ks,f::fs=>(k=false→f=0)∧Zero ks fs
 |_,_=>False
theorem Out.len:∀{ks:List Bool} {ls:List Line},Out ks ls→ks.length=ls.length
 |[],[],_=>rfl
 |[],_::_,h=>h.elim
 |_::_,[],h=>h.elim
 |_::ks,_::ls,h=>by simp[Out.len h.2]
theorem Zero.len:∀{ks:List Bool} {ls:List Int},Zero ks ls→ks.length=ls.length
 |[],[],_=>rfl
 |[],_::_,h=>h.elim
 |_::_,[],h=>h.elim
 |_::ks,_::ls,h=>by simp[Zero.len h.2]
theorem sel_len {α β:Type}:∀(ks:List Bool) (xs:List α) (ys:List β),xs.length=ks.length→ys.length=ks.length→(sel ks xs).length=(sel ks ys).length
 |[],[],[],_,_=>rfl
 |true::ks,x::xs,y::ys,h1,h2=>by simp only[sel,List.length_cons];rw[sel_len ks xs ys (by simpa using h1) (by simpa using h2)]
 |false::ks,x::xs,y::ys,h1,h2=>sel_len ks xs ys (by simpa using h1) (by simpa using h2)
 |[],_::_,_,h,_=>by cases h
 |[],[],_::_,_,h=>by cases h
 |_::_,[],_,h,_=>by cases h
 |true::_,_::_,[],_,h=>by cases h
 |false::_,_::_,[],_,h=>by cases h
theorem empty_size (f a:Int):size emptyLine.ins f a=0:=by simp[emptyLine,emptyIns,size]
theorem empty_misses (lines:List Line) (st:List Int) (f a:Int):misses lines st emptyLine f a=false:=by simp[misses,emptyLine,emptyIns,QN]
theorem empty_bytes (lines:List Line) (st:List Int) (f a:Int):bytes (placed lines st emptyLine.ins) f a=[]:=by simp[bytes,placed,emptyLine,emptyIns]
theorem mis_eq (lines lines':List Line) (st st':List Int) (hn:∀o,Q7 lines st o=Q7 lines' st' o) (l:Line) (f a:Int):misses lines st l f a=misses lines' st' l f a:=by unfold misses;rw[hn]
theorem sel_longer (lines lines':List Line) (st st':List Int) (hn:∀o,Q7 lines st o=Q7 lines' st' o):∀(ks:List Bool) (ls:List Line) (fs:List Int) (a:Int),Out ks ls→Zero ks fs →
  longer lines st (sel ks ls) (sel ks fs) (starts a (sel ks ls) (sel ks fs))=sel ks (longer lines' st' ls fs (starts a ls fs))∧Zero ks (longer lines' st' ls fs (starts a ls fs))
 |[],[],[],_,_,_=>⟨by simp[sel,longer],by simp[longer,Zero]⟩
 |[],_::_,_,_,h,_=>h.elim
 |[],[],_::_,_,_,h=>h.elim
 |_::_,[],_,_,h,_=>h.elim
 |_::_,_::_,[],_,_,h=>h.elim
 |true::ks,l::ls,f::fs,a,ho,hz=>by
  have ih:=sel_longer lines lines' st st' hn ks ls fs (a+size l.ins f a) ho.2 hz.2
  simp only[sel,starts,longer,Zero]
  rw[ih.1,mis_eq lines lines' st st' hn]
  exact⟨rfl,fun h=>(by cases h),ih.2⟩
 |false::ks,l::ls,f::fs,a,ho,hz=>by
  have e:=ho.1 rfl
  subst e
  have ih:=sel_longer lines lines' st st' hn ks ls fs a ho.2 hz.2
  simp only[sel,starts,longer,Zero,empty_size,Int.add_zero,empty_misses]
  exact⟨ih.1,fun _=>by simp[hz.1 rfl],ih.2⟩
theorem sel_image (lines lines':List Line) (st st':List Int) (hn:∀o,Q7 lines st o=Q7 lines' st' o):∀(ks:List Bool) (ls:List Line) (fs:List Int) (a:Int),Out ks ls→Zero ks fs →
  image lines st (sel ks ls) (sel ks fs) (starts a (sel ks ls) (sel ks fs))=image lines' st' ls fs (starts a ls fs)
 |[],[],[],_,_,_=>by simp[sel,image]
 |[],_::_,_,_,h,_=>h.elim
 |[],[],_::_,_,_,h=>h.elim
 |_::_,[],_,_,h,_=>h.elim
 |_::_,_::_,[],_,_,h=>h.elim
 |true::ks,l::ls,f::fs,a,ho,hz=>by
  have ih:=sel_image lines lines' st st' hn ks ls fs (a+size l.ins f a) ho.2 hz.2
  simp only[sel,starts,image]
  rw[ih]
  congr 2
  unfold placed
  simp only[hn]
 |false::ks,l::ls,f::fs,a,ho,hz=>by
  have e:=ho.1 rfl
  subst e
  have ih:=sel_image lines lines' st st' hn ks ls fs a ho.2 hz.2
  simp only[sel,starts,image,empty_size,Int.add_zero,empty_bytes,List.nil_append]
  exact ih
theorem sel_place (n:Bs) (hn:n≠[]):∀(ks:List Bool) (ls:List Line) (fs:List Int) (a:Int),Out ks ls→Zero ks fs →
  ((labelAt (sel ks ls) n=none∧labelAt ls n=none)∨∃i j,labelAt (sel ks ls) n=some i∧labelAt ls n=some j∧(starts a (sel ks ls) (sel ks fs)).getD i 0=(starts a ls fs).getD j 0)
 |[],[],[],_,_,_=>.inl ⟨rfl,rfl⟩
 |[],_::_,_,_,h,_=>h.elim
 |[],[],_::_,_,_,h=>h.elim
 |_::_,[],_,_,h,_=>h.elim
 |_::_,_::_,[],_,_,h=>h.elim
 |true::ks,l::ls,f::fs,a,ho,hz=>by
  simp only[sel,labelAt,List.findIdx?_cons,starts]
  cases hl:(l.label==n)
  ·rcases sel_place n hn ks ls fs (a+size l.ins f a) ho.2 hz.2 with ⟨h1,h2⟩|⟨i,j,h1,h2,h3⟩
   ·unfold labelAt at h1 h2
    left;rw[h1,h2];simp
   ·unfold labelAt at h1 h2
    right
    rw[h1,h2]
    exact⟨i+1,j+1,by simp,by simp,by simpa using h3⟩
  ·right
   exact⟨0,0,by simp,by simp,by simp⟩
 |false::ks,l::ls,f::fs,a,ho,hz=>by
  have e:=ho.1 rfl
  subst e
  have hl:(emptyLine.label==n)=false:=by
   cases n with
   |nil=>exact(hn rfl).elim
   |cons c t=>rfl
  simp only[sel,labelAt,List.findIdx?_cons,starts,hl,empty_size,Int.add_zero]
  rcases sel_place n hn ks ls fs a ho.2 hz.2 with ⟨h1,h2⟩|⟨i,j,h1,h2,h3⟩
  ·unfold labelAt at h1 h2
   left;rw[h1,h2];simp
  ·unfold labelAt at h1 h2
   right
   rw[h1,h2]
   exact⟨i,j+1,by simp,by simp,by simpa using h3⟩
theorem sel_inj:∀(ks:List Bool) (fs gs:List Int),Zero ks fs→Zero ks gs→sel ks fs=sel ks gs→fs=gs
 |[],[],[],_,_,_=>rfl
 |[],_::_,_,h,_,_=>h.elim
 |[],[],_::_,_,h,_=>h.elim
 |_::_,[],_,h,_,_=>h.elim
 |_::_,_::_,[],_,h,_=>h.elim
 |true::ks,f::fs,g::gs,h1,h2,h=>by
  simp only[sel,List.cons.injEq]at h
  rw[h.1,sel_inj ks fs gs h1.2 h2.2 h.2]
 |false::ks,f::fs,g::gs,h1,h2,h=>by
  rw[h1.1 rfl,h2.1 rfl,sel_inj ks fs gs h1.2 h2.2 h]
theorem sel_map {α β:Type} (g:α→β):∀(ks:List Bool) (xs:List α),sel ks (xs.map g)=(sel ks xs).map g
 |[],_=>by cases ‹List α› <;> rfl
 |true::ks,[]=>rfl
 |false::ks,[]=>rfl
 |true::ks,x::xs=>by simp only[List.map_cons,sel];rw[sel_map g ks xs]
 |false::ks,x::xs=>by simp only[List.map_cons,sel];rw[sel_map g ks xs]
theorem first_zero:∀(ks:List Bool) (ls:List Line),Out ks ls→Zero ks (Q5 ls)
 |[],[],_=>trivial
 |[],_::_,h=>h.elim
 |_::_,[],h=>h.elim
 |k::ks,l::ls,h=>⟨fun e=>by rw[h.1 e];rfl,first_zero ks ls h.2⟩
theorem sel_mem {α:Type}:∀(ks:List Bool) (xs:List α) (x:α),x∈sel ks xs→x∈xs
 |true::ks,y::xs,x,h=>by
  simp only[sel,List.mem_cons]at h
  rcases h with rfl|h
  ·simp
  ·exact List.mem_cons_of_mem _ (sel_mem ks xs x h)
 |false::ks,y::xs,x,h=>List.mem_cons_of_mem _ (sel_mem ks xs x h)
 |[],_,x,h=>by simp[sel]at h
 |true::_,[],x,h=>by simp[sel]at h
 |false::_,[],x,h=>by simp[sel]at h
theorem out_mem:∀(ks:List Bool) (ls:List Line),Out ks ls→∀l∈ls,l∈sel ks ls∨l=emptyLine
 |[],[],_,l,h=>by cases h
 |[],_::_,h,_,_=>h.elim
 |_::_,[],h,_,_=>h.elim
 |k::ks,x::ls,h,l,hl=>by
  rcases List.mem_cons.1 hl with rfl|hl
  ·cases k
   ·exact .inr (h.1 rfl)
   ·exact .inl (by simp[sel])
  ·rcases out_mem ks ls h.2 l hl with h1|h1
   ·cases k
    ·exact .inl h1
    ·exact .inl (by simp[sel,h1])
   ·exact .inr h1
end Go.Proofs.YtegiloiojloaoaaGreatDoor.Strd
