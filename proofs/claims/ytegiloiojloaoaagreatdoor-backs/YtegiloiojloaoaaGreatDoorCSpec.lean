/- The program's answers as plain functions on lists of bytes. -/
set_option linter.unusedVariables false
set_option linter.unusedSimpArgs false
namespace Go.Proofs.YtegiloiojloaoaaGreatDoor.Strd

abbrev Bs := List UInt8

/-- A blank. -/
def blank (c : UInt8) : Bool := c == 32 || c == 9
def trimL (s : Bs) : Bs := s.dropWhile blank
def trim (s : Bs) : Bs := (trimL (trimL s).reverse).reverse

/-- A text cut at each such byte. -/
def split (m : UInt8) : Bs → List Bs
  | [] => [[]]
  | c :: t => if c = m then [] :: split m t else
    match split m t with
    | [] => [[c]]
    | h :: r => (c :: h) :: r

/-- How many bytes the first sign has; 0: it is none of UTF-8. -/
def contB (c : UInt8) : Bool := 128 ≤ c.toNat && c.toNat < 192
def signLen : Bs → Nat
  | [] => 0
  | a :: t =>
    let n := a.toNat
    if n < 128 then 1
    else if 194 ≤ n ∧ n < 224 then
      match t with
      | b :: _ => if contB b then 2 else 0
      | _ => 0
    else if 224 ≤ n ∧ n < 240 then
      match t with
      | b :: c :: _ => if contB b && contB c && (n != 224 || 160 ≤ b.toNat) && (n != 237 || b.toNat < 160) then 3 else 0
      | _ => 0
    else if 240 ≤ n ∧ n < 245 then
      match t with
      | b :: c :: d :: _ => if contB b && contB c && contB d && (n != 240 || 144 ≤ b.toNat) && (n != 244 || b.toNat < 144) then 4 else 0
      | _ => 0
    else 0

def letter (c : UInt8) : Bool := (97 ≤ c && c ≤ 122) || (65 ≤ c && c ≤ 90) || c == 95
def digit (c : UInt8) : Bool := 48 ≤ c && c ≤ 57

/-- How many signs of a name; none: there is one that may not be. -/
def nameCount : Nat → Bool → Bs → Option Nat
  | _, _, [] => some 0
  | 0, _, _ :: _ => none
  | f + 1, first, c :: t =>
    let k := signLen (c :: t)
    if k = 0 ∨ (k = 1 ∧ letter c = false ∧ (digit c = false ∨ first = true)) then none
    else (nameCount f false (t.drop (k - 1))).map (· + 1)
def isName (s : Bs) : Bool := match nameCount s.length true s with
  | some n => decide (1 ≤ n) && decide (n ≤ 20)
  | none => false

def digitVal (c : UInt8) : Nat := if digit c then c.toNat - 48 else if 97 ≤ c && c ≤ 102 then c.toNat - 87 else 99
def digitsVal (base : Nat) : Nat → Bs → Option Nat
  | acc, [] => some acc
  | acc, c :: t => if digitVal c < base then digitsVal base (acc * base + digitVal c) t else none
def cutHead (c : UInt8) : Bs → Bs × Bool
  | [] => ([], false)
  | d :: t => if d = c then (t, true) else (d :: t, false)
def number (s : Bs) : Option Int :=
  let p := cutHead 45 s
  let q := cutHead 36 p.1
  if 1 ≤ q.1.length ∧ q.1.length ≤ 8 then
    (digitsVal (if q.2 then 16 else 10) 0 q.1).map fun v => if p.2 then -(v : Int) else v
  else none

/-- Kinds: 0 Empty, 1 Plain, 2 Pair, 3 Quick, 4 AddValue, 5 Jump, 6 FarJump, 7 Words, 8 Bytes, 9 Space, 10 Align, 11 Org. -/
structure Op where
  kind : Int
  base : Int
  number : Int
  first : Int
  last : Int

structure Opr where
  name : Bs
  num : Int
structure Ins where
  op : Op
  oprs : List Opr
structure Line where
  label : Bs
  ins : Ins

def fixedWords : List (Bs × Int × Int) := [
  ([110,111,112], 1, 0x4e71), ([114,116,115], 1, 0x4e75), ([109,111,118,101], 2, 0x3000), ([97,100,100], 2, 0xd040), ([115,117,98], 2, 0x9040), ([99,109,112], 2, 0xb040),
  ([109,111,118,101,113], 3, 0x7000), ([97,100,100,105], 4, 0x0640), ([100,99,46,119], 7, 0), ([100,99,46,98], 8, 0), ([100,115], 9, 0), ([97,108,105,103,110], 10, 0), ([111,114,103], 11, 0)]
def jumpWords : List Bs := [[98,114,97],[98,115,114],[98,104,105],[98,108,115],[98,99,99],[98,99,115],[98,110,101],[98,101,113],[98,118,99],[98,118,115],[98,112,108],[98,109,105],[98,103,101],[98,108,116],[98,103,116],[98,108,101]]
def farWords : List (Bs × Int) := [([106,109,112], 0x4ef8), ([106,115,114], 0x4eb8)]

def endsWith (s e : Bs) : Bool := e.isSuffixOf s
def cutForm (w : Bs) : Bs × Int × Int :=
  if endsWith w [46,115] then (w.take (w.length - 2), 0, 0)
  else if endsWith w [46,119] then (w.take (w.length - 2), 1, 1)
  else if endsWith w [46,108] then (w.take (w.length - 2), 2, 2)
  else (w, 0, 2)
def jumpOp (n f l : Int) : Op := ⟨5, 0x6000 + 0x100 * n, n, f, l⟩
def farOp (b f l : Int) : Op := ⟨6, b, 0, f, l⟩
def findIdx (l : List Bs) (w : Bs) : Option Nat := l.findIdx? (· == w)
def find (w : Bs) : Option Op :=
  match fixedWords.find? (fun r => r.1 == w) with
  | some r => some ⟨r.2.1, r.2.2, 0, 0, 0⟩
  | none =>
    let (stem, f, l) := cutForm w
    match findIdx jumpWords stem with
    | some n => some (jumpOp n f l)
    | none =>
      if l = 0 then none
      else match farWords.find? (fun r => r.1 == stem) with
      | some r => some (farOp r.2 (max f 1) l)
      | none => none

/-- Roles: 0 Register, 1 Value, 2 Number, 3 Place. -/
def roles (kind : Int) (count : Nat) : List Int :=
  if kind = 2 then [0, 0]
  else if kind = 3 ∨ kind = 4 then [1, 0]
  else if kind = 5 ∨ kind = 6 then [3]
  else if kind = 7 ∨ kind = 8 then List.replicate (min (max count 1) 8) 3
  else if kind = 9 ∨ kind = 10 ∨ kind = 11 then [2]
  else []
def mark (role : Int) : Bs := if role = 0 then [100] else if role = 1 then [35] else []
def stripPrefix (s p : Bs) : Option Bs := if p.isPrefixOf s then some (s.drop p.length) else none
def isDigit1 (s : Bs) : Bool := match s with | [c] => digit c | _ => false
def readOperand (role : Int) (text : Bs) : Option Opr :=
  if role = 3 ∧ isName text = true then some ⟨text, 0⟩
  else match stripPrefix text (mark role) with
  | none => none
  | some d => if role = 0 ∧ isDigit1 d = false then none else (number d).map fun n => ⟨[], n⟩
def readOperands : List Int → List Bs → Option (List Opr)
  | [], [] => some []
  | r :: rs, t :: ts => (readOperand r (trim t)).bind fun o => (readOperands rs ts).map (o :: ·)
  | _, _ => none
def operands (kind : Int) (texts : List Bs) : Option (List Opr) := readOperands (roles kind texts.length) texts
def cutWord : Bs → Bs × Bs
  | [] => ([], [])
  | c :: t => if blank c then ([], trim (c :: t)) else ((c :: (cutWord t).1), (cutWord t).2)
def emptyIns : Ins := ⟨⟨0,0,0,0,0⟩, []⟩
def instruction (text : Bs) : Option Ins :=
  let (word, rest) := cutWord (trim text)
  if word = [] then some emptyIns
  else (find word).bind fun op => (operands op.kind (if rest = [] then [] else split 44 rest)).map fun l => ⟨op, l⟩
def labelName (text : Bs) : Option Bs :=
  let name := trim text
  if isName name = true ∧ text.drop (text.length - name.length) = name then some name else none
def readLine (text : Bs) : Option Line :=
  match split 58 ((split 59 text).headD []) with
  | [a] => (instruction a).map fun i => ⟨[], i⟩
  | [a, b] => (instruction b).bind fun i => (labelName a).map fun l => ⟨l, i⟩
  | _ => none

def within (n lo hi : Int) : Bool := decide (lo ≤ n) && decide (n ≤ hi)
def isOdd (n : Int) : Bool := n % 2 != 0
def isPlace (n : Int) : Bool := within n 0 0xfffffe && !isOdd n
def isPow (n : Int) : Bool := n == 2 || n == 4 || n == 8 || n == 16 || n == 32 || n == 64 || n == 128 || n == 256
def allows (kind n : Int) : Bool :=
  if kind = 3 then within n (-0x80) 0x7f
  else if kind = 4 ∨ kind = 7 then within n (-0x8000) 0xffff
  else if kind = 8 then within n (-0x80) 0xff
  else if kind = 9 then within n 0 0x400
  else if kind = 10 then isPow n
  else if kind = 11 then isPlace n
  else true
def numbersOk (kind : Int) : List Int → List Opr → Bool
  | r :: rs, o :: os => (if o.name ≠ [] then true else if r = 0 then decide (o.num ≤ 7) else allows kind o.num) && numbersOk kind rs os
  | _, _ => true
def numbersMayBe (i : Ins) : Bool := numbersOk i.op.kind (roles i.op.kind i.oprs.length) i.oprs

/-- The reader: org, lines so far, begun. -/
structure Rd where
  org : Int
  lines : List Line
  begun : Bool
def hasLabel (lines : List Line) (n : Bs) : Bool := n != [] && lines.any (fun l => l.label == n)
def add (r : Rd) (text : Bs) : Rd × Int :=
  match readLine text with
  | none => (r, 1)
  | some l =>
    if hasLabel r.lines l.label then (r, 3)
    else if numbersMayBe l.ins = false then (r, 4)
    else
      let begun := r.begun || l.label != []
      if l.ins.op.kind = 11 ∧ begun = true then (r, 5)
      else (⟨if l.ins.op.kind = 11 then (l.ins.oprs.headD ⟨[],0⟩).num else r.org, r.lines ++ [l], begun || decide (l.ins.op.kind ≠ 0)⟩, 0)
def addAll : Nat → Rd → List Bs → Rd × Nat × Int
  | _, r, [] => (r, 0, 0)
  | k, r, t :: ts => let p := add r t; if p.2 = 0 then addAll (k + 1) p.1 ts else (p.1, k + 1, p.2)
/-- The source read: the lines, or the line and the error. -/
def readSource (s : Bs) : Rd × Nat × Int :=
  if s.length > 4000 then (⟨0, [], false⟩, 0, 7) else addAll 0 ⟨0, [], false⟩ (split 10 s)

def num (i : Ins) (k : Nat) : Int := (i.oprs.getD k ⟨[], 0⟩).num
def isJump (o : Op) : Bool := o.kind == 5 || o.kind == 6
def isCond (o : Op) : Bool := o.kind == 5 && decide (o.number > 1)
def addsShort (v : Int) : Bool := within v 1 8
def jumpSize (o : Op) (form : Int) : Int := if form = 0 then 2 else if form = 1 then 4 else if isCond o then 8 else 6
def size (i : Ins) (form addr : Int) : Int :=
  let k := i.op.kind
  if k = 1 ∨ k = 2 ∨ k = 3 then 2
  else if k = 4 then (if addsShort (num i 0) then 2 else 4)
  else if k = 5 ∨ k = 6 then jumpSize i.op form
  else if k = 7 then 2 * i.oprs.length
  else if k = 8 then i.oprs.length
  else if k = 9 then num i 0
  else if k = 10 then (-addr) % (num i 0)
  else 0
def fits (o : Op) (form addr target : Int) : Bool :=
  if isPlace target = false ∨ isOdd addr = true then false
  else if form = 2 then true
  else if o.kind = 6 then decide (target ≤ 0x7fff)
  else if form = 0 then within (target - addr - 2) (-0x80) 0x7f && (target - addr - 2) != 0
  else within (target - addr - 2) (-0x8000) 0x7fff

/-- The label's line. -/
def labelAt (lines : List Line) (n : Bs) : Option Nat := lines.findIdx? (fun l => l.label == n)
def known (lines : List Line) (n : Bs) : Bool := n == [] || lines.any (fun l => l.label == n)
def firstUnknown (lines : List Line) : Nat :=
  match lines.findIdx? (fun l => l.ins.oprs.any fun o => !known lines o.name) with
  | some k => k + 1
  | none => 0
/-- The addresses of the lines and of the end. -/
def starts : Int → List Line → List Int → List Int
  | a, l :: ls, f :: fs => a :: starts (a + size l.ins f a) ls fs
  | a, _, _ => [a]
def placeOf (lines : List Line) (st : List Int) (n : Bs) : Int := st.getD ((labelAt lines n).getD 0) 0
def numberOf (lines : List Line) (st : List Int) (o : Opr) : Int := if o.name = [] then o.num else placeOf lines st o.name
def misses (lines : List Line) (st : List Int) (l : Line) (f a : Int) : Bool :=
  isJump l.ins.op && !fits l.ins.op f a (numberOf lines st (l.ins.oprs.headD ⟨[], 0⟩))
/-- One round: the forms made longer. -/
def longer (lines : List Line) (st : List Int) : List Line → List Int → List Int → List Int
  | l :: ls, f :: fs, a :: as => (if f < l.ins.op.last ∧ misses lines st l f a = true then f + 1 else f) :: longer lines st ls fs as
  | _, _, _ => []
def settle (org : Int) (lines : List Line) : Nat → List Int → List Int
  | 0, fs => fs
  | n + 1, fs => let gs := longer lines (starts org lines fs) lines fs (starts org lines fs); if gs = fs then fs else settle org lines n gs
def firstForms (lines : List Line) : List Int := lines.map (·.ins.op.first)
def layForms (org : Int) (lines : List Line) : List Int := settle org lines (2 * lines.length + 1) (firstForms lines)
def firstMiss (lines : List Line) (st : List Int) : Nat → List Line → List Int → List Int → Nat
  | k, l :: ls, f :: fs, a :: as => if misses lines st l f a then k + 1 else firstMiss lines st (k + 1) ls fs as
  | _, _, _, _ => 0
def overflows (lines : List Line) (st : List Int) (l : Line) : Bool := l.ins.oprs.any fun o => decide (o.name ≠ []) && !allows l.ins.op.kind (numberOf lines st o)
def firstOver (lines : List Line) (st : List Int) : Nat :=
  match lines.findIdx? (overflows lines st) with
  | some k => k + 1
  | none => 0

def wordBs (n : Int) : Bs := [((n / 256) % 256).toNat.toUInt8, (n % 256).toNat.toUInt8]
def byteB (n : Int) : UInt8 := (n % 256).toNat.toUInt8
def longJump (base target : Int) : Bs := wordBs (base + 1) ++ wordBs (target / 65536) ++ wordBs target
/-- The opposite of a condition. -/
def opp (n : Int) : Int := if n % 2 = 0 then n + 1 else n - 1
def jumpBytes (i : Ins) (form addr : Int) : Bs :=
  let t := num i 0
  let by' := t - addr - 2
  if form = 0 then wordBs (i.op.base + by' % 256)
  else if form = 1 then wordBs i.op.base ++ wordBs by'
  else if i.op.number = 1 then longJump 0x4eb8 t
  else (if isCond i.op then wordBs (0x6000 + 0x100 * opp i.op.number + 6) else []) ++ longJump 0x4ef8 t
def addBytes (i : Ins) : Bs := if addsShort (num i 0) then wordBs (0x5040 + 0x200 * (num i 0 % 8) + num i 1) else wordBs (i.op.base + num i 1) ++ wordBs (num i 0)
def farBytes (i : Ins) (form : Int) : Bs := if form = 1 then wordBs i.op.base ++ wordBs (num i 0) else longJump i.op.base (num i 0)
/-- The bytes of an instruction whose operands are numbers. -/
def bytes (i : Ins) (form addr : Int) : Bs :=
  let k := i.op.kind
  if k = 1 then wordBs i.op.base
  else if k = 2 then wordBs (i.op.base + 0x200 * num i 1 + num i 0)
  else if k = 3 then wordBs (i.op.base + 0x200 * num i 1 + num i 0 % 256)
  else if k = 4 then addBytes i
  else if k = 5 then jumpBytes i form addr
  else if k = 6 then farBytes i form
  else if k = 7 then (i.oprs.map fun o => wordBs o.num).flatten
  else if k = 8 then i.oprs.map fun o => byteB o.num
  else if k = 9 ∨ k = 10 then List.replicate (size i form addr).toNat 0
  else []
def placed (lines : List Line) (st : List Int) (i : Ins) : Ins := ⟨i.op, i.oprs.map fun o => ⟨[], numberOf lines st o⟩⟩
def image (lines : List Line) (st : List Int) : List Line → List Int → List Int → Bs
  | l :: ls, f :: fs, a :: as => bytes (placed lines st l.ins) f a ++ image lines st ls fs as
  | _, _, _ => []
/-- Forms, addresses; the line of an error; the error. -/
def lay (org : Int) (lines : List Line) : (List Int × List Int) × Nat × Int :=
  if firstUnknown lines > 0 then (([], []), firstUnknown lines, 2)
  else
    let fs := layForms org lines
    let st := starts org lines fs
    let m := firstMiss lines st 0 lines fs st
    if m > 0 then (([], []), m, 6)
    else if firstOver lines st > 0 then (([], []), firstOver lines st, 4)
    else if st.getD lines.length 0 - 1 > 0xfffffe then (([], []), 0, 7)
    else ((fs, st), 0, 0)
def assemble (s : Bs) : (Int × Bs) × Nat × Int :=
  let r := readSource s
  if r.2.2 ≠ 0 then ((0, []), r.2.1, r.2.2)
  else
    let p := lay r.1.org r.1.lines
    if p.2.2 ≠ 0 then ((0, []), p.2.1, p.2.2)
    else ((r.1.org, image r.1.lines p.1.2 r.1.lines p.1.1 p.1.2), 0, 0)
end Go.Proofs.YtegiloiojloaoaaGreatDoor.Strd

set_option linter.unusedVariables false
set_option linter.unusedSimpArgs false
namespace Go.Proofs.YtegiloiojloaoaaGreatDoor.Strd

theorem st_len : ∀ (a : Int) (ls : List Line) (fs : List Int), fs.length = ls.length → (starts a ls fs).length = ls.length + 1
  | _, [], [], _ => rfl
  | _, [], _ :: _, h => by cases h
  | _, _ :: _, [], h => by cases h
  | a, l :: ls, f :: fs, h => by simp only [starts, List.length_cons]; rw [st_len _ ls fs (by simpa using h)]
theorem st_zero (a : Int) (ls : List Line) (fs : List Int) : (starts a ls fs).getD 0 0 = a := by
  cases ls <;> cases fs <;> rfl
theorem st_step : ∀ (a : Int) (ls : List Line) (fs : List Int) (k : Nat) (h1 : k < ls.length), fs.length = ls.length → (starts a ls fs).getD (k + 1) 0 = (starts a ls fs).getD k 0 + size ls[k].ins (fs.getD k 0) ((starts a ls fs).getD k 0)
  | _, [], _, _, h1, _ => by cases h1
  | _, _ :: _, [], _, _, h2 => by cases h2
  | a, l :: ls, f :: fs, 0, _, _ => by
    simp only [starts, List.getD_cons_succ, List.getD_cons_zero, List.getElem_cons_zero]
    exact st_zero _ _ _
  | a, l :: ls, f :: fs, k + 1, h1, h2 => by
    simp only [starts, List.getD_cons_succ, List.getElem_cons_succ]
    exact st_step _ ls fs k (by simpa using h1) (by simpa using h2)
theorem lng_len (lines : List Line) (st : List Int) : ∀ (ls : List Line) (fs bs : List Int), fs.length = ls.length → ls.length ≤ bs.length → (longer lines st ls fs bs).length = ls.length
  | [], [], _, _, _ => by simp [longer]
  | [], _ :: _, _, h, _ => by cases h
  | _ :: _, [], _, h, _ => by cases h
  | _ :: _, _ :: _, [], _, h => by simp at h
  | l :: ls, f :: fs, a :: bs, h1, h2 => by
    simp only [longer, List.length_cons]
    rw [lng_len lines st ls fs bs (by simpa using h1) (by simpa using h2)]
theorem lng_at (lines : List Line) (st : List Int) : ∀ (ls : List Line) (fs bs : List Int) (k : Nat) (h1 : k < ls.length), fs.length = ls.length → ls.length ≤ bs.length → (longer lines st ls fs bs).getD k 0 = if fs.getD k 0 < ls[k].ins.op.last ∧ misses lines st ls[k] (fs.getD k 0) (bs.getD k 0) = true then fs.getD k 0 + 1 else fs.getD k 0
  | [], _, _, _, h, _, _ => by cases h
  | _ :: _, [], _, _, _, h, _ => by cases h
  | _ :: _, _ :: _, [], _, _, _, h => by simp at h
  | l :: ls, f :: fs, a :: bs, 0, _, _, _ => by simp only [longer, List.getD_cons_zero, List.getElem_cons_zero]
  | l :: ls, f :: fs, a :: bs, k + 1, h, h1, h2 => by
    simp only [longer, List.getD_cons_succ, List.getElem_cons_succ]
    exact lng_at lines st ls fs bs k (by simpa using h) (by simpa using h1) (by simpa using h2)

/-- Lines without align, whose jumps go to labels. -/
structure Simp (lines : List Line) : Prop where
  len : lines.length ≤ 4001
  jumps : ∀ l ∈ lines, isJump l.ins.op = true → ∃ n j, l.ins.oprs = [⟨n, 0⟩] ∧ n ≠ [] ∧ labelAt lines n = some j
  plain : ∀ l ∈ lines, isJump l.ins.op = false → (∀ f a, size l.ins f a = size l.ins 0 0) ∧ 0 ≤ size l.ins 0 0 ∧ size l.ins 0 0 ≤ 1024 ∧ size l.ins 0 0 % 2 = 0 ∧ ∀ o ∈ l.ins.oprs, o.name = []
  forms : ∀ l ∈ lines, 0 ≤ l.ins.op.first ∧ l.ins.op.first ≤ 2 ∧ l.ins.op.last ≤ 2
def P (lines : List Line) (F : List Int) (k : Nat) : Int := (starts 0 lines F).getD k 0
def Rng (F : List Int) : Prop := ∀ k, 0 ≤ F.getD k 0 ∧ F.getD k 0 ≤ 2
def Le (F G : List Int) : Prop := ∀ k : Nat, F.getD k 0 ≤ G.getD k 0
theorem jump_size (o : Op) (f : Int) (h0 : 0 ≤ f) (h2 : f ≤ 2) : 2 ≤ jumpSize o f ∧ jumpSize o f ≤ 8 ∧ jumpSize o f % 2 = 0 := by
  unfold jumpSize
  split
  · decide
  · split
    · decide
    · split <;> decide
theorem jump_mono (o : Op) (f g : Int) (h0 : 0 ≤ f) (h : f ≤ g) (h2 : g ≤ 2) : jumpSize o f ≤ jumpSize o g := by
  have hf : f = 0 ∨ f = 1 ∨ f = 2 := by omega
  have hg : g = 0 ∨ g = 1 ∨ g = 2 := by omega
  unfold jumpSize
  rcases hf with rfl | rfl | rfl <;> rcases hg with rfl | rfl | rfl <;> cases isCond o <;> first | omega | simp
theorem size_jump (i : Ins) (h : isJump i.op = true) (f a : Int) : size i f a = jumpSize i.op f := by
  have h' : i.op.kind = 5 ∨ i.op.kind = 6 := by simpa [isJump] using h
  unfold size
  rcases h' with e | e <;> simp [e]
theorem sz_facts {lines : List Line} (hS : Simp lines) (l : Line) (hl : l ∈ lines) (f a : Int) (h0 : 0 ≤ f) (h2 : f ≤ 2) : 0 ≤ size l.ins f a ∧ size l.ins f a ≤ 1024 ∧ size l.ins f a % 2 = 0 := by
  cases hj : isJump l.ins.op
  · obtain ⟨h1, h3, h4, h5, _⟩ := hS.plain l hl hj
    rw [h1]; exact ⟨h3, h4, h5⟩
  · rw [size_jump _ hj]
    have := jump_size l.ins.op f h0 h2
    exact ⟨by omega, by omega, by omega⟩
theorem sz_mono {lines : List Line} (hS : Simp lines) (l : Line) (hl : l ∈ lines) (f g a b : Int) (h0 : 0 ≤ f) (h : f ≤ g) (h2 : g ≤ 2) : size l.ins f a ≤ size l.ins g b ∧ (size l.ins f a = 0 → size l.ins g b = 0) := by
  cases hj : isJump l.ins.op
  · obtain ⟨h1, _⟩ := hS.plain l hl hj
    rw [h1 f, h1 g]; exact ⟨Int.le_refl _, id⟩
  · rw [size_jump _ hj, size_jump _ hj]
    have h3 := jump_mono l.ins.op f g h0 h h2
    have h4 := jump_size l.ins.op f h0 (by omega)
    exact ⟨h3, fun e => by omega⟩
theorem P_step {lines : List Line} {F : List Int} (k : Nat) (hk : k < lines.length) (hF : F.length = lines.length) : P lines F (k + 1) = P lines F k + size lines[k].ins (F.getD k 0) (P lines F k) := st_step 0 lines F k hk hF
theorem P_zero (lines : List Line) (F : List Int) : P lines F 0 = 0 := st_zero _ _ _
theorem P_facts {lines : List Line} (hS : Simp lines) {F : List Int} (hF : F.length = lines.length) (hR : Rng F) : ∀ k, k ≤ lines.length → 0 ≤ P lines F k ∧ P lines F k ≤ 1024 * k ∧ P lines F k % 2 = 0
  | 0, _ => by rw [P_zero]; decide
  | k + 1, h => by
    have ih := P_facts hS hF hR k (by omega)
    have h1 := sz_facts hS lines[k] (List.getElem_mem _) (F.getD k 0) (P lines F k) (hR k).1 (hR k).2
    rw [P_step k (by omega) hF]
    omega
theorem P_mono {lines : List Line} (hS : Simp lines) {F G : List Int} (hF : F.length = lines.length) (hG : G.length = lines.length) (hRF : Rng F) (hRG : Rng G) (hle : Le F G) (j : Nat) : ∀ d, j + d ≤ lines.length → 0 ≤ P lines F (j + d) - P lines F j ∧ P lines F (j + d) - P lines F j ≤ P lines G (j + d) - P lines G j ∧ (P lines F (j + d) = P lines F j → P lines G (j + d) = P lines G j)
  | 0, _ => by simp
  | d + 1, h => by
    have ih := P_mono hS hF hG hRF hRG hle j d (by omega)
    have hd : j + d < lines.length := by omega
    have h1 := sz_mono hS lines[j + d] (List.getElem_mem _) (F.getD (j + d) 0) (G.getD (j + d) 0) (P lines F (j + d)) (P lines G (j + d)) (hRF _).1 (hle _) (hRG _).2
    have h2 := sz_facts hS lines[j + d] (List.getElem_mem _) (F.getD (j + d) 0) (P lines F (j + d)) (hRF _).1 (hRF _).2
    rw [show j + (d + 1) = (j + d) + 1 by omega, P_step (j + d) hd hF, P_step (j + d) hd hG]
    generalize size lines[j + d].ins (F.getD (j + d) 0) (P lines F (j + d)) = sf at *
    generalize size lines[j + d].ins (G.getD (j + d) 0) (P lines G (j + d)) = sg at *
    refine ⟨by omega, by omega, fun e => ?_⟩
    have e1 : P lines F (j + d) = P lines F j := by omega
    have e2 : sf = 0 := by omega
    have := ih.2.2 e1
    have := h1.2 e2
    omega
/-- Does line k miss? -/
def Miss (lines : List Line) (F : List Int) (k : Nat) : Prop := ∃ h : k < lines.length, misses lines (starts 0 lines F) lines[k] (F.getD k 0) (P lines F k) = true
def Valid (lines : List Line) (F : List Int) : Prop := ∀ k, ¬ Miss lines F k
theorem labelAt_lt' (lines : List Line) (n : Bs) (j : Nat) (h : labelAt lines n = some j) : j < lines.length := by
  unfold labelAt at h
  exact (List.findIdx?_eq_some_iff_getElem.1 h).1
theorem miss_jump {lines : List Line} (hS : Simp lines) (F : List Int) (k : Nat) (hk : k < lines.length) (hj : isJump lines[k].ins.op = true) : ∃ j, j < lines.length ∧ (Miss lines F k ↔ fits lines[k].ins.op (F.getD k 0) (P lines F k) (P lines F j) = false) ∧ ∀ st, numberOf lines st (lines[k].ins.oprs.headD ⟨[], 0⟩) = st.getD j 0 := by
  obtain ⟨n, j, ho, hn, hl⟩ := hS.jumps lines[k] (List.getElem_mem _) hj
  have hnum : ∀ st, numberOf lines st (lines[k].ins.oprs.headD ⟨[], 0⟩) = st.getD j 0 := by
    intro st
    rw [ho, List.headD_cons]
    unfold numberOf placeOf
    rw [if_neg hn, hl]; rfl
  refine ⟨j, labelAt_lt' _ _ _ hl, ?_, hnum⟩
  have he : misses lines (starts 0 lines F) lines[k] (F.getD k 0) (P lines F k) = !fits lines[k].ins.op (F.getD k 0) (P lines F k) (P lines F j) := by
    unfold misses
    rw [hj, hnum]; rfl
  constructor
  · rintro ⟨_, h⟩
    rw [he] at h
    simpa using h
  · intro h
    exact ⟨hk, by rw [he, h]; rfl⟩
theorem not_miss_plain {lines : List Line} (F : List Int) (k : Nat) (hk : k < lines.length) (hj : isJump lines[k].ins.op = false) : ¬ Miss lines F k := by
  rintro ⟨_, h⟩
  unfold misses at h
  rw [hj] at h
  simp at h
theorem place_even (a : Int) (h0 : 0 ≤ a) (h1 : a ≤ 0xfffffe) (h2 : a % 2 = 0) : isPlace a = true ∧ isOdd a = false := by
  simp [isPlace, isOdd, within, h0, h1, h2]
theorem fits_rest (o : Op) (f a t : Int) (ht : isPlace t = true) (ha : isOdd a = false) : fits o f a t = (if f = 2 then true else if o.kind = 6 then decide (t ≤ 0x7fff) else if f = 0 then within (t - a - 2) (-0x80) 0x7f && (t - a - 2) != 0 else within (t - a - 2) (-0x8000) 0x7fff) := by
  unfold fits
  rw [if_neg (by rw [ht, ha]; simp)]
/-- What fits in a layout fits in each that has no longer forms, if its own is the same. -/
theorem fits_mono {lines : List Line} (hS : Simp lines) {F G : List Int} (hF : F.length = lines.length) (hG : G.length = lines.length) (hRF : Rng F) (hRG : Rng G) (hle : Le F G) (k : Nat) (he : F.getD k 0 = G.getD k 0) (hm : Miss lines F k) : Miss lines G k := by
  obtain ⟨hk, hm'⟩ := hm
  cases hj : isJump lines[k].ins.op
  · exact (not_miss_plain F k hk hj ⟨hk, hm'⟩).elim
  · obtain ⟨j, hjl, hiff, hnum⟩ := miss_jump hS F k hk hj
    obtain ⟨j', hjl', hiff', hnum'⟩ := miss_jump hS G k hk hj
    obtain rfl : j' = j := by
      have h1 := hnum ((List.range (lines.length)).map fun (i : Nat) => (i : Int))
      have h2 := hnum' ((List.range (lines.length)).map fun (i : Nat) => (i : Int))
      rw [h1] at h2
      rw [List.getD_eq_getElem?_getD, List.getD_eq_getElem?_getD, List.getElem?_eq_getElem (by simpa using hjl), List.getElem?_eq_getElem (by simpa using hjl')] at h2
      simp at h2
      omega
    have hf := hiff.1 ⟨hk, hm'⟩
    rw [hiff']
    have hl := hS.len
    have a1 := P_facts hS hF hRF k (by omega)
    have a2 := P_facts hS hF hRF j' (by omega)
    have b1 := P_facts hS hG hRG k (by omega)
    have b2 := P_facts hS hG hRG j' (by omega)
    have p1 := place_even _ a2.1 (by omega) a2.2.2
    have p2 := place_even _ b2.1 (by omega) b2.2.2
    have q1 := place_even _ a1.1 (by omega) a1.2.2
    have q2 := place_even _ b1.1 (by omega) b1.2.2
    rw [fits_rest _ _ _ _ p1.1 q1.2] at hf
    rw [fits_rest _ _ _ _ p2.1 q2.2, ← he]
    have m0 := P_mono hS hF hG hRF hRG hle 0 j' (by omega)
    rw [Nat.zero_add, P_zero, P_zero] at m0
    split at hf
    · cases hf
    · rename_i h2
      rw [if_neg h2]
      split at hf
      · rename_i h6
        rw [if_pos h6]
        simp only [decide_eq_false_iff_not] at hf ⊢
        omega
      · rename_i h6
        rw [if_neg h6]
        by_cases hfw : k < j'
        · have m1 := P_mono hS hF hG hRF hRG hle (k + 1) (j' - (k + 1)) (by omega)
          rw [show k + 1 + (j' - (k + 1)) = j' by omega] at m1
          rw [P_step k hk hF, P_step k hk hG, size_jump _ hj, size_jump _ hj, he] at m1
          rw [he] at hf h2 ⊢
          have js := jump_size lines[k].ins.op (G.getD k 0) (hRG k).1 (hRG k).2
          have jz : G.getD k 0 = 0 → jumpSize lines[k].ins.op (G.getD k 0) = 2 := fun e => by rw [e]; rfl
          generalize jumpSize lines[k].ins.op (G.getD k 0) = s at *
          split at hf
          · rename_i h0
            rw [if_pos h0]
            have := jz h0
            simp only [within, Bool.and_eq_false_iff, decide_eq_false_iff_not, bne_eq_false_iff_eq] at hf ⊢
            omega
          · rename_i h0
            rw [if_neg h0]
            simp only [within, Bool.and_eq_false_iff, decide_eq_false_iff_not] at hf ⊢
            omega
        · have m1 := P_mono hS hF hG hRF hRG hle j' (k - j') (by omega)
          rw [show j' + (k - j') = k by omega] at m1
          rw [he] at hf ⊢
          split at hf
          · rename_i h0
            rw [if_pos h0]
            simp only [within, Bool.and_eq_false_iff, decide_eq_false_iff_not, bne_eq_false_iff_eq] at hf ⊢
            omega
          · rename_i h0
            rw [if_neg h0]
            simp only [within, Bool.and_eq_false_iff, decide_eq_false_iff_not] at hf ⊢
            omega
def lng (lines : List Line) (F : List Int) : List Int := longer lines (starts 0 lines F) lines F (starts 0 lines F)
theorem lng_length {lines : List Line} {F : List Int} (hF : F.length = lines.length) : (lng lines F).length = lines.length := lng_len _ _ _ _ _ hF (by rw [st_len _ _ _ hF]; omega)
theorem lng_get {lines : List Line} {F : List Int} (hF : F.length = lines.length) (k : Nat) (hk : k < lines.length) : (Miss lines F k ∧ F.getD k 0 < lines[k].ins.op.last ∧ (lng lines F).getD k 0 = F.getD k 0 + 1) ∨ (¬ (Miss lines F k ∧ F.getD k 0 < lines[k].ins.op.last) ∧ (lng lines F).getD k 0 = F.getD k 0) := by
  have h := lng_at lines (starts 0 lines F) lines F (starts 0 lines F) k hk hF (by rw [st_len _ _ _ hF]; omega)
  unfold lng
  rw [h]
  split
  · rename_i hc
    exact .inl ⟨⟨hk, hc.2⟩, hc.1, rfl⟩
  · rename_i hc
    exact .inr ⟨fun h => hc ⟨h.2, h.1.2⟩, rfl⟩
theorem getD_over (F : List Int) (k : Nat) (h : F.length ≤ k) : F.getD k 0 = 0 := by
  rw [List.getD_eq_getElem?_getD, List.getElem?_eq_none h]; rfl
theorem lng_rng {lines : List Line} (hS : Simp lines) {F : List Int} (hF : F.length = lines.length) (hR : Rng F) : Rng (lng lines F) := by
  intro k
  by_cases hk : k < lines.length
  · have := hR k
    have := hS.forms lines[k] (List.getElem_mem _)
    rcases lng_get hF k hk with ⟨_, h1, h2⟩ | ⟨_, h2⟩ <;> rw [h2] <;> omega
  · rw [getD_over _ _ (by rw [lng_length hF]; omega)]; decide
theorem lng_ge {lines : List Line} {F : List Int} (hF : F.length = lines.length) : Le F (lng lines F) := by
  intro k
  by_cases hk : k < lines.length
  · rcases lng_get hF k hk with ⟨_, _, h2⟩ | ⟨_, h2⟩ <;> rw [h2] <;> omega
  · rw [getD_over F _ (by omega), getD_over (lng lines F) _ (by rw [lng_length hF]; omega)]; exact Int.le_refl _
theorem lng_le {lines : List Line} (hS : Simp lines) {F G : List Int} (hF : F.length = lines.length) (hG : G.length = lines.length) (hRF : Rng F) (hRG : Rng G) (hle : Le F G) (hv : Valid lines G) : Le (lng lines F) G := by
  intro k
  by_cases hk : k < lines.length
  · rcases lng_get hF k hk with ⟨hm, _, h2⟩ | ⟨_, h2⟩
    · have h3 := hle k
      by_cases he : F.getD k 0 = G.getD k 0
      · exact (hv k (fits_mono hS hF hG hRF hRG hle k he hm)).elim
      · omega
    · rw [h2]; exact hle k
  · rw [getD_over _ _ (by rw [lng_length hF]; omega)]; exact (hRG k).1
theorem le_trans' {F G H : List Int} (h1 : Le F G) (h2 : Le G H) : Le F H := fun k => Int.le_trans (h1 k) (h2 k)
theorem le_antisymm' {F G : List Int} (hl : F.length = G.length) (h1 : Le F G) (h2 : Le G F) : F = G := by
  apply List.ext_getElem hl
  intro i ha hb
  have e1 := h1 i
  have e2 := h2 i
  rw [List.getD_eq_getElem?_getD, List.getD_eq_getElem?_getD, List.getElem?_eq_getElem ha, List.getElem?_eq_getElem hb] at e1 e2
  simp only [Option.getD_some] at e1 e2
  omega
def room : List Line → List Int → Nat
  | l :: ls, f :: fs => (l.ins.op.last - f).toNat + room ls fs
  | _, _ => 0
theorem lng_room (lines : List Line) (st : List Int) : ∀ (ls : List Line) (fs bs : List Int), fs.length = ls.length → ls.length ≤ bs.length → room ls (longer lines st ls fs bs) ≤ room ls fs ∧ (longer lines st ls fs bs ≠ fs → room ls (longer lines st ls fs bs) < room ls fs)
  | [], [], _, _, _ => ⟨Nat.le_refl _, fun h => absurd (by simp [longer]) h⟩
  | [], _ :: _, _, h, _ => by cases h
  | _ :: _, [], _, h, _ => by cases h
  | _ :: _, _ :: _, [], _, h => by simp at h
  | l :: ls, f :: fs, a :: bs, h1, h2 => by
    obtain ⟨i1, i2⟩ := lng_room lines st ls fs bs (by simpa using h1) (by simpa using h2)
    simp only [longer]
    by_cases hc : f < l.ins.op.last ∧ misses lines st l f a = true
    · rw [if_pos hc]
      simp only [room]
      have : (l.ins.op.last - (f + 1)).toNat + 1 = (l.ins.op.last - f).toNat := by omega
      exact ⟨by omega, fun _ => by omega⟩
    · rw [if_neg hc]
      simp only [room]
      refine ⟨by omega, fun h => ?_⟩
      have : longer lines st ls fs bs ≠ fs := fun e => h (by rw [e])
      have := i2 this
      omega
theorem first_room : ∀ (ls : List Line), (∀ l ∈ ls, 0 ≤ l.ins.op.first ∧ l.ins.op.last ≤ 2) → room ls (ls.map (·.ins.op.first)) ≤ 2 * ls.length
  | [], _ => by simp [room]
  | l :: ls, h => by
    have ih := first_room ls fun x hx => h x (by simp [hx])
    have h1 := h l (by simp)
    simp only [List.map_cons, room, List.length_cons]
    omega
structure Settled (lines : List Line) (F R : List Int) : Prop where
  len : R.length = lines.length
  rng : Rng R
  ge : Le F R
  fix : lng lines R = R
  least : ∀ G, G.length = lines.length → Rng G → Le F G → Valid lines G → Le R G
theorem settle_settled {lines : List Line} (hS : Simp lines) : ∀ (n : Nat) (F : List Int), F.length = lines.length → Rng F → room lines F < n → Settled lines F (settle 0 lines n F)
  | 0, _, _, _, h => by omega
  | n + 1, F, hF, hR, hr => by
    unfold settle
    simp only
    split
    · rename_i he
      exact ⟨hF, hR, fun k => Int.le_refl _, he, fun G _ _ h _ => h⟩
    · rename_i he
      have hlt := (lng_room lines (starts 0 lines F) lines F (starts 0 lines F) hF (by rw [st_len _ _ _ hF]; omega)).2 he
      have ih := settle_settled hS n (lng lines F) (lng_length hF) (lng_rng hS hF hR) (by unfold lng; omega)
      exact ⟨ih.len, ih.rng, le_trans' (lng_ge hF) ih.ge, ih.fix, fun G hG hRG hle hv => ih.least G hG hRG (lng_le hS hF hG hR hRG hle hv) hv⟩
theorem first_rng {lines : List Line} (hS : Simp lines) : Rng (firstForms lines) := by
  intro k
  by_cases hk : k < lines.length
  · have := hS.forms lines[k] (List.getElem_mem _)
    rw [List.getD_eq_getElem?_getD]
    simp only [firstForms, List.getElem?_map, List.getElem?_eq_getElem hk, Option.map_some, Option.getD_some]
    omega
  · rw [getD_over _ _ (by simp [firstForms]; omega)]; decide
theorem lay_settled {lines : List Line} (hS : Simp lines) : Settled lines (firstForms lines) (layForms 0 lines) := by
  unfold layForms
  exact settle_settled hS _ _ (by simp [firstForms]) (first_rng hS) (by
    have := first_room lines (fun l hl => by have := hS.forms l hl; omega)
    unfold firstForms; omega)
/-- Nothing misses where each jump may have its longest form. -/
theorem settled_valid {lines : List Line} (hS : Simp lines) {F R : List Int} (h : Settled lines F R) (k : Nat) (hl : ∀ hk : k < lines.length, isJump lines[k].ins.op = true → lines[k].ins.op.last = 2) : ¬ Miss lines R k := by
  intro hm
  have hk := hm.1
  cases hj : isJump lines[k].ins.op
  · exact not_miss_plain R k hk hj hm
  · have h2 := hl hk hj
    have hr := h.rng k
    rcases lng_get h.len k hk with ⟨_, _, h3⟩ | ⟨h3, _⟩
    · rw [h.fix] at h3; omega
    · have hf2 : R.getD k 0 = 2 := by
        by_cases e : R.getD k 0 < lines[k].ins.op.last
        · exact (h3 ⟨hm, e⟩).elim
        · omega
      obtain ⟨j, hjl, hiff, _⟩ := miss_jump hS R k hk hj
      have hf := hiff.1 hm
      have hl := hS.len
      have a1 := P_facts hS h.len h.rng k (by omega)
      have a2 := P_facts hS h.len h.rng j (by omega)
      rw [fits_rest _ _ _ _ (place_even _ a2.1 (by omega) a2.2.2).1 (place_even _ a1.1 (by omega) a1.2.2).2, if_pos hf2] at hf
      cases hf
theorem first_miss (lines : List Line) (st : List Int) : ∀ (n : Nat) (ls : List Line) (fs bs : List Int), fs.length = ls.length → ls.length ≤ bs.length → ((firstMiss lines st n ls fs bs = 0 ∧ ∀ k (hk : k < ls.length), misses lines st ls[k] (fs.getD k 0) (bs.getD k 0) = false) ∨ (0 < firstMiss lines st n ls fs bs ∧ ∃ k, ∃ hk : k < ls.length, misses lines st ls[k] (fs.getD k 0) (bs.getD k 0) = true))
  | n, [], [], _, _, _ => .inl ⟨by simp [firstMiss], fun k hk => by cases hk⟩
  | _, [], _ :: _, _, h, _ => by cases h
  | _, _ :: _, [], _, h, _ => by cases h
  | _, _ :: _, _ :: _, [], _, h => by simp at h
  | n, l :: ls, f :: fs, a :: bs, h1, h2 => by
    simp only [firstMiss]
    cases hm : misses lines st l f a
    · rw [if_neg (by simp)]
      rcases first_miss lines st (n + 1) ls fs bs (by simpa using h1) (by simpa using h2) with ⟨e, h⟩ | ⟨e, k, hk, h⟩
      · refine .inl ⟨e, fun k hk => ?_⟩
        cases k with
        | zero => simpa using hm
        | succ k => simpa using h k (by simpa using hk)
      · exact .inr ⟨e, k + 1, by simpa using hk, by simpa using h⟩
    · rw [if_pos rfl]
      exact .inr ⟨by omega, 0, by simp, by simpa using hm⟩
theorem lay_simp {lines : List Line} (hS : Simp lines) : (Valid lines (layForms 0 lines) ∧ lay 0 lines = ((layForms 0 lines, starts 0 lines (layForms 0 lines)), 0, 0)) ∨ (¬ Valid lines (layForms 0 lines) ∧ (lay 0 lines).2.2 = 6) := by
  have hU : firstUnknown lines = 0 := by
    unfold firstUnknown
    rw [List.findIdx?_eq_none_iff.2]
    intro l hl
    rw [List.any_eq_false]
    intro o ho
    cases hj : isJump l.ins.op
    · have := (hS.plain l hl hj).2.2.2.2 o ho
      simp [known, this]
    · obtain ⟨n, j, ho', hn, hla⟩ := hS.jumps l hl hj
      rw [ho', List.mem_singleton] at ho
      subst ho
      have : (lines.any fun l => l.label == n) = true := by
        rw [List.any_eq_true]
        have h1 := (List.findIdx?_eq_some_iff_getElem.1 hla)
        obtain ⟨h2, h3, _⟩ := h1
        exact ⟨lines[j], List.getElem_mem _, h3⟩
      simp [known, this]
  have hs := lay_settled hS
  have hO : firstOver lines (starts 0 lines (layForms 0 lines)) = 0 := by
    unfold firstOver
    rw [List.findIdx?_eq_none_iff.2]
    intro l hl
    unfold overflows
    rw [List.any_eq_false]
    intro o ho
    cases hj : isJump l.ins.op
    · have := (hS.plain l hl hj).2.2.2.2 o ho
      simp [this]
    · have h' : l.ins.op.kind = 5 ∨ l.ins.op.kind = 6 := by simpa [isJump] using hj
      have : allows l.ins.op.kind (numberOf lines (starts 0 lines (layForms 0 lines)) o) = true := by
        unfold allows
        rcases h' with e | e <;> simp [e]
      simp [this]
  have hE := P_facts hS hs.len hs.rng lines.length (Nat.le_refl _)
  have hl := hS.len
  unfold lay
  simp only [hU, hO]
  rw [if_neg (by omega)]
  rcases first_miss lines (starts 0 lines (layForms 0 lines)) 0 lines (layForms 0 lines) (starts 0 lines (layForms 0 lines)) hs.len (by rw [st_len _ _ _ hs.len]; omega) with ⟨e, h⟩ | ⟨e, k, hk, h⟩
  · left
    refine ⟨fun k hm => ?_, ?_⟩
    · obtain ⟨hk, hm⟩ := hm
      have := h k hk
      unfold P at hm
      rw [this] at hm
      cases hm
    · rw [e, if_neg (by omega), if_neg (by omega), if_neg (by unfold P at hE; omega)]
  · right
    refine ⟨fun hv => hv k ⟨hk, h⟩, ?_⟩
    rw [if_pos (by omega)]
end Go.Proofs.YtegiloiojloaoaaGreatDoor.Strd

set_option linter.unusedVariables false
set_option linter.unusedSimpArgs false
namespace Go.Proofs.YtegiloiojloaoaaGreatDoor.Strd

theorem split_none (m : UInt8) : ∀ (s : Bs), (∀ c ∈ s, c ≠ m) → split m s = [s]
  | [], _ => rfl
  | c :: t, h => by
    have h1 : c ≠ m := h c (by simp)
    rw [split, if_neg h1, split_none m t (fun x hx => h x (by simp [hx]))]
theorem split_at (m : UInt8) : ∀ (s t : Bs), (∀ c ∈ s, c ≠ m) → split m (s ++ m :: t) = s :: split m t
  | [], t, _ => by rw [List.nil_append, split, if_pos rfl]
  | c :: s, t, h => by
    have h1 : c ≠ m := h c (by simp)
    rw [List.cons_append, split, if_neg h1, split_at m s t (fun x hx => h x (by simp [hx]))]
theorem dropWhile_none {p : UInt8 → Bool} : ∀ (s : Bs), (∀ c ∈ s.head?, p c = false) → s.dropWhile p = s
  | [], _ => rfl
  | c :: t, h => by rw [List.dropWhile_cons, h c (by simp)]; rfl
theorem dropWhile_all {p : UInt8 → Bool} : ∀ (a s : Bs), (∀ c ∈ a, p c = true) → (a ++ s).dropWhile p = s.dropWhile p
  | [], s, _ => rfl
  | c :: a, s, h => by rw [List.cons_append, List.dropWhile_cons, h c (by simp), if_pos rfl]; exact dropWhile_all a s (fun x hx => h x (by simp [hx]))
/-- A text with no blank at its two ends. -/
def Tight (s : Bs) : Prop := (∀ c ∈ s.head?, blank c = false) ∧ (∀ c ∈ s.getLast?, blank c = false)
def Blanks (s : Bs) : Prop := ∀ c ∈ s, blank c = true
theorem trim_pad (a s b : Bs) (ha : Blanks a) (hs : Tight s) (hb : Blanks b) : trim (a ++ s ++ b) = s := by
  unfold trim trimL
  rw [List.append_assoc, dropWhile_all a _ ha]
  by_cases e : s = []
  · subst e
    have h1 : ([] ++ b : Bs).dropWhile blank = [] := by
      have := dropWhile_all (p := blank) b [] hb
      simpa using this
    rw [h1]; rfl
  · rw [dropWhile_none (s ++ b) (by
      cases s with
      | nil => exact (e rfl).elim
      | cons c t => exact hs.1)]
    rw [List.reverse_append, dropWhile_all b.reverse _ (fun c hc => hb c (by simpa using hc)), dropWhile_none s.reverse (by rw [List.head?_reverse]; exact hs.2), List.reverse_reverse]
theorem trim_tight (s : Bs) (hs : Tight s) : trim s = s := by
  have := trim_pad [] s [] (fun c hc => by cases hc) hs (fun c hc => by cases hc)
  simpa using this
theorem tight_all (s : Bs) (h : ∀ c ∈ s, blank c = false) : Tight s :=
  ⟨fun c hc => h c (List.mem_of_mem_head? hc), fun c hc => h c (List.mem_of_mem_getLast? hc)⟩
theorem blanks_nil : Blanks [] := fun c hc => by cases hc
/-- A word, blanks, and a rest. -/
theorem cutWord_word : ∀ (u : Bs), (∀ c ∈ u, blank c = false) → cutWord u = (u, [])
  | [], _ => rfl
  | c :: t, h => by rw [cutWord, h c (by simp), cutWord_word t (fun x hx => h x (by simp [hx]))]; rfl
theorem cutWord_rest : ∀ (u v : Bs) (b : UInt8), (∀ c ∈ u, blank c = false) → blank b = true → cutWord (u ++ b :: v) = (u, trim (b :: v))
  | [], v, b, _, hb => by rw [List.nil_append, cutWord, if_pos hb]
  | c :: t, v, b, h, hb => by rw [List.cons_append, cutWord, h c (by simp), cutWord_rest t v b (fun x hx => h x (by simp [hx])) hb]; rfl
theorem head_append (u v : Bs) (hu : u ≠ []) : (u ++ v).head? = u.head? := by
  cases u with
  | nil => exact (hu rfl).elim
  | cons c t => rfl
theorem last_append (u v : Bs) (hv : v ≠ []) : (u ++ v).getLast? = v.getLast? := by
  rw [List.getLast?_append]
  cases h : v.getLast? with
  | none => exact (hv (List.getLast?_eq_none_iff.1 h)).elim
  | some x => rfl
/-- An instruction: blanks, its word, blanks, its operands, blanks. -/
theorem instruction_at (a u b v c : Bs) (ha : Blanks a) (hu : ∀ x ∈ u, blank x = false) (hu0 : u ≠ []) (hb : Blanks b) (hb0 : b ≠ []) (hv : Tight v) (hv0 : v ≠ []) (hc : Blanks c) (op : Op) (hop : find u = some op) :
    instruction (a ++ u ++ b ++ v ++ c) = (operands op.kind (split 44 v)).map fun l => ⟨op, l⟩ := by
  have ht : trim (a ++ u ++ b ++ v ++ c) = u ++ b ++ v := by
    have := trim_pad a (u ++ b ++ v) c ha ⟨by rw [List.append_assoc, head_append u _ hu0]; exact fun x hx => hu x (List.mem_of_mem_head? hx), by rw [last_append _ v hv0]; exact hv.2⟩ hc
    simpa [List.append_assoc] using this
  have hw : cutWord (u ++ b ++ v) = (u, v) := by
    cases b with
    | nil => exact (hb0 rfl).elim
    | cons x t =>
      rw [List.append_assoc, List.cons_append, cutWord_rest u _ x hu (hb x (by simp))]
      have := trim_pad (x :: t) v [] hb hv blanks_nil
      rw [List.append_nil] at this
      rw [← List.cons_append, this]
  unfold instruction
  rw [ht, hw]
  simp only [hu0, hv0, if_false, hop, Option.bind_some]
theorem instruction_word (a u c : Bs) (ha : Blanks a) (hu : ∀ x ∈ u, blank x = false) (hu0 : u ≠ []) (hc : Blanks c) (op : Op) (hop : find u = some op) :
    instruction (a ++ u ++ c) = (operands op.kind []).map fun l => ⟨op, l⟩ := by
  unfold instruction
  rw [trim_pad a u c ha (tight_all u hu) hc, cutWord_word u hu]
  simp only [hu0, if_false, hop, Option.bind_some, if_true]
/-- A line, with and without a label, and a remark or none behind it. -/
theorem readLine_bare (x r : Bs) (hx : ∀ c ∈ x, c ≠ 58 ∧ c ≠ 59) (hr : r = [] ∨ ∃ t, r = 59 :: t) : readLine (x ++ r) = (instruction x).map fun i => ⟨[], i⟩ := by
  have h1 : (split 59 (x ++ r)).headD [] = x := by
    rcases hr with rfl | ⟨t, rfl⟩
    · rw [List.append_nil, split_none 59 x (fun c hc => (hx c hc).2)]; rfl
    · rw [split_at 59 x t (fun c hc => (hx c hc).2)]; rfl
  unfold readLine
  rw [h1, split_none 58 x (fun c hc => (hx c hc).1)]
theorem readLine_named (n x r : Bs) (hn : ∀ c ∈ n, c ≠ 58 ∧ c ≠ 59) (hx : ∀ c ∈ x, c ≠ 58 ∧ c ≠ 59) (hr : r = [] ∨ ∃ t, r = 59 :: t) : readLine (n ++ 58 :: x ++ r) = (instruction x).bind fun i => (labelName n).map fun l => ⟨l, i⟩ := by
  have hnx : ∀ c ∈ n ++ 58 :: x, c ≠ 59 := by
    intro c hc
    rw [List.mem_append, List.mem_cons] at hc
    rcases hc with hc | rfl | hc
    · exact (hn c hc).2
    · decide
    · exact (hx c hc).2
  have h1 : (split 59 (n ++ 58 :: x ++ r)).headD [] = n ++ 58 :: x := by
    rcases hr with rfl | ⟨t, rfl⟩
    · rw [List.append_nil, split_none 59 _ hnx]; rfl
    · rw [split_at 59 _ t hnx]; rfl
  unfold readLine
  rw [h1, split_at 58 n x (fun c hc => (hn c hc).1), split_none 58 x (fun c hc => (hx c hc).1)]

/-- A number as a text. -/
def decAux : Nat → Nat → Bs → Bs
  | 0, _, acc => acc
  | f + 1, n, acc => if n = 0 then acc else decAux f (n / 10) ((48 + n % 10).toUInt8 :: acc)
def dec (n : Nat) : Bs := decAux n (n / 10) [(48 + n % 10).toUInt8]
theorem dig_val (d : Nat) (h : d < 10) : digitVal (48 + d).toUInt8 = d ∧ blank (48 + d).toUInt8 = false ∧ (48 + d).toUInt8 ≠ 44 ∧ (48 + d).toUInt8 ≠ 58 ∧ (48 + d).toUInt8 ≠ 59 ∧ (48 + d).toUInt8 ≠ 10 ∧ (48 + d).toUInt8 ≠ 45 ∧ (48 + d).toUInt8 ≠ 36 ∧ letter (48 + d).toUInt8 = false ∧ digit (48 + d).toUInt8 = true := by
  have : d = 0 ∨ d = 1 ∨ d = 2 ∨ d = 3 ∨ d = 4 ∨ d = 5 ∨ d = 6 ∨ d = 7 ∨ d = 8 ∨ d = 9 := by omega
  rcases this with rfl | rfl | rfl | rfl | rfl | rfl | rfl | rfl | rfl | rfl <;> decide
/-- All signs of a text are digits. -/
def Digs (s : Bs) : Prop := ∀ c ∈ s, ∃ d, d < 10 ∧ c = (48 + d).toUInt8
theorem decAux_digs : ∀ (f n : Nat) (acc : Bs), Digs acc → Digs (decAux f n acc)
  | 0, _, _, h => h
  | f + 1, n, acc, h => by
    unfold decAux
    split
    · exact h
    · exact decAux_digs f _ _ (fun c hc => by
        rcases List.mem_cons.1 hc with rfl | hc
        · exact ⟨n % 10, by omega, rfl⟩
        · exact h c hc)
theorem dec_digs (n : Nat) : Digs (dec n) := decAux_digs _ _ _ (fun c hc => by
  rw [List.mem_singleton] at hc; subst hc; exact ⟨n % 10, by omega, rfl⟩)
/-- What digits are worth, behind others. -/
theorem decAux_val : ∀ (f n : Nat) (acc : Bs), n ≤ f → ∀ a, digitsVal 10 a (decAux f n acc) = digitsVal 10 (a * 10 ^ ((decAux f n acc).length - acc.length) + n) acc
  | 0, n, acc, h, a => by
    obtain rfl : n = 0 := by omega
    simp [decAux]
  | f + 1, n, acc, h, a => by
    unfold decAux
    split
    · rename_i e; subst e; simp
    · rename_i e
      have ih := decAux_val f (n / 10) ((48 + n % 10).toUInt8 :: acc) (by omega) a
      have hl : ((48 + n % 10).toUInt8 :: acc).length ≤ (decAux f (n / 10) ((48 + n % 10).toUInt8 :: acc)).length := by
        clear ih
        generalize (48 + n % 10).toUInt8 :: acc = z
        generalize n / 10 = y
        have key : ∀ (f y : Nat) (z : Bs), z.length ≤ (decAux f y z).length := by
          intro f
          induction f with
          | zero => intro y z; exact Nat.le_refl _
          | succ f ih =>
            intro y z
            unfold decAux
            split
            · exact Nat.le_refl _
            · have := ih (y / 10) ((48 + y % 10).toUInt8 :: z)
              rw [List.length_cons] at this; omega
        exact key f y z
      rw [ih]
      generalize decAux f (n / 10) ((48 + n % 10).toUInt8 :: acc) = D at hl ⊢
      rw [List.length_cons] at hl ⊢
      rw [digitsVal, (dig_val (n % 10) (by omega)).1, if_pos (by omega)]
      congr 1
      rw [show D.length - acc.length = (D.length - (acc.length + 1)) + 1 by omega, Nat.pow_succ]
      generalize 10 ^ (D.length - (acc.length + 1)) = P
      have h1 := Nat.div_add_mod n 10
      rw [Nat.add_mul, Nat.mul_assoc]
      omega
theorem dec_val (n : Nat) : digitsVal 10 0 (dec n) = some n := by
  unfold dec
  rw [decAux_val n (n / 10) _ (by omega), Nat.zero_mul, Nat.zero_add, digitsVal, (dig_val (n % 10) (by omega)).1, if_pos (by omega), digitsVal]
  congr 1
  omega
theorem decAux_len : ∀ (f n k : Nat) (acc : Bs), n < 10 ^ k → (decAux f n acc).length ≤ acc.length + k
  | 0, _, _, _, _ => by simp [decAux]
  | f + 1, n, k, acc, h => by
    unfold decAux
    split
    · omega
    · cases k with
      | zero => simp at h; omega
      | succ k =>
        have := decAux_len f (n / 10) k ((48 + n % 10).toUInt8 :: acc) (by rw [Nat.pow_succ] at h; omega)
        rw [List.length_cons] at this
        omega
theorem dec_len (n k : Nat) (h : n < 10 ^ (k + 1)) : (dec n).length ≤ k + 1 := by
  have := decAux_len n (n / 10) k [(48 + n % 10).toUInt8] (by rw [Nat.pow_succ] at h; omega)
  rw [List.length_singleton] at this
  unfold dec; omega
theorem dec_pos (n : Nat) : dec n ≠ [] := by
  intro e
  have h := dec_val n
  rw [e] at h
  simp only [digitsVal, Option.some.injEq] at h
  subst h
  simp [dec, decAux] at e
theorem number_dec (n : Nat) (h : n < 10 ^ 8) : number (dec n) = some (n : Int) := by
  have hd := dec_digs n
  have hl := dec_len n 7 h
  have hp := dec_pos n
  have hv := dec_val n
  unfold number
  generalize dec n = s at *
  cases s with
  | nil => exact (hp rfl).elim
  | cons c t =>
    obtain ⟨d, hd10, rfl⟩ := hd c (by simp)
    have hdv := dig_val d hd10
    have e1 : cutHead 45 ((48 + d).toUInt8 :: t) = ((48 + d).toUInt8 :: t, false) := by rw [cutHead, if_neg hdv.2.2.2.2.2.2.1]
    have e2 : cutHead 36 ((48 + d).toUInt8 :: t) = ((48 + d).toUInt8 :: t, false) := by rw [cutHead, if_neg hdv.2.2.2.2.2.2.2.1]
    simp only [e1, e2]
    rw [if_pos ⟨by simp, hl⟩]
    simp only [Bool.false_eq_true, if_false, hv]
    rfl
theorem digs_not (s : Bs) (h : Digs s) : ∀ c ∈ s, blank c = false ∧ c ≠ 44 ∧ c ≠ 58 ∧ c ≠ 59 ∧ c ≠ 10 := fun c hc => by
  obtain ⟨d, hd, rfl⟩ := h c hc
  have := dig_val d hd
  exact ⟨this.2.1, this.2.2.1, this.2.2.2.1, this.2.2.2.2.1, this.2.2.2.2.2.1⟩
theorem digs_noName (s : Bs) (h : Digs s) : isName s = false := by
  unfold isName
  cases s with
  | nil => rfl
  | cons c t =>
    obtain ⟨d, hd, rfl⟩ := h c (by simp)
    have hv := dig_val d hd
    have hlt : (48 + d).toUInt8.toNat < 128 := by
      have : d = 0 ∨ d = 1 ∨ d = 2 ∨ d = 3 ∨ d = 4 ∨ d = 5 ∨ d = 6 ∨ d = 7 ∨ d = 8 ∨ d = 9 := by omega
      rcases this with rfl | rfl | rfl | rfl | rfl | rfl | rfl | rfl | rfl | rfl <;> decide
    have hs : signLen ((48 + d).toUInt8 :: t) = 1 := by simp only [signLen]; rw [if_pos hlt]
    rw [List.length_cons]
    simp only [nameCount, hs, hv.2.2.2.2.2.2.2.2.1]
    simp
end Go.Proofs.YtegiloiojloaoaaGreatDoor.Strd

set_option linter.unusedVariables false
set_option linter.unusedSimpArgs false
namespace Go.Proofs.YtegiloiojloaoaaGreatDoor.Strd

/-- A word and its operands' texts. -/
structure Body where
  u : Bs
  xs : List Bs
  ins : Ins
def plainSign (c : UInt8) : Bool := !(blank c) && c != 44 && c != 58 && c != 59 && c != 10
def ropsAll : List Int → List Bs → Option (List Opr)
  | [], [] => some []
  | r :: rs, t :: ts => (readOperand r t).bind fun o => (ropsAll rs ts).map (o :: ·)
  | _, _ => none
structure BodyOk (b : Body) : Prop where
  u0 : b.u ≠ []
  us : ∀ c ∈ b.u, plainSign c = true
  xs0 : ∀ x ∈ b.xs, x ≠ []
  xss : ∀ x ∈ b.xs, ∀ c ∈ x, plainSign c = true
  op : find b.u = some b.ins.op
  oprs : ropsAll (roles b.ins.op.kind b.xs.length) b.xs = some b.ins.oprs
  may : numbersMayBe b.ins = true
  org : b.ins.op.kind ≠ 11
theorem plain_parts {c : UInt8} (h : plainSign c = true) : blank c = false ∧ c ≠ 44 ∧ c ≠ 58 ∧ c ≠ 59 ∧ c ≠ 10 := by
  simp [plainSign] at h
  exact ⟨h.1.1.1.1, h.1.1.1.2, h.1.1.2, h.1.2, h.2⟩
/-- A body as a text. -/
def Laid (b : Body) (t : Bs) : Prop := (b.xs = [] ∧ t = b.u) ∨ (∃ x g, b.xs = [x] ∧ Blanks g ∧ g ≠ [] ∧ t = b.u ++ g ++ x) ∨ (∃ x y g p q, b.xs = [x, y] ∧ Blanks g ∧ g ≠ [] ∧ Blanks p ∧ Blanks q ∧ t = b.u ++ g ++ (x ++ p ++ 44 :: (q ++ y)))
theorem operands_one (k : Int) (x : Bs) (hx : ∀ c ∈ x, plainSign c = true) : operands k (split 44 x) = ropsAll (roles k 1) [x] := by
  rw [split_none 44 x (fun c hc => (plain_parts (hx c hc)).2.1)]
  unfold operands
  rw [show [x].length = 1 from rfl]
  match roles k 1 with
  | [] => rfl
  | [r] => simp only [readOperands, ropsAll, trim_tight x (tight_all x fun c hc => (plain_parts (hx c hc)).1)]
  | r :: r2 :: rs => simp only [readOperands, ropsAll, trim_tight x (tight_all x fun c hc => (plain_parts (hx c hc)).1)]
theorem blank_comma : blank 44 = false := by decide
theorem operands_two (k : Int) (x y p q : Bs) (hx : ∀ c ∈ x, plainSign c = true) (hy : ∀ c ∈ y, plainSign c = true) (hp : Blanks p) (hq : Blanks q) : operands k (split 44 (x ++ p ++ 44 :: (q ++ y))) = ropsAll (roles k 2) [x, y] := by
  have hb : ∀ c, blank c = true → c ≠ 44 := fun c hc e => by rw [e, blank_comma] at hc; cases hc
  rw [split_at 44 (x ++ p) (q ++ y) (fun c hc => by
      rcases List.mem_append.1 hc with hc | hc
      · exact (plain_parts (hx c hc)).2.1
      · exact hb c (hp c hc)),
    split_none 44 (q ++ y) (fun c hc => by
      rcases List.mem_append.1 hc with hc | hc
      · exact hb c (hq c hc)
      · exact (plain_parts (hy c hc)).2.1)]
  have t1 : trim (x ++ p) = x := by
    have := trim_pad [] x p blanks_nil (tight_all x fun c hc => (plain_parts (hx c hc)).1) hp
    simpa using this
  have t2 : trim (q ++ y) = y := by
    have := trim_pad q y [] hq (tight_all y fun c hc => (plain_parts (hy c hc)).1) blanks_nil
    simpa using this
  unfold operands
  rw [show [x ++ p, q ++ y].length = 2 from rfl]
  match roles k 2 with
  | [] => rfl
  | [r] => simp only [readOperands, ropsAll, t1]
  | [r, r2] => simp only [readOperands, ropsAll, t1, t2]
  | r :: r2 :: r3 :: rs => simp only [readOperands, ropsAll, t1, t2]
theorem instr_body (b : Body) (hb : BodyOk b) (a t c : Bs) (ha : Blanks a) (ht : Laid b t) (hc : Blanks c) : instruction (a ++ t ++ c) = some b.ins := by
  have hu : ∀ x ∈ b.u, blank x = false := fun x hx => (plain_parts (hb.us x hx)).1
  have hins : ∀ l, l = b.ins.oprs → (⟨b.ins.op, l⟩ : Ins) = b.ins := fun l e => by subst e; rfl
  have hr := hb.oprs
  rcases ht with ⟨hx, rfl⟩ | ⟨x, g, hx, hg, hg0, rfl⟩ | ⟨x, y, g, p, q, hx, hg, hg0, hp, hq, rfl⟩
  · rw [instruction_word a b.u c ha hu hb.u0 hc b.ins.op hb.op]
    rw [hx] at hr
    unfold operands
    rw [show (readOperands (roles b.ins.op.kind ([] : List Bs).length) []) = ropsAll (roles b.ins.op.kind ([] : List Bs).length) [] by cases roles b.ins.op.kind ([] : List Bs).length <;> rfl, hr]
    rfl
  · have hxs := hb.xss x (by rw [hx]; simp)
    have h := instruction_at a b.u g x c ha hu hb.u0 hg hg0 (tight_all x fun c hc => (plain_parts (hxs c hc)).1) (hb.xs0 x (by rw [hx]; simp)) hc b.ins.op hb.op
    rw [operands_one _ x hxs] at h
    rw [hx] at hr
    rw [show ropsAll (roles b.ins.op.kind 1) [x] = some b.ins.oprs from hr] at h
    simpa [List.append_assoc] using h
  · have hxs := hb.xss x (by rw [hx]; simp)
    have hys := hb.xss y (by rw [hx]; simp)
    have hx0 := hb.xs0 x (by rw [hx]; simp)
    have hy0 := hb.xs0 y (by rw [hx]; simp)
    have h := instruction_at a b.u g (x ++ p ++ 44 :: (q ++ y)) c ha hu hb.u0 hg hg0 ⟨by
        rw [List.append_assoc, head_append x _ hx0]
        exact fun c hc => (plain_parts (hxs c (List.mem_of_mem_head? hc))).1, by
        rw [show x ++ p ++ 44 :: (q ++ y) = (x ++ p ++ 44 :: q) ++ y by simp, last_append _ y hy0]
        exact fun c hc => (plain_parts (hys c (List.mem_of_mem_getLast? hc))).1⟩ (by simp) hc b.ins.op hb.op
    rw [operands_two _ x y p q hxs hys hp hq] at h
    rw [hx] at hr
    rw [show ropsAll (roles b.ins.op.kind 2) [x, y] = some b.ins.oprs from hr] at h
    simpa [List.append_assoc] using h
theorem blank_marks {c : UInt8} (h : blank c = true) : c ≠ 58 ∧ c ≠ 59 ∧ c ≠ 10 := by
  refine ⟨?_, ?_, ?_⟩ <;> rintro rfl <;> exact absurd h (by decide)
/-- Of a body's text: no sign of it parts lines, labels, remarks. -/
theorem laid_signs (b : Body) (hb : BodyOk b) (t : Bs) (ht : Laid b t) : ∀ c ∈ t, c ≠ 58 ∧ c ≠ 59 ∧ c ≠ 10 := by
  have hu : ∀ x ∈ b.u, x ≠ 58 ∧ x ≠ 59 ∧ x ≠ 10 := fun x hx => (plain_parts (hb.us x hx)).2.2
  have hbl : ∀ s : Bs, Blanks s → ∀ c ∈ s, c ≠ 58 ∧ c ≠ 59 ∧ c ≠ 10 := fun s hs c hc => blank_marks (hs c hc)
  rcases ht with ⟨hx, rfl⟩ | ⟨x, g, hx, hg, hg0, rfl⟩ | ⟨x, y, g, p, q, hx, hg, hg0, hp, hq, rfl⟩
  · exact hu
  · intro c hc
    simp only [List.mem_append] at hc
    rcases hc with (hc | hc) | hc
    · exact hu c hc
    · exact hbl g hg c hc
    · exact (plain_parts (hb.xss x (by rw [hx]; simp) c hc)).2.2
  · intro c hc
    simp only [List.mem_append, List.mem_cons] at hc
    rcases hc with (hc | hc) | (hc | hc) | rfl | hc | hc
    · exact hu c hc
    · exact hbl g hg c hc
    · exact (plain_parts (hb.xss x (by rw [hx]; simp) c hc)).2.2
    · exact hbl p hp c hc
    · decide
    · exact hbl q hq c hc
    · exact (plain_parts (hb.xss y (by rw [hx]; simp) c hc)).2.2

/-- What is added, line by line. -/
def Addable (l : Line) : Prop := numbersMayBe l.ins = true ∧ l.ins.op.kind ≠ 11
def Fresh (ls : List Line) : Prop := ls.Pairwise fun a b => a.label ≠ [] → a.label ≠ b.label
theorem add_ok (r : Rd) (t : Bs) (l : Line) (h : readLine t = some l) (ha : Addable l) (hf : hasLabel r.lines l.label = false) : add r t = (⟨r.org, r.lines ++ [l], r.begun || l.label != [] || decide (l.ins.op.kind ≠ 0)⟩, 0) := by
  unfold add
  rw [h]
  simp only [hf, ha.1, ha.2, false_and, if_false, Bool.false_eq_true, Bool.true_eq_false]
theorem hasLabel_fresh (ls : List Line) (l : Line) (h : ∀ x ∈ ls, x.label ≠ [] → x.label ≠ l.label) : hasLabel ls l.label = false := by
  unfold hasLabel
  by_cases e : l.label = []
  · simp [e]
  · rw [Bool.and_eq_false_iff]
    right
    rw [List.any_eq_false]
    intro x hx
    have := h x hx
    intro e2
    have e3 := eq_of_beq e2
    exact this (by rw [e3]; exact e) e3
theorem addAll_ok : ∀ (ts : List Bs) (ls : List Line) (r : Rd) (k : Nat) (us : List Bs), ts.map readLine = ls.map some → (∀ l ∈ ls, Addable l) → Fresh (r.lines ++ ls) → ∃ b, addAll k r (ts ++ us) = addAll (k + ts.length) ⟨r.org, r.lines ++ ls, b⟩ us
  | [], [], r, k, us, _, _, _ => ⟨r.begun, by simp⟩
  | [], _ :: _, _, _, _, h, _, _ => by cases h
  | _ :: _, [], _, _, _, h, _, _ => by cases h
  | t :: ts, l :: ls, r, k, us, h, ha, hf => by
    simp only [List.map_cons, List.cons.injEq] at h
    have hfr : hasLabel r.lines l.label = false := hasLabel_fresh _ _ (fun x hx => by
      have := List.pairwise_append.1 hf
      exact this.2.2 x hx l (by simp))
    have h1 := add_ok r t l h.1 (ha l (by simp)) hfr
    obtain ⟨b, hb⟩ := addAll_ok ts ls ⟨r.org, r.lines ++ [l], r.begun || l.label != [] || decide (l.ins.op.kind ≠ 0)⟩ (k + 1) us h.2 (fun x hx => ha x (by simp [hx])) (by simpa [List.append_assoc] using hf)
    refine ⟨b, ?_⟩
    rw [List.cons_append, addAll, h1]
    simp only [if_true]
    rw [hb]
    simp only [List.length_cons, List.append_assoc, List.singleton_append]
    rw [show k + 1 + ts.length = k + (ts.length + 1) by omega]
theorem split_lines (us : Bs) : ∀ (ls : List Bs), (∀ l ∈ ls, ∀ c ∈ l, c ≠ 10) → split 10 ((ls.map (· ++ [10])).flatten ++ us) = ls ++ split 10 us
  | [], _ => rfl
  | l :: ls, h => by
    rw [List.map_cons, List.flatten_cons, List.append_assoc, List.append_assoc, List.singleton_append, split_at 10 l _ (h l (by simp)), split_lines us ls (fun x hx => h x (by simp [hx])), List.cons_append]

structure Item where
  kind : Int
  a : Int
  b : Int
  mark : Int
def pick (c n : Int) : Int := (if c < 0 then -(c + 1) else c) % n
/-- What a line is that is no jump: its kind, and up to two numbers. -/
structure Rest where
  tag : Nat
  x : Nat
  y : Nat
abbrev Rest.nop : Rest := ⟨0, 0, 0⟩
abbrev Rest.rts : Rest := ⟨1, 0, 0⟩
abbrev Rest.ds (n : Nat) : Rest := ⟨2, n, 0⟩
abbrev Rest.moveq (a b : Nat) : Rest := ⟨3, a, b⟩
abbrev Rest.addi (a b : Nat) : Rest := ⟨4, a, b⟩
abbrev Rest.dcw (a b : Nat) : Rest := ⟨5, a, b⟩
def Rest.body : Rest → Body
  | ⟨0, _, _⟩ => ⟨[110,111,112], [], ⟨⟨1, 0x4e71, 0, 0, 0⟩, []⟩⟩
  | ⟨1, _, _⟩ => ⟨[114,116,115], [], ⟨⟨1, 0x4e75, 0, 0, 0⟩, []⟩⟩
  | ⟨2, n, _⟩ => ⟨[100,115], [dec n], ⟨⟨9, 0, 0, 0, 0⟩, [⟨[], n⟩]⟩⟩
  | ⟨3, a, b⟩ => ⟨[109,111,118,101,113], [35 :: dec a, 100 :: dec b], ⟨⟨3, 0x7000, 0, 0, 0⟩, [⟨[], a⟩, ⟨[], b⟩]⟩⟩
  | ⟨4, a, b⟩ => ⟨[97,100,100,105], [35 :: dec a, 100 :: dec b], ⟨⟨4, 0x0640, 0, 0, 0⟩, [⟨[], a⟩, ⟨[], b⟩]⟩⟩
  | ⟨_ + 5, a, b⟩ => ⟨[100,99,46,119], [dec a, dec b], ⟨⟨7, 0, 0, 0, 0⟩, [⟨[], a⟩, ⟨[], b⟩]⟩⟩
def RestOk : Rest → Prop
  | ⟨0, _, _⟩ => True
  | ⟨1, _, _⟩ => True
  | ⟨2, n, _⟩ => n ≤ 1024
  | ⟨3, a, b⟩ => a ≤ 127 ∧ b ≤ 7
  | ⟨4, a, b⟩ => a ≤ 19 ∧ b ≤ 7
  | ⟨_ + 5, a, b⟩ => a ≤ 65535 ∧ b ≤ 65535
def jumpTexts : List Bs := jumpWords ++ [[106,109,112],[106,115,114]]
def nameTexts : List Bs := [[97],[95],[195,169,195,169],[120,57],[90],[100,49]]
def formTexts : List Bs := [[],[46,115],[46,119],[46,108]]
/-- A line: its label (-1: none), its jump's word (-1: none), where it goes, what else it is. -/
structure ML where
  label : Int
  word : Int
  to : Int
  rest : Rest
structure MLOk (m : ML) : Prop where
  label : -1 ≤ m.label ∧ m.label < 6
  word : -1 ≤ m.word ∧ m.word < 18
  to : 0 ≤ m.to ∧ m.to < 6
  rest : RestOk m.rest
def jumpBody (w f t : Nat) : Body :=
  let u := jumpTexts.getD w [] ++ formTexts.getD f []
  ⟨u, [nameTexts.getD t []], ⟨(find u).getD ⟨0,0,0,0,0⟩, [⟨nameTexts.getD t [], 0⟩]⟩⟩
def ML.body (m : ML) (f : Nat) : Body := if m.word < 0 then m.rest.body else jumpBody m.word.toNat f m.to.toNat
def Body.text (b : Body) : Bs := match b.xs with
  | [] => b.u
  | [x] => b.u ++ [32] ++ x
  | x :: y :: _ => b.u ++ [32] ++ (x ++ 44 :: y)
def ML.name (m : ML) : Bs := if m.label < 0 then [] else nameTexts.getD m.label.toNat []
def ML.text (m : ML) (f : Nat) : Bs := (if m.label < 0 then [] else m.name ++ [58, 32]) ++ (m.body f).text
def ML.line (m : ML) (f : Nat) : Line := ⟨m.name, (m.body f).ins⟩
theorem readOperand_name (n : Bs) (h : isName n = true) : readOperand 3 n = some ⟨n, 0⟩ := by
  unfold readOperand; rw [if_pos ⟨rfl, h⟩]
theorem readOperand_num (r : Int) (n : Nat) (hn : n < 10 ^ 8) (hr : r = 2 ∨ r = 3) : readOperand r (dec n) = some ⟨[], n⟩ := by
  have h1 := digs_noName _ (dec_digs n)
  have hm : mark r = [] := by rcases hr with rfl | rfl <;> rfl
  unfold readOperand
  rw [if_neg (by rw [h1]; simp), hm]
  simp only [stripPrefix, List.isPrefixOf, if_true, List.length_nil, List.drop_zero]
  rw [if_neg (by rcases hr with rfl | rfl <;> simp), number_dec n hn]
  rfl
theorem readOperand_val (n : Nat) (hn : n < 10 ^ 8) : readOperand 1 (35 :: dec n) = some ⟨[], n⟩ := by
  unfold readOperand
  rw [if_neg (by simp), show mark 1 = [35] from rfl]
  simp only [stripPrefix, List.isPrefixOf, beq_self_eq_true, Bool.true_and, if_true, List.length_singleton, List.drop_succ_cons, List.drop_zero]
  rw [if_neg (by simp), number_dec n hn]
  rfl
theorem readOperand_reg (n : Nat) (hn : n ≤ 7) : readOperand 0 (100 :: dec n) = some ⟨[], n⟩ := by
  have : n = 0 ∨ n = 1 ∨ n = 2 ∨ n = 3 ∨ n = 4 ∨ n = 5 ∨ n = 6 ∨ n = 7 := by omega
  rcases this with rfl | rfl | rfl | rfl | rfl | rfl | rfl | rfl <;> rfl
theorem dec_plain (n : Nat) : ∀ c ∈ dec n, plainSign c = true := fun c hc => by
  have := digs_not _ (dec_digs n) c hc
  simp [plainSign, this.1, this.2]
theorem within_nat (n : Nat) (lo hi : Int) (h1 : lo ≤ n) (h2 : (n : Int) ≤ hi) : within n lo hi = true := by simp [within, h1, h2]
theorem rest_ok (r : Rest) (h : RestOk r) : BodyOk r.body := by
  match r, h with
  | ⟨0, _, _⟩, h => exact ⟨by simp [Rest.body], by simp only [Rest.body]; decide, by simp [Rest.body], by simp [Rest.body], by rfl, by rfl, by rfl, by simp [Rest.body]⟩
  | ⟨1, _, _⟩, h => exact ⟨by simp [Rest.body], by simp only [Rest.body]; decide, by simp [Rest.body], by simp [Rest.body], by rfl, by rfl, by rfl, by simp [Rest.body]⟩
  | ⟨2, n, _⟩, h =>
    have h : n ≤ 1024 := h
    refine ⟨by simp [Rest.body], by simp only [Rest.body]; decide, by simp [Rest.body, dec_pos], by simp only [Rest.body, List.mem_singleton]; rintro x rfl; exact dec_plain n, by rfl, ?_, ?_, by simp [Rest.body]⟩
    · simp only [Rest.body, List.length_singleton, show roles 9 1 = [2] from rfl, ropsAll, readOperand_num 2 n (by omega) (.inl rfl)]
      rfl
    · simp [Rest.body, numbersMayBe, numbersOk, roles, allows, within]; omega
  | ⟨3, a, b⟩, h =>
    have h : a ≤ 127 ∧ b ≤ 7 := h
    refine ⟨by simp [Rest.body], by simp only [Rest.body]; decide, by simp [Rest.body], ?_, by rfl, ?_, ?_, by simp [Rest.body]⟩
    · simp only [Rest.body, List.mem_cons, List.not_mem_nil, or_false]
      rintro x (rfl | rfl) c hc
      · rcases List.mem_cons.1 hc with rfl | hc
        · decide
        · exact dec_plain a c hc
      · rcases List.mem_cons.1 hc with rfl | hc
        · decide
        · exact dec_plain b c hc
    · simp only [Rest.body, List.length_cons, List.length_nil, show roles 3 (0 + 1 + 1) = [1, 0] from rfl, ropsAll, readOperand_val a (by omega), readOperand_reg b h.2]
      rfl
    · simp [Rest.body, numbersMayBe, numbersOk, roles, allows, within]; omega
  | ⟨4, a, b⟩, h =>
    have h : a ≤ 19 ∧ b ≤ 7 := h
    refine ⟨by simp [Rest.body], by simp only [Rest.body]; decide, by simp [Rest.body], ?_, by rfl, ?_, ?_, by simp [Rest.body]⟩
    · simp only [Rest.body, List.mem_cons, List.not_mem_nil, or_false]
      rintro x (rfl | rfl) c hc
      · rcases List.mem_cons.1 hc with rfl | hc
        · decide
        · exact dec_plain a c hc
      · rcases List.mem_cons.1 hc with rfl | hc
        · decide
        · exact dec_plain b c hc
    · simp only [Rest.body, List.length_cons, List.length_nil, show roles 4 (0 + 1 + 1) = [1, 0] from rfl, ropsAll, readOperand_val a (by omega), readOperand_reg b h.2]
      rfl
    · simp [Rest.body, numbersMayBe, numbersOk, roles, allows, within]; omega
  | ⟨_ + 5, a, b⟩, h =>
    have h : a ≤ 65535 ∧ b ≤ 65535 := h
    refine ⟨by simp [Rest.body], by simp only [Rest.body]; decide, by simp [Rest.body, dec_pos], ?_, by rfl, ?_, ?_, by simp [Rest.body]⟩
    · simp only [Rest.body, List.mem_cons, List.not_mem_nil, or_false]
      rintro x (rfl | rfl)
      · exact dec_plain a
      · exact dec_plain b
    · simp only [Rest.body, List.length_cons, List.length_nil, show roles 7 (0 + 1 + 1) = [3, 3] from rfl, ropsAll, readOperand_num 3 a (by omega) (.inr rfl), readOperand_num 3 b (by omega) (.inr rfl)]
      rfl
    · simp [Rest.body, numbersMayBe, numbersOk, roles, allows, within]; omega
/-- A jump that has a form: those of the far words have no short one. -/
def formOk (w f : Nat) : Bool := decide (f < 4) && !(decide (16 ≤ w) && f == 1)
theorem jump_words : ∀ w, w < 18 → ∀ f, f < 4 → formOk w f = true → (find (jumpTexts.getD w [] ++ formTexts.getD f [])).isSome = true ∧ (((find (jumpTexts.getD w [] ++ formTexts.getD f [])).getD ⟨0,0,0,0,0⟩).kind = 5 ∨ ((find (jumpTexts.getD w [] ++ formTexts.getD f [])).getD ⟨0,0,0,0,0⟩).kind = 6) ∧ ((jumpTexts.getD w [] ++ formTexts.getD f []).all plainSign) = true ∧ jumpTexts.getD w [] ++ formTexts.getD f [] ≠ [] := by decide +kernel
theorem names_ok : ∀ t, t < 6 → isName (nameTexts.getD t []) = true ∧ (nameTexts.getD t []).all plainSign = true ∧ nameTexts.getD t [] ≠ [] ∧ labelName (nameTexts.getD t []) = some (nameTexts.getD t []) := by decide +kernel
theorem jump_ok (w f t : Nat) (hw : w < 18) (hf : formOk w f = true) (ht : t < 6) : BodyOk (jumpBody w f t) := by
  have hf4 : f < 4 := by simp [formOk] at hf; exact hf.1
  obtain ⟨h1, h2, h3, h4⟩ := jump_words w hw f hf4 hf
  obtain ⟨n1, n2, n3, n4⟩ := names_ok t ht
  unfold jumpBody
  generalize jumpTexts.getD w [] ++ formTexts.getD f [] = u at *
  generalize nameTexts.getD t [] = n at *
  obtain ⟨op, hop⟩ := Option.isSome_iff_exists.1 h1
  show BodyOk ⟨u, [n], ⟨(find u).getD ⟨0,0,0,0,0⟩, [⟨n, 0⟩]⟩⟩
  rw [hop] at h2 ⊢
  simp only [Option.getD_some] at h2 ⊢
  refine ⟨h4, fun c hc => List.all_eq_true.1 h3 c hc, by simp [n3], by simp only [List.mem_singleton]; rintro x rfl; exact fun c hc => List.all_eq_true.1 n2 c hc, hop, ?_, ?_, by simp only; omega⟩
  · simp only [List.length_singleton]
    rw [show roles op.kind 1 = [3] by rcases h2 with h | h <;> rw [h] <;> rfl]
    simp only [ropsAll, readOperand_name n n1]
    rfl
  · simp only [numbersMayBe, List.length_singleton]
    rw [show roles op.kind 1 = [3] by rcases h2 with h | h <;> rw [h] <;> rfl]
    simp [numbersOk, n3]
theorem ml_ok (m : ML) (hm : MLOk m) (f : Nat) (hf : 0 ≤ m.word → formOk m.word.toNat f = true) : BodyOk (m.body f) := by
  unfold ML.body
  have := hm.word
  have := hm.to
  split
  · exact rest_ok _ hm.rest
  · exact jump_ok _ _ _ (by omega) (hf (by omega)) (by omega)
theorem two_xs (m : ML) (f : Nat) : (m.body f).xs.length ≤ 2 := by
  unfold ML.body
  split
  · match m.rest with
    | ⟨0, _, _⟩ => simp [Rest.body]
    | ⟨1, _, _⟩ => simp [Rest.body]
    | ⟨2, _, _⟩ => simp [Rest.body]
    | ⟨3, _, _⟩ => simp [Rest.body]
    | ⟨4, _, _⟩ => simp [Rest.body]
    | ⟨_ + 5, _, _⟩ => simp [Rest.body]
  · simp [jumpBody]
theorem body_laid (b : Body) (h : b.xs.length ≤ 2) : Laid b b.text := by
  have hb : Blanks [32] := by intro c hc; rw [List.mem_singleton] at hc; subst hc; decide
  unfold Laid Body.text
  match e : b.xs, h with
  | [], _ => exact .inl ⟨rfl, rfl⟩
  | [x], _ => exact .inr (.inl ⟨x, [32], rfl, hb, by simp, rfl⟩)
  | [x, y], _ => exact .inr (.inr ⟨x, y, [32], [], [], rfl, hb, by simp, blanks_nil, blanks_nil, by simp⟩)
theorem label_name (m : ML) (hm : MLOk m) (h : ¬ m.label < 0) : isName m.name = true ∧ m.name.all plainSign = true ∧ m.name ≠ [] ∧ labelName m.name = some m.name := by
  have := hm.label
  unfold ML.name
  rw [if_neg h]
  exact names_ok m.label.toNat (by omega)
/-- A line dressed: behind the label blanks, the body, blanks, a remark or none. -/
theorem ml_read (m : ML) (hm : MLOk m) (f : Nat) (hf : 0 ≤ m.word → formOk m.word.toNat f = true) (a t c r : Bs) (ha : Blanks a) (ht : Laid (m.body f) t) (hc : Blanks c) (hr : r = [] ∨ ∃ t, r = 59 :: t) :
    readLine ((if m.label < 0 then [] else m.name ++ [58]) ++ (a ++ t ++ c) ++ r) = some (m.line f) := by
  have hb := ml_ok m hm f hf
  have hi := instr_body _ hb a t c ha ht hc
  have hs : ∀ x ∈ a ++ t ++ c, x ≠ 58 ∧ x ≠ 59 := by
    intro x hx
    simp only [List.mem_append] at hx
    rcases hx with (hx | hx) | hx
    · exact ⟨(blank_marks (ha x hx)).1, (blank_marks (ha x hx)).2.1⟩
    · have := laid_signs _ hb t ht x hx; exact ⟨this.1, this.2.1⟩
    · exact ⟨(blank_marks (hc x hx)).1, (blank_marks (hc x hx)).2.1⟩
  split
  · rename_i hl
    rw [List.nil_append, readLine_bare _ r hs hr, hi]
    simp [ML.line, ML.name, hl]
  · rename_i hl
    obtain ⟨n1, n2, n3, n4⟩ := label_name m hm hl
    have h := readLine_named m.name (a ++ t ++ c) r (fun x hx => by
      have := plain_parts (List.all_eq_true.1 n2 x hx); exact ⟨this.2.2.1, this.2.2.2.1⟩) hs hr
    rw [hi, n4] at h
    simpa [ML.line, List.append_assoc] using h
theorem ml_text (m : ML) (hm : MLOk m) (f : Nat) (hf : 0 ≤ m.word → formOk m.word.toNat f = true) : readLine (m.text f) = some (m.line f) := by
  have hl := body_laid (m.body f) (two_xs m f)
  have hb : Blanks [32] := by intro c hc; rw [List.mem_singleton] at hc; subst hc; decide
  unfold ML.text
  by_cases h : m.label < 0
  · have := ml_read m hm f hf [] (m.body f).text [] [] blanks_nil hl blanks_nil (.inl rfl)
    simpa [h] using this
  · have := ml_read m hm f hf [32] (m.body f).text [] [] hb hl blanks_nil (.inl rfl)
    simpa [h, List.append_assoc] using this
theorem ml_no10 (m : ML) (hm : MLOk m) (f : Nat) (hf : 0 ≤ m.word → formOk m.word.toNat f = true) : ∀ c ∈ m.text f, c ≠ 10 := by
  have hl := laid_signs _ (ml_ok m hm f hf) _ (body_laid (m.body f) (two_xs m f))
  unfold ML.text
  intro c hc
  rcases List.mem_append.1 hc with hc | hc
  · split at hc
    · cases hc
    · rename_i h
      have n2 := (label_name m hm h).2.1
      rcases List.mem_append.1 hc with hc | hc
      · exact (plain_parts (List.all_eq_true.1 n2 c hc)).2.2.2.2
      · simp only [List.mem_cons, List.not_mem_nil, or_false] at hc
        rcases hc with rfl | rfl <;> decide
  · exact (hl c hc).2.2
theorem ml_addable (m : ML) (hm : MLOk m) (f : Nat) (hf : 0 ≤ m.word → formOk m.word.toNat f = true) : Addable (m.line f) := ⟨(ml_ok m hm f hf).may, (ml_ok m hm f hf).org⟩
end Go.Proofs.YtegiloiojloaoaaGreatDoor.Strd

set_option linter.unusedVariables false
set_option linter.unusedSimpArgs false
namespace Go.Proofs.YtegiloiojloaoaaGreatDoor.Strd

theorem pick_range (c n : Int) (hn : 0 < n) : 0 ≤ pick c n ∧ pick c n < n := ⟨Int.emod_nonneg _ (by omega), Int.emod_lt_of_pos _ hn⟩
def itemML (x : Item) (label : Int) : ML :=
  if pick x.kind 9 < 4 then ⟨label, pick x.a 18, pick x.b 6, .nop⟩
  else if pick x.kind 9 = 4 then ⟨label, -1, 0, .ds (2 * pick x.a 513).toNat⟩
  else if pick x.kind 9 = 5 then ⟨label, -1, 0, .moveq (pick x.a 128).toNat (pick x.b 8).toNat⟩
  else if pick x.kind 9 = 6 then ⟨label, -1, 0, .addi (pick x.a 20).toNat (pick x.b 8).toNat⟩
  else if pick x.kind 9 = 7 then ⟨label, -1, 0, .dcw (pick x.a 65536).toNat (pick x.b 65536).toNat⟩
  else ⟨label, -1, 0, .nop⟩
def leftFrom (many : Nat) : List ML := (List.range' many (6 - many)).map fun (k : Nat) => ⟨(k : Int), -1, 0, .rts⟩
def madeFrom : Nat → List Item → List ML
  | many, [] => leftFrom many
  | many, x :: t => if x.mark % 2 ≠ 0 ∧ many < 6 then itemML x many :: madeFrom (many + 1) t else itemML x (-1) :: madeFrom many t
def made (l : List Item) : List ML := madeFrom 0 (l.take 34)
theorem item_label (x : Item) (k : Int) : (itemML x k).label = k := by
  unfold itemML
  repeat (split; · rfl)
  rfl
theorem item_ok (x : Item) (k : Int) (hk : -1 ≤ k ∧ k < 6) : MLOk (itemML x k) := by
  have a1 := pick_range x.a 18 (by omega)
  have a2 := pick_range x.b 6 (by omega)
  have a3 := pick_range x.a 513 (by omega)
  have a4 := pick_range x.a 128 (by omega)
  have a5 := pick_range x.b 8 (by omega)
  have a6 := pick_range x.a 20 (by omega)
  have a7 := pick_range x.a 65536 (by omega)
  have a8 := pick_range x.b 65536 (by omega)
  unfold itemML
  split
  · exact ⟨hk, by simp only; omega, by simp only; omega, trivial⟩
  · split
    · exact ⟨hk, ⟨by simp, by simp⟩, ⟨by simp, by simp⟩, by show (2 * pick x.a 513).toNat ≤ 1024; omega⟩
    · split
      · exact ⟨hk, ⟨by simp, by simp⟩, ⟨by simp, by simp⟩, by show (pick x.a 128).toNat ≤ 127 ∧ (pick x.b 8).toNat ≤ 7; omega⟩
      · split
        · exact ⟨hk, ⟨by simp, by simp⟩, ⟨by simp, by simp⟩, by show (pick x.a 20).toNat ≤ 19 ∧ (pick x.b 8).toNat ≤ 7; omega⟩
        · split
          · exact ⟨hk, ⟨by simp, by simp⟩, ⟨by simp, by simp⟩, by show (pick x.a 65536).toNat ≤ 65535 ∧ (pick x.b 65536).toNat ≤ 65535; omega⟩
          · exact ⟨hk, ⟨by simp, by simp⟩, ⟨by simp, by simp⟩, trivial⟩
theorem left_mem (many : Nat) (m : ML) (h : m ∈ leftFrom many) : ∃ k : Nat, many ≤ k ∧ k < 6 ∧ m = ⟨(k : Int), -1, 0, .rts⟩ := by
  unfold leftFrom at h
  obtain ⟨k, hk, rfl⟩ := List.mem_map.1 h
  rw [List.mem_range'_1] at hk
  exact ⟨k, by omega, by omega, rfl⟩
theorem made_ok : ∀ (l : List Item) (many : Nat), ∀ m ∈ madeFrom many l, MLOk m
  | [], many, m, h => by
    obtain ⟨k, h1, h2, rfl⟩ := left_mem many m h
    exact ⟨by simp only; omega, ⟨by simp, by simp⟩, ⟨by simp, by simp⟩, trivial⟩
  | x :: t, many, m, h => by
    unfold madeFrom at h
    split at h
    · rename_i hc
      rcases List.mem_cons.1 h with rfl | h
      · exact item_ok x many (by omega)
      · exact made_ok t _ m h
    · rcases List.mem_cons.1 h with rfl | h
      · exact item_ok x (-1) (by omega)
      · exact made_ok t _ m h
theorem made_from : ∀ (l : List Item) (many : Nat), ∀ m ∈ madeFrom many l, 0 ≤ m.label → (many : Int) ≤ m.label
  | [], many, m, h, h0 => by
    obtain ⟨k, h1, h2, rfl⟩ := left_mem many m h
    simp only; omega
  | x :: t, many, m, h, h0 => by
    unfold madeFrom at h
    split at h
    · rcases List.mem_cons.1 h with rfl | h
      · rw [item_label]; omega
      · have := made_from t _ m h h0; omega
    · rcases List.mem_cons.1 h with rfl | h
      · rw [item_label] at h0; omega
      · exact made_from t _ m h h0
theorem made_pairs : ∀ (l : List Item) (many : Nat), (madeFrom many l).Pairwise fun a b => 0 ≤ a.label → 0 ≤ b.label → a.label < b.label
  | [], many => by
    show (leftFrom many).Pairwise _
    unfold leftFrom
    rw [List.pairwise_map]
    exact (List.pairwise_lt_range' (s := many) (n := 6 - many) (step := 1)).imp fun h => by simp only; omega
  | x :: t, many => by
    unfold madeFrom
    split
    · refine List.pairwise_cons.2 ⟨fun m h h0 h1 => ?_, made_pairs t _⟩
      have := made_from t _ m h h1
      rw [item_label]; omega
    · refine List.pairwise_cons.2 ⟨fun m h h0 h1 => ?_, made_pairs t _⟩
      rw [item_label] at h0; omega
theorem made_all : ∀ (l : List Item) (many : Nat), ∀ j : Nat, many ≤ j → j < 6 → ∃ m ∈ madeFrom many l, m.label = (j : Int)
  | [], many, j, h1, h2 => ⟨⟨(j : Int), -1, 0, .rts⟩, by
      show _ ∈ leftFrom many
      unfold leftFrom
      exact List.mem_map.2 ⟨j, by rw [List.mem_range'_1]; omega, rfl⟩, rfl⟩
  | x :: t, many, j, h1, h2 => by
    unfold madeFrom
    split
    · by_cases e : j = many
      · exact ⟨_, List.mem_cons_self, by rw [item_label, e]⟩
      · obtain ⟨m, hm, hl⟩ := made_all t (many + 1) j (by omega) h2
        exact ⟨m, List.mem_cons_of_mem _ hm, hl⟩
    · obtain ⟨m, hm, hl⟩ := made_all t many j h1 h2
      exact ⟨m, List.mem_cons_of_mem _ hm, hl⟩
theorem made_len : ∀ (l : List Item) (many : Nat), (madeFrom many l).length ≤ l.length + 6
  | [], many => by show (leftFrom many).length ≤ _; simp [leftFrom]
  | x :: t, many => by
    unfold madeFrom
    have h1 := made_len t many
    have h2 := made_len t (many + 1)
    split <;> simp only [List.length_cons] <;> omega
theorem made_len40 (l : List Item) : (made l).length ≤ 40 := by
  have := made_len (l.take 34) 0
  rw [List.length_take] at this
  unfold made; omega

/-- The lines with the jumps' forms: of each jump the next one, 0 behind them. -/
def pairs : List ML → List Nat → List (ML × Nat)
  | [], _ => []
  | m :: ms, fs => if m.word < 0 then (m, 0) :: pairs ms fs else (m, fs.headD 0) :: pairs ms fs.tail
theorem pairs_len : ∀ (ms : List ML) (fs : List Nat), (pairs ms fs).length = ms.length
  | [], _ => rfl
  | m :: ms, fs => by unfold pairs; split <;> simp [pairs_len ms]
theorem pairs_fst : ∀ (ms : List ML) (fs : List Nat), (pairs ms fs).map (·.1) = ms
  | [], _ => rfl
  | m :: ms, fs => by unfold pairs; split <;> simp [pairs_fst ms]
theorem pairs_nil : ∀ (ms : List ML), ∀ p ∈ pairs ms [], p.2 = 0
  | [], p, h => by cases h
  | m :: ms, p, h => by
    unfold pairs at h
    split at h
    · rcases List.mem_cons.1 h with rfl | h
      · rfl
      · exact pairs_nil ms p h
    · rcases List.mem_cons.1 h with rfl | h
      · rfl
      · exact pairs_nil ms p h
def PairOk (p : ML × Nat) : Prop := MLOk p.1 ∧ (0 ≤ p.1.word → formOk p.1.word.toNat p.2 = true)
def srcOf (ps : List (ML × Nat)) : Bs := (ps.map fun p => p.1.text p.2 ++ [10]).flatten
def linesOf (ps : List (ML × Nat)) : List Line := ps.map fun p => p.1.line p.2
theorem names_inj : ∀ i, i < 6 → ∀ j, j < 6 → nameTexts.getD i [] = nameTexts.getD j [] → i = j := by decide +kernel
theorem name_lt {a b : ML} (ha : MLOk a) (hb : MLOk b) (h : 0 ≤ a.label → 0 ≤ b.label → a.label < b.label) : a.name ≠ [] → a.name ≠ b.name := by
  intro h0 e
  have h1 := ha.label
  have h2 := hb.label
  by_cases ea : a.label < 0
  · simp [ML.name, ea] at h0
  · by_cases eb : b.label < 0
    · rw [e] at h0; simp [ML.name, eb] at h0
    · have := h (by omega) (by omega)
      simp only [ML.name, ea, eb, if_false] at e
      have := names_inj _ (by omega) _ (by omega) e
      omega
theorem lines_fresh (ps : List (ML × Nat)) (ho : ∀ p ∈ ps, MLOk p.1) (hp : (ps.map (·.1)).Pairwise fun a b => 0 ≤ a.label → 0 ≤ b.label → a.label < b.label) : Fresh (linesOf ps) := by
  unfold Fresh linesOf
  rw [List.pairwise_map]
  rw [List.pairwise_map] at hp
  exact hp.imp_of_mem fun {a b} ha hb h => name_lt (ho a ha) (ho b hb) h
theorem src_split (ps : List (ML × Nat)) (ho : ∀ p ∈ ps, PairOk p) (u : Bs) : split 10 (srcOf ps ++ u) = ps.map (fun p => p.1.text p.2) ++ split 10 u := by
  have := split_lines u (ps.map (fun p => p.1.text p.2)) (fun l hl => by
    obtain ⟨p, hp, rfl⟩ := List.mem_map.1 hl
    exact ml_no10 p.1 (ho p hp).1 p.2 (ho p hp).2)
  rw [List.map_map] at this
  exact this
theorem src_read (ps : List (ML × Nat)) (ho : ∀ p ∈ ps, PairOk p) (hp : (ps.map (·.1)).Pairwise fun a b => 0 ≤ a.label → 0 ≤ b.label → a.label < b.label) (u : Bs) (hl : (srcOf ps ++ u).length ≤ 4000) :
    ∃ b, readSource (srcOf ps ++ u) = addAll ps.length ⟨0, linesOf ps, b⟩ (split 10 u) := by
  unfold readSource
  rw [if_neg (by omega), src_split ps ho u]
  obtain ⟨b, hb⟩ := addAll_ok (ps.map (fun p => p.1.text p.2)) (linesOf ps) ⟨0, [], false⟩ 0 (split 10 u) (by
      unfold linesOf
      rw [List.map_map, List.map_map]
      exact List.map_congr_left fun p hp => ml_text p.1 (ho p hp).1 p.2 (ho p hp).2) (fun l hl => by
      obtain ⟨p, hp, rfl⟩ := List.mem_map.1 hl
      exact ml_addable p.1 (ho p hp).1 p.2 (ho p hp).2) (by rw [List.nil_append]; exact lines_fresh ps (fun p hp => (ho p hp).1) hp)
  refine ⟨b, ?_⟩
  rw [hb]
  simp
theorem text_len (m : ML) (hm : MLOk m) (f : Nat) : (m.text f).length ≤ 23 := by
  have hn : ∀ k, k < 6 → (nameTexts.getD k []).length ≤ 4 := by decide
  have hw : ∀ w, w < 18 → (jumpTexts.getD w []).length ≤ 3 := by decide
  have hff : ∀ f, (formTexts.getD f []).length ≤ 2 := by
    intro f
    match f with
    | 0 => decide
    | 1 => decide
    | 2 => decide
    | 3 => decide
    | f + 4 => simp [formTexts]
  have hlb : (if m.label < 0 then [] else m.name ++ [58, 32]).length ≤ 6 := by
    split
    · simp
    · rename_i h
      have := hm.label
      have := hn m.label.toNat (by omega)
      simp only [ML.name, h, if_false, List.length_append, List.length_cons, List.length_nil]
      omega
  have hbd : ((m.body f).text).length ≤ 17 := by
    unfold ML.body
    split
    · have hr := hm.rest
      match m.rest, hr with
      | ⟨0, _, _⟩, _ => simp [Rest.body, Body.text]
      | ⟨1, _, _⟩, _ => simp [Rest.body, Body.text]
      | ⟨2, n, _⟩, hr =>
        have h1 := dec_len n 3 (by have : n ≤ 1024 := hr; omega)
        simp [Rest.body, Body.text]; omega
      | ⟨3, a, b⟩, hr =>
        have hr : a ≤ 127 ∧ b ≤ 7 := hr
        have h1 := dec_len a 2 (by omega)
        have h2 := dec_len b 0 (by omega)
        simp [Rest.body, Body.text]; omega
      | ⟨4, a, b⟩, hr =>
        have hr : a ≤ 19 ∧ b ≤ 7 := hr
        have h1 := dec_len a 1 (by omega)
        have h2 := dec_len b 0 (by omega)
        simp [Rest.body, Body.text]; omega
      | ⟨_ + 5, a, b⟩, hr =>
        have hr : a ≤ 65535 ∧ b ≤ 65535 := hr
        have h1 := dec_len a 4 (by omega)
        have h2 := dec_len b 4 (by omega)
        simp [Rest.body, Body.text]; omega
    · have h0 := hm.word
      have h1 := hm.to
      have h2 := hw m.word.toNat (by omega)
      have h3 := hff f
      have h4 := hn m.to.toNat (by omega)
      simp only [jumpBody, Body.text, List.length_append, List.length_cons, List.length_nil]
      omega
  unfold ML.text
  rw [List.length_append]
  omega
theorem src_len : ∀ (ps : List (ML × Nat)), (∀ p ∈ ps, MLOk p.1) → (srcOf ps).length ≤ 24 * ps.length
  | [], _ => by simp [srcOf]
  | p :: ps, h => by
    have h1 := src_len ps (fun q hq => h q (by simp [hq]))
    have h2 := text_len p.1 (h p (by simp)) p.2
    simp only [srcOf, List.map_cons, List.flatten_cons, List.length_append, List.length_cons, List.length_nil] at *
    omega
theorem src_app (ps qs : List (ML × Nat)) : srcOf (ps ++ qs) = srcOf ps ++ srcOf qs := by simp [srcOf]
def plainPairs (l : List Item) : List (ML × Nat) := pairs (made l) []
theorem plain_ok (l : List Item) : ∀ p ∈ plainPairs l, PairOk p := fun p hp => by
  have h0 := pairs_nil _ p hp
  have h1 : p.1 ∈ made l := by
    have := List.mem_map_of_mem (f := (·.1)) hp
    rw [plainPairs, pairs_fst] at this
    exact this
  exact ⟨made_ok _ _ _ h1, fun _ => by rw [h0]; simp [formOk]⟩
theorem plain_fresh (l : List Item) : ((plainPairs l).map (·.1)).Pairwise fun a b => 0 ≤ a.label → 0 ≤ b.label → a.label < b.label := by
  rw [plainPairs, pairs_fst]; exact made_pairs _ _
theorem plain_len (l : List Item) : (plainPairs l).length ≤ 40 := by rw [plainPairs, pairs_len]; exact made_len40 l
/-- A wrong line is told by its number. -/
theorem wrong_read (l : List Item) (k : Nat) (bad u : Bs) (hk : k ≤ (plainPairs l).length) (hb : readLine bad = none) (hb10 : ∀ c ∈ bad, c ≠ 10) (hl : bad.length + u.length ≤ 2000) :
    (readSource (srcOf ((plainPairs l).take k) ++ (bad ++ 10 :: u))).2 = (k + 1, 1) := by
  have ho : ∀ p ∈ (plainPairs l).take k, PairOk p := fun p hp => plain_ok l p (List.mem_of_mem_take hp)
  have h40 := plain_len l
  have hsl := src_len ((plainPairs l).take k) (fun p hp => (ho p hp).1)
  have htk : ((plainPairs l).take k).length = k := by rw [List.length_take]; omega
  obtain ⟨b, h⟩ := src_read ((plainPairs l).take k) ho (by rw [List.map_take]; exact (plain_fresh l).sublist (List.take_sublist _ _)) (bad ++ 10 :: u) (by rw [List.length_append, List.length_append, List.length_cons]; omega)
  rw [h, split_at 10 bad u hb10, addAll, htk]
  have : ∀ r, add r bad = (r, 1) := fun r => by unfold add; rw [hb]
  rw [this]
  simp
def badTexts : List Bs := [[110,111,112,112], [110,111,112,32,49], [109,111,118,101,113,32,100,49], [98,114,97], [98,114,97,46,120,32,97], [106,109,112,46,115,32,97], [97,32,98,58], [49,97,58,32,110,111,112], [109,111,118,101,32,100,49,44,100,50,50], [100,99,46,119,32,49,44,44,50], [100,115,32,36,103], [255,58,32,110,111,112], [110,111,112,58,110,111,112,58], [109,111,118,101,113,32,49,44,100,49], [98,114,97,32,49,50,51,52,53,54,55,56,57]]
theorem bad_read : ∀ k, k < 15 → readLine (badTexts.getD k []) = none ∧ ((badTexts.getD k []).all fun c => c != 10) = true ∧ (badTexts.getD k []).length ≤ 20 := by decide +kernel
theorem twice_read (l : List Item) (u : Bs) (hl : u.length ≤ 2000) : (readSource (srcOf (plainPairs l) ++ ([97, 58, 32, 110, 111, 112] ++ 10 :: u))).2 = ((plainPairs l).length + 1, 3) := by
  have h40 := plain_len l
  have hsl := src_len (plainPairs l) (fun p hp => (plain_ok l p hp).1)
  obtain ⟨b, h⟩ := src_read (plainPairs l) (plain_ok l) (plain_fresh l) ([97, 58, 32, 110, 111, 112] ++ 10 :: u) (by simp only [List.length_append, List.length_cons, List.length_nil]; omega)
  rw [h, split_at 10 [97, 58, 32, 110, 111, 112] u (by decide), addAll]
  obtain ⟨m, hm, hm0⟩ := made_all (l.take 34) 0 0 (by omega) (by omega)
  have hmem : m ∈ (plainPairs l).map (·.1) := by rw [plainPairs, pairs_fst]; exact hm
  obtain ⟨p, hp, rfl⟩ := List.mem_map.1 hmem
  have hhas : hasLabel (linesOf (plainPairs l)) [97] = true := by
    unfold hasLabel
    rw [Bool.and_eq_true]
    refine ⟨by decide, List.any_eq_true.2 ⟨p.1.line p.2, List.mem_map.2 ⟨p, hp, rfl⟩, ?_⟩⟩
    simp [ML.line, ML.name, hm0, nameTexts]
  have hr : readLine [97, 58, 32, 110, 111, 112] = some ⟨[97], ⟨⟨1, 0x4e71, 0, 0, 0⟩, []⟩⟩ := by rfl
  have ha : add ⟨0, linesOf (plainPairs l), b⟩ [97, 58, 32, 110, 111, 112] = (⟨0, linesOf (plainPairs l), b⟩, 3) := by
    unfold add
    rw [hr]
    simp only [hhas, if_true]
  rw [ha]
  simp
end Go.Proofs.YtegiloiojloaoaaGreatDoor.Strd

set_option linter.unusedVariables false
set_option linter.unusedSimpArgs false
namespace Go.Proofs.YtegiloiojloaoaaGreatDoor.Strd

def strip (l : Line) : Line := ⟨l.label, ⟨⟨l.ins.op.kind, l.ins.op.base, l.ins.op.number, 0, 0⟩, l.ins.oprs⟩⟩
theorem strip_starts : ∀ (a : Int) (ls : List Line) (F : List Int), starts a (ls.map strip) F = starts a ls F
  | _, [], _ => by simp [starts]
  | _, _ :: _, [] => by simp [starts]
  | a, l :: ls, f :: F => by
    rw [List.map_cons, starts, starts, show size (strip l).ins f a = size l.ins f a from rfl, strip_starts _ ls F]
theorem strip_label (ls : List Line) (n : Bs) : labelAt (ls.map strip) n = labelAt ls n := by
  unfold labelAt
  rw [List.findIdx?_map]
  rfl
theorem strip_number (ls : List Line) (st : List Int) (o : Opr) : numberOf (ls.map strip) st o = numberOf ls st o := by
  unfold numberOf placeOf
  rw [strip_label]
theorem strip_misses (ls : List Line) (st : List Int) (l : Line) (f a : Int) : misses (ls.map strip) st (strip l) f a = misses ls st l f a := by
  unfold misses
  rw [strip_number]
  rfl
theorem strip_image (ls : List Line) (st : List Int) : ∀ (xs : List Line) (fs as : List Int), image (ls.map strip) st (xs.map strip) fs as = image ls st xs fs as
  | [], _, _ => by simp [image]
  | _ :: _, [], _ => by simp [image]
  | _ :: _, _ :: _, [] => by simp [image]
  | x :: xs, f :: fs, a :: as => by
    rw [List.map_cons, image, image, strip_image ls st xs fs as]
    congr 1
    have : placed (ls.map strip) st (strip x).ins = ⟨(strip x).ins.op, (placed ls st x.ins).oprs⟩ := by
      unfold placed
      simp only [strip_number]
      rfl
    rw [this]
    rfl
def Same (ls ks : List Line) : Prop := ls.map strip = ks.map strip
theorem Same.starts {ls ks : List Line} (h : Same ls ks) (a : Int) (F : List Int) : starts a ls F = starts a ks F := by rw [← strip_starts a ls, h, strip_starts]
theorem Same.P {ls ks : List Line} (h : Same ls ks) (F : List Int) (k : Nat) : P ls F k = P ks F k := by unfold Strd.P; rw [h.starts]
theorem Same.image {ls ks : List Line} (h : Same ls ks) (st fs as : List Int) : image ls st ls fs as = image ks st ks fs as := by rw [← strip_image ls, h, strip_image]
theorem Same.length {ls ks : List Line} (h : Same ls ks) : ls.length = ks.length := by have := congrArg List.length h; simpa using this
theorem Same.symm {ls ks : List Line} (h : Same ls ks) : Same ks ls := Eq.symm h
theorem Same.strip {ls ks : List Line} (h : Same ls ks) (k : Nat) (h1 : k < ls.length) (h2 : k < ks.length) : strip ls[k] = strip ks[k] := by
  have := congrArg (fun l => l[k]?) h
  simp only [List.getElem?_map, List.getElem?_eq_getElem h1, List.getElem?_eq_getElem h2, Option.map_some, Option.some.injEq] at this
  exact this
theorem Same.miss {ls ks : List Line} (h : Same ls ks) (F : List Int) (k : Nat) (hm : Miss ls F k) : Miss ks F k := by
  obtain ⟨hk, hm⟩ := hm
  have hk' : k < ks.length := by rw [← h.length]; exact hk
  refine ⟨hk', ?_⟩
  rw [← strip_misses, ← h.strip k hk hk', ← h, strip_misses, ← h.starts, ← h.P]
  exact hm
theorem Same.valid {ls ks : List Line} (h : Same ls ks) {F : List Int} (hv : Valid ls F) : Valid ks F := fun k hm => hv k (h.symm.miss F k hm)
theorem Same.jump {ls ks : List Line} (h : Same ls ks) (k : Nat) (h1 : k < ls.length) (h2 : k < ks.length) : isJump ls[k].ins.op = isJump ks[k].ins.op := by
  have := h.strip k h1 h2
  have e := congrArg (fun l => isJump l.ins.op) this
  exact e

theorem word_len (n : Int) : (wordBs n).length = 2 := rfl
theorem flat_words : ∀ (os : List Opr), ((os.map fun o => wordBs o.num).flatten).length = 2 * os.length
  | [] => rfl
  | o :: os => by rw [List.map_cons, List.flatten_cons, List.length_append, flat_words os, word_len, List.length_cons]; omega
theorem bytes_len (i : Ins) (f a : Int) (h0 : 0 ≤ f ∧ f ≤ 2) (hf : i.op.kind = 6 → f ≠ 0) : (bytes i f a).length = (size i f a).toNat := by
  by_cases h1 : i.op.kind = 1
  · simp [bytes, size, h1, word_len]
  by_cases h2 : i.op.kind = 2
  · simp [bytes, size, h2, word_len]
  by_cases h3 : i.op.kind = 3
  · simp [bytes, size, h3, word_len]
  by_cases h4 : i.op.kind = 4
  · simp only [bytes, size, h4]
    unfold addBytes
    cases addsShort (num i 0) <;> simp [word_len]
  by_cases h5 : i.op.kind = 5
  · simp only [bytes, size, h5]
    have hff : f = 0 ∨ f = 1 ∨ f = 2 := by omega
    unfold jumpBytes jumpSize
    rcases hff with rfl | rfl | rfl
    · simp [word_len]
    · simp [word_len]
    · by_cases hn : i.op.number = 1
      · have : isCond i.op = false := by simp [isCond, hn]
        simp [hn, this, longJump, word_len]
      · cases isCond i.op <;> simp [hn, longJump, word_len]
  by_cases h6 : i.op.kind = 6
  · have := hf h6
    simp only [bytes, size, h6]
    have hff : f = 1 ∨ f = 2 := by omega
    have hc : isCond i.op = false := by simp [isCond, h6]
    unfold farBytes jumpSize
    rcases hff with rfl | rfl
    · simp [word_len]
    · simp [longJump, word_len, hc]
  by_cases h7 : i.op.kind = 7
  · simp only [bytes, size, h7]
    simp only [show ¬((7 : Int) = 1) by decide, show ¬((7 : Int) = 2) by decide, show ¬((7 : Int) = 3) by decide, show ¬((7 : Int) = 4) by decide, show ¬((7 : Int) = 5) by decide, show ¬((7 : Int) = 6) by decide, or_self, if_false, if_true]
    rw [flat_words]; omega
  by_cases h8 : i.op.kind = 8
  · simp [bytes, size, h8]
  by_cases h9 : i.op.kind = 9 ∨ i.op.kind = 10
  · have : bytes i f a = List.replicate (size i f a).toNat 0 := by
      unfold bytes
      simp only [h1, h2, h3, h4, h5, h6, h7, h8, h9, if_false, if_true]
    rw [this, List.length_replicate]
  · have e1 : bytes i f a = [] := by
      unfold bytes
      simp only [h1, h2, h3, h4, h5, h6, h7, h8, h9, if_false]
    have e2 : size i f a = 0 := by
      have h9' : ¬ i.op.kind = 9 := fun e => h9 (.inl e)
      have h10 : ¬ i.op.kind = 10 := fun e => h9 (.inr e)
      unfold size
      simp only [h1, h2, h3, h4, h5, h6, h7, h8, h9', h10, or_self, if_false]
    rw [e1, e2]; rfl
theorem placed_size {lines : List Line} (hS : Simp lines) (st : List Int) (l : Line) (hl : l ∈ lines) (f a : Int) : size (placed lines st l.ins) f a = size l.ins f a := by
  cases hj : isJump l.ins.op
  · have hn := (hS.plain l hl hj).2.2.2.2
    have : placed lines st l.ins = l.ins := by
      unfold placed
      have e : (l.ins.oprs.map fun o => (⟨[], numberOf lines st o⟩ : Opr)) = l.ins.oprs := by
        rw [List.map_congr_left (g := id) (fun o ho => by
          have := hn o ho
          obtain ⟨nm, n⟩ := o
          simp only at this
          subst this
          simp [numberOf])]
        simp
      rw [e]
    rw [this]
  · rw [size_jump _ hj, size_jump _ (by exact hj)]
    rfl
def FarOk (lines : List Line) (G : List Int) : Prop := ∀ k (hk : k < lines.length), lines[k].ins.op.kind = 6 → 1 ≤ G.getD k 0
theorem image_len_from {lines : List Line} (hS : Simp lines) (st : List Int) : ∀ (ls : List Line) (fs : List Int) (a : Int), fs.length = ls.length → (∀ l ∈ ls, l ∈ lines) → (∀ k (hk : k < ls.length), 0 ≤ fs.getD k 0 ∧ fs.getD k 0 ≤ 2 ∧ (ls[k].ins.op.kind = 6 → fs.getD k 0 ≠ 0)) → ((image lines st ls fs (starts a ls fs)).length : Int) = (starts a ls fs).getD ls.length 0 - a
  | [], [], a, _, _, _ => by simp [image, starts]
  | [], _ :: _, _, h, _, _ => by cases h
  | _ :: _, [], _, h, _, _ => by cases h
  | l :: ls, f :: fs, a, h, hm, hf => by
    have h0 := hf 0 (by simp)
    simp only [List.getD_cons_zero, List.getElem_cons_zero] at h0
    have hb := bytes_len (placed lines st l.ins) f a ⟨h0.1, h0.2.1⟩ (by exact h0.2.2)
    rw [placed_size hS st l (hm l (by simp))] at hb
    have hz := sz_facts hS l (hm l (by simp)) f a h0.1 h0.2.1
    have ih := image_len_from hS st ls fs (a + size l.ins f a) (by simpa using h) (fun x hx => hm x (by simp [hx])) (fun k hk => by
      have := hf (k + 1) (by simpa using hk)
      simpa using this)
    simp only [starts, image, List.length_append, List.length_cons, List.getD_cons_succ]
    rw [Int.natCast_add, ih, hb]
    omega
theorem image_len {lines : List Line} (hS : Simp lines) {G : List Int} (hG : G.length = lines.length) (hR : Rng G) (hf : FarOk lines G) : ((image lines (starts 0 lines G) lines G (starts 0 lines G)).length : Int) = P lines G lines.length := by
  rw [image_len_from hS _ lines G 0 hG (fun _ h => h) (fun k hk => ⟨(hR k).1, (hR k).2, fun h => by have := hf k hk h; omega⟩)]
  unfold P; omega
theorem image_mono {lines : List Line} (hS : Simp lines) {F G : List Int} (hF : F.length = lines.length) (hG : G.length = lines.length) (hRF : Rng F) (hRG : Rng G) (hle : Le F G) (hf : FarOk lines F) : (image lines (starts 0 lines F) lines F (starts 0 lines F)).length ≤ (image lines (starts 0 lines G) lines G (starts 0 lines G)).length := by
  have h1 := image_len hS hF hRF hf
  have h2 := image_len hS hG hRG (fun k hk h => by have := hf k hk h; have := hle k; omega)
  have m := P_mono hS hF hG hRF hRG hle 0 lines.length (by omega)
  rw [Nat.zero_add, P_zero, P_zero] at m
  omega
/-- Forms that have no room stay as they are. -/
theorem settle_top {lines : List Line} (hS : Simp lines) : ∀ (n : Nat) (F : List Int), F.length = lines.length → ∀ k (hk : k < lines.length), (settle 0 lines n F).getD k 0 ≤ max (F.getD k 0) lines[k].ins.op.last
  | 0, F, _, k, hk => by simp only [settle]; omega
  | n + 1, F, hF, k, hk => by
    unfold settle
    simp only
    split
    · omega
    · have ih := settle_top hS n (lng lines F) (lng_length hF) k hk
      have h1 : (lng lines F).getD k 0 ≤ max (F.getD k 0) lines[k].ins.op.last := by
        rcases lng_get hF k hk with ⟨_, h1, h2⟩ | ⟨_, h2⟩ <;> rw [h2] <;> omega
      unfold lng at ih h1
      omega
theorem first_get (lines : List Line) (k : Nat) (hk : k < lines.length) : (firstForms lines).getD k 0 = lines[k].ins.op.first := by
  rw [List.getD_eq_getElem?_getD]
  simp only [firstForms, List.getElem?_map, List.getElem?_eq_getElem hk, Option.map_some, Option.getD_some]
theorem lay_top {lines : List Line} (hS : Simp lines) (k : Nat) (hk : k < lines.length) : (layForms 0 lines).getD k 0 ≤ max lines[k].ins.op.first lines[k].ins.op.last := by
  have := settle_top hS (2 * lines.length + 1) (firstForms lines) (by simp [firstForms]) k hk
  rw [first_get lines k hk] at this
  exact this
theorem lay_ge {lines : List Line} (hS : Simp lines) (k : Nat) (hk : k < lines.length) : lines[k].ins.op.first ≤ (layForms 0 lines).getD k 0 := by
  have := (lay_settled hS).ge k
  rw [first_get lines k hk] at this
  exact this
/-- The least layout, held against one with forms that were given. -/
theorem lay_same_le {ls ks : List Line} (hs : Same ls ks) (hS : Simp ls) (hK : Simp ks) (hfirst : ∀ k (h1 : k < ls.length) (h2 : k < ks.length), ls[k].ins.op.first ≤ ks[k].ins.op.first) (hv : Valid ks (layForms 0 ks)) : Le (layForms 0 ls) (layForms 0 ks) := by
  have h2 := lay_settled hK
  refine (lay_settled hS).least (layForms 0 ks) (by rw [h2.len, hs.length]) h2.rng (fun k => ?_) (hs.symm.valid hv)
  by_cases hk : k < ls.length
  · have hk' : k < ks.length := by rw [← hs.length]; exact hk
    rw [first_get ls k hk]
    exact Int.le_trans (hfirst k hk hk') (lay_ge hK k hk')
  · rw [getD_over _ _ (by simp [firstForms]; omega)]; exact (h2.rng k).1
/-- Forms that are given as they came out change nothing. -/
theorem lay_same_eq {ls ks : List Line} (hs : Same ls ks) (hS : Simp ls) (hK : Simp ks) (hv : Valid ls (layForms 0 ls)) (h : ∀ k (h1 : k < ls.length) (h2 : k < ks.length), (ks[k].ins.op.first = ls[k].ins.op.first ∧ ks[k].ins.op.last = ls[k].ins.op.last) ∨ (ks[k].ins.op.first = (layForms 0 ls).getD k 0 ∧ ks[k].ins.op.last = (layForms 0 ls).getD k 0)) (h2 : ∀ l ∈ ls, isJump l.ins.op = true → l.ins.op.last = 2) :
    layForms 0 ks = layForms 0 ls ∧ Valid ks (layForms 0 ks) := by
  have a := lay_settled hS
  have b := lay_settled hK
  have hlen := hs.length
  have hle : Le (layForms 0 ks) (layForms 0 ls) := b.least _ (by rw [a.len, hlen]) a.rng (fun k => by
    by_cases hk : k < ks.length
    · rw [first_get ks k hk]
      rcases h k (by omega) hk with ⟨e, _⟩ | ⟨e, _⟩
      · rw [e]; exact lay_ge hS k (by omega)
      · omega
    · rw [getD_over _ _ (by simp [firstForms]; omega)]; exact (a.rng k).1) (hs.valid hv)
  have hvk : Valid ks (layForms 0 ks) := fun k hm => by
    have hk := hm.1
    have hk' : k < ls.length := by omega
    rcases h k hk' hk with ⟨_, e⟩ | ⟨e1, e2⟩
    · exact settled_valid hK b k (fun _ hj => by rw [e]; exact h2 _ (List.getElem_mem _) (by rw [hs.jump k hk' hk]; exact hj)) hm
    · have t1 := lay_ge hK k hk
      have t2 := lay_top hK k hk
      have he : (layForms 0 ks).getD k 0 = (layForms 0 ls).getD k 0 := by omega
      exact hs.valid hv k (fits_mono hK b.len (by rw [a.len, hlen]) b.rng a.rng hle k he hm)
  refine ⟨le_antisymm' (by rw [a.len, b.len, hlen]) hle (lay_same_le hs hS hK (fun k h1 h3 => ?_) hvk), hvk⟩
  rcases h k h1 h3 with ⟨e, _⟩ | ⟨e, _⟩
  · omega
  · rw [e]; exact lay_ge hS k h1
end Go.Proofs.YtegiloiojloaoaaGreatDoor.Strd

set_option linter.unusedVariables false
set_option linter.unusedSimpArgs false
namespace Go.Proofs.YtegiloiojloaoaaGreatDoor.Strd

def emptyLine : Line := ⟨[], emptyIns⟩
def L (ps : List (ML × Nat)) : List Line := linesOf ps ++ [emptyLine]
structure MsOk (ms : List ML) : Prop where
  ok : ∀ m ∈ ms, MLOk m
  fresh : ms.Pairwise fun a b => 0 ≤ a.label → 0 ≤ b.label → a.label < b.label
  all : ∀ j : Nat, j < 6 → ∃ m ∈ ms, m.label = (j : Int)
  len : ms.length ≤ 40
theorem made_msOk (l : List Item) : MsOk (made l) := ⟨made_ok _ _, made_pairs _ _, fun j hj => made_all _ _ j (by omega) hj, made_len40 l⟩
structure PsOk (ps : List (ML × Nat)) : Prop where
  ok : ∀ p ∈ ps, PairOk p
  ms : MsOk (ps.map (·.1))
theorem PsOk.len {ps : List (ML × Nat)} (h : PsOk ps) : ps.length ≤ 40 := by have := h.ms.len; simpa using this
theorem read_src (ps : List (ML × Nat)) (h : PsOk ps) : ∃ b, readSource (srcOf ps) = (⟨0, L ps, b⟩, 0, 0) := by
  have hl := src_len ps (fun p hp => (h.ok p hp).1)
  have h40 := h.len
  obtain ⟨b, e⟩ := src_read ps h.ok h.ms.fresh [] (by rw [List.append_nil]; omega)
  rw [List.append_nil] at e
  have hr : readLine [] = some emptyLine := by rfl
  have ha := add_ok ⟨0, linesOf ps, b⟩ [] emptyLine hr ⟨by rfl, by decide⟩ (by simp [hasLabel, emptyLine])
  refine ⟨b || emptyLine.label != [] || decide (emptyLine.ins.op.kind ≠ 0), ?_⟩
  rw [e, show split 10 ([] : Bs) = [[]] from rfl, addAll, ha]
  simp only [if_true, addAll]
  rfl
theorem asm_src (ps : List (ML × Nat)) (h : PsOk ps) : assemble (srcOf ps) = if (lay 0 (L ps)).2.2 ≠ 0 then ((0, []), (lay 0 (L ps)).2.1, (lay 0 (L ps)).2.2) else ((0, image (L ps) (lay 0 (L ps)).1.2 (L ps) (lay 0 (L ps)).1.1 (lay 0 (L ps)).1.2), 0, 0) := by
  obtain ⟨b, e⟩ := read_src ps h
  unfold assemble
  rw [e]
  simp
def opOf (w f : Nat) : Op := (find (jumpTexts.getD w [] ++ formTexts.getD f [])).getD ⟨0,0,0,0,0⟩
def opCheck (w f : Nat) : Bool := (opOf w f).kind == (opOf w 0).kind && (opOf w f).base == (opOf w 0).base && (opOf w f).number == (opOf w 0).number && isJump (opOf w f) && (decide ((opOf w f).kind ≠ 6) || decide (1 ≤ (opOf w f).first)) && decide (0 ≤ (opOf w 0).first) && decide ((opOf w 0).first ≤ (opOf w f).first) && (opOf w 0).last == 2 && decide ((opOf w f).first ≤ 2) && decide ((opOf w f).last ≤ 2) && (f == 0 || ((opOf w f).first == (f : Int) - 1 && (opOf w f).last == (f : Int) - 1))
theorem op_checks : ∀ w, w < 18 → ∀ f, f < 4 → formOk w f = true → opCheck w f = true := by decide +kernel
theorem op_facts (w : Nat) (hw : w < 18) (f : Nat) (hf : f < 4) (hk : formOk w f = true) : (opOf w f).kind = (opOf w 0).kind ∧ (opOf w f).base = (opOf w 0).base ∧ (opOf w f).number = (opOf w 0).number ∧ isJump (opOf w f) = true ∧ ((opOf w f).kind = 6 → 1 ≤ (opOf w f).first) ∧ 0 ≤ (opOf w 0).first ∧ (opOf w 0).first ≤ (opOf w f).first ∧ (opOf w 0).last = 2 ∧ (opOf w f).first ≤ 2 ∧ (opOf w f).last ≤ 2 ∧ (f ≠ 0 → (opOf w f).first = (f : Int) - 1 ∧ (opOf w f).last = (f : Int) - 1) := by
  have h := op_checks w hw f hf hk
  simp only [opCheck, Bool.and_eq_true, Bool.or_eq_true, beq_iff_eq, decide_eq_true_eq] at h
  obtain ⟨⟨⟨⟨⟨⟨⟨⟨⟨⟨h1, h2⟩, h3⟩, h4⟩, h5⟩, h6⟩, h7⟩, h8⟩, h9⟩, h10⟩, h11⟩ := h
  exact ⟨h1, h2, h3, h4, fun e => h5.resolve_left (fun n => n e), h6, h7, h8, h9, h10, fun n => h11.resolve_left n⟩
theorem body_op (m : ML) (f : Nat) (h : ¬ m.word < 0) : (m.body f).ins = ⟨opOf m.word.toNat f, [⟨nameTexts.getD m.to.toNat [], 0⟩]⟩ := by
  unfold ML.body; rw [if_neg h]; rfl
theorem rest_facts (r : Rest) (h : RestOk r) : isJump r.body.ins.op = false ∧ (∀ f a, size r.body.ins f a = size r.body.ins 0 0) ∧ 0 ≤ size r.body.ins 0 0 ∧ size r.body.ins 0 0 ≤ 1024 ∧ (∀ o ∈ r.body.ins.oprs, o.name = []) ∧ r.body.ins.op.first = 0 ∧ r.body.ins.op.last = 0 := by
  match r, h with
  | ⟨0, _, _⟩, h => simp [Rest.body, isJump, size]
  | ⟨1, _, _⟩, h => simp [Rest.body, isJump, size]
  | ⟨2, n, _⟩, h => have h : n ≤ 1024 := h; simp [Rest.body, isJump, size, num]; omega
  | ⟨3, a, b⟩, h => simp [Rest.body, isJump, size, num]
  | ⟨4, a, b⟩, h =>
    by_cases hs : addsShort (a : Int) = true <;> simp [Rest.body, isJump, size, num, hs]
  | ⟨_ + 5, a, b⟩, h => simp [Rest.body, isJump, size, num]
def RestEven : Rest → Prop
  | ⟨2, n, _⟩ => n % 2 = 0
  | _ => True
theorem rest_even (r : Rest) (h : RestEven r) : size r.body.ins 0 0 % 2 = 0 := by
  match r, h with
  | ⟨0, _, _⟩, h => simp [Rest.body, size]
  | ⟨1, _, _⟩, h => simp [Rest.body, size]
  | ⟨2, n, _⟩, h => have h : n % 2 = 0 := h; simp [Rest.body, size, num]; omega
  | ⟨3, a, b⟩, h => simp [Rest.body, size, num]
  | ⟨4, a, b⟩, h =>
    by_cases hs : addsShort (a : Int) = true <;> simp [Rest.body, size, num, hs]
  | ⟨_ + 5, a, b⟩, h => simp [Rest.body, size, num]
theorem item_even (x : Item) (k : Int) : RestEven (itemML x k).rest := by
  unfold itemML
  split
  · trivial
  · split
    · have := pick_range x.a 513 (by omega)
      show (2 * pick x.a 513).toNat % 2 = 0
      omega
    · repeat (split; · trivial)
      trivial
theorem made_even : ∀ (l : List Item) (many : Nat), ∀ m ∈ madeFrom many l, RestEven m.rest
  | [], many, m, h => by
    obtain ⟨k, h1, h2, rfl⟩ := left_mem many m h
    trivial
  | x :: t, many, m, h => by
    unfold madeFrom at h
    split at h
    · rcases List.mem_cons.1 h with rfl | h
      · exact item_even x _
      · exact made_even t _ m h
    · rcases List.mem_cons.1 h with rfl | h
      · exact item_even x _
      · exact made_even t _ m h
theorem line_cases {ps : List (ML × Nat)} {l : Line} (h : l ∈ L ps) : l = emptyLine ∨ ∃ p ∈ ps, l = p.1.line p.2 := by
  unfold L linesOf at h
  rcases List.mem_append.1 h with h | h
  · obtain ⟨p, hp, rfl⟩ := List.mem_map.1 h; exact .inr ⟨p, hp, rfl⟩
  · rw [List.mem_singleton] at h; exact .inl h
theorem simp_L (ps : List (ML × Nat)) (h : PsOk ps) (he : ∀ p ∈ ps, RestEven p.1.rest) : Simp (L ps) := by
  have h40 := h.len
  have hop : ∀ p ∈ ps, ¬ p.1.word < 0 → p.1.word.toNat < 18 ∧ p.2 < 4 ∧ formOk p.1.word.toNat p.2 = true := fun p hp hw => by
    have h1 := h.ok p hp
    have h2 := h1.1.word
    have h3 := h1.2 (by omega)
    refine ⟨by omega, ?_, h3⟩
    simp [formOk] at h3; exact h3.1
  refine ⟨by simp [L, linesOf]; omega, fun l hl hj => ?_, fun l hl hj => ?_, fun l hl => ?_⟩
  · rcases line_cases hl with rfl | ⟨p, hp, rfl⟩
    · simp [emptyLine, emptyIns, isJump] at hj
    · by_cases hw : p.1.word < 0
      · simp only [ML.line, ML.body, hw, if_true] at hj
        rw [(rest_facts _ (h.ok p hp).1.rest).1] at hj
        cases hj
      · have hto := (h.ok p hp).1.to
        obtain ⟨m, hm, hml⟩ := h.ms.all p.1.to.toNat (by omega)
        obtain ⟨q, hq, rfl⟩ := List.mem_map.1 hm
        have hn := (names_ok p.1.to.toNat (by omega)).2.2.1
        have hqn : q.1.name = nameTexts.getD p.1.to.toNat [] := by
          unfold ML.name
          rw [hml, if_neg (by omega), Int.toNat_natCast]
        have hany : ((L ps).findIdx? fun l => l.label == nameTexts.getD p.1.to.toNat []).isSome = true := by
          rw [List.findIdx?_isSome, List.any_eq_true]
          exact ⟨q.1.line q.2, List.mem_append_left _ (List.mem_map.2 ⟨q, hq, rfl⟩), by
            show (q.1.name == _) = true
            rw [hqn]; exact beq_self_eq_true _⟩
        obtain ⟨j, hj'⟩ := Option.isSome_iff_exists.1 hany
        exact ⟨nameTexts.getD p.1.to.toNat [], j, by simp only [ML.line]; rw [body_op _ _ hw], hn, hj'⟩
  · rcases line_cases hl with rfl | ⟨p, hp, rfl⟩
    · simp [emptyLine, emptyIns, size]
    · by_cases hw : p.1.word < 0
      · have h1 := rest_facts _ (h.ok p hp).1.rest
        have h2 := rest_even _ (he p hp)
        simp only [ML.line, ML.body, hw, if_true]
        exact ⟨h1.2.1, h1.2.2.1, h1.2.2.2.1, h2, h1.2.2.2.2.1⟩
      · have h1 := hop p hp hw
        simp only [ML.line] at hj
        rw [body_op _ _ hw] at hj
        rw [(op_facts _ h1.1 _ h1.2.1 h1.2.2).2.2.2.1] at hj
        cases hj
  · rcases line_cases hl with rfl | ⟨p, hp, rfl⟩
    · simp [emptyLine, emptyIns]
    · by_cases hw : p.1.word < 0
      · have h1 := rest_facts _ (h.ok p hp).1.rest
        simp only [ML.line, ML.body, hw, if_true]
        omega
      · have h1 := hop p hp hw
        simp only [ML.line]
        rw [body_op _ _ hw]
        have h2 := op_facts _ h1.1 _ h1.2.1 h1.2.2
        simp only
        omega
/-- The k-th line is the how manieth jump. -/
def jIdx (ms : List ML) (k : Nat) : Nat := (ms.take k).countP fun m => decide (0 ≤ m.word)
def jumpsIn (ms : List ML) : Nat := ms.countP fun m => decide (0 ≤ m.word)
theorem pairs_at : ∀ (ms : List ML) (fs : List Nat) (k : Nat) (h : k < ms.length) (h' : k < (pairs ms fs).length), (pairs ms fs)[k] = (ms[k], if ms[k].word < 0 then 0 else fs.getD (jIdx ms k) 0)
  | [], _, _, h, _ => by cases h
  | m :: ms, fs, 0, h, h' => by
    simp only [pairs, List.getElem_cons_zero]
    split
    · simp [*]
    · simp only [List.getElem_cons_zero, jIdx, List.take_zero, List.countP_nil]
      cases fs <;> rfl
  | m :: ms, fs, k + 1, h, h' => by
    have hk : k < ms.length := by simpa using h
    simp only [pairs, List.getElem_cons_succ, jIdx, List.take_succ_cons, List.countP_cons]
    by_cases hw : m.word < 0
    · simp only [hw, if_true, List.getElem_cons_succ]
      rw [pairs_at ms fs k hk (by rw [pairs_len]; exact hk)]
      rw [if_neg (show ¬ (decide (0 ≤ m.word) = true) by simp; omega), Nat.add_zero]
      rfl
    · simp only [hw, if_false, List.getElem_cons_succ]
      rw [pairs_at ms fs.tail k hk (by rw [pairs_len]; exact hk)]
      rw [if_pos (show decide (0 ≤ m.word) = true by simp; omega)]
      simp only [jIdx]
      congr 2
      cases fs <;> simp
def jf : List ML → List Int → List Nat
  | m :: ms, f :: F => if m.word < 0 then jf ms F else (f + 1).toNat :: jf ms F
  | _, _ => []
theorem jf_at : ∀ (ms : List ML) (F : List Int) (k : Nat) (h : k < ms.length), ms.length ≤ F.length → 0 ≤ ms[k].word → (jf ms F).getD (jIdx ms k) 0 = (F.getD k 0 + 1).toNat
  | [], _, _, h, _, _ => by cases h
  | _ :: _, [], _, _, h, _ => by simp at h
  | m :: ms, f :: F, 0, h, hl, hw => by
    simp only [List.getElem_cons_zero] at hw
    simp only [jf, jIdx, List.take_zero, List.countP_nil]
    rw [if_neg (by omega)]
    rfl
  | m :: ms, f :: F, k + 1, h, hl, hw => by
    simp only [List.getElem_cons_succ] at hw
    have ih := jf_at ms F k (by simpa using h) (by simpa using hl) hw
    simp only [jf, jIdx, List.take_succ_cons, List.countP_cons, List.getD_cons_succ]
    by_cases hm : m.word < 0
    · rw [if_pos hm, if_neg (show ¬ (decide (0 ≤ m.word) = true) by simp; omega), Nat.add_zero]
      exact ih
    · rw [if_neg hm, if_pos (show decide (0 ≤ m.word) = true by simp; omega), List.getD_cons_succ]
      exact ih
theorem jf_len : ∀ (ms : List ML) (F : List Int), ms.length ≤ F.length → (jf ms F).length = jumpsIn ms
  | [], F, _ => by cases F <;> rfl
  | _ :: _, [], h => by simp at h
  | m :: ms, f :: F, h => by
    have ih := jf_len ms F (by simpa using h)
    simp only [jf, jumpsIn, List.countP_cons]
    by_cases hm : m.word < 0
    · rw [if_pos hm, if_neg (show ¬ (decide (0 ≤ m.word) = true) by simp; omega)]
      exact ih
    · rw [if_neg hm, if_pos (show decide (0 ≤ m.word) = true by simp; omega), List.length_cons, ih]
      rfl
theorem jIdx_lt : ∀ (ms : List ML) (k : Nat) (h : k < ms.length), 0 ≤ ms[k].word → jIdx ms k < jumpsIn ms
  | [], _, h, _ => by cases h
  | m :: ms, 0, _, hw => by
    simp only [List.getElem_cons_zero] at hw
    simp only [jIdx, jumpsIn, List.take_zero, List.countP_nil, List.countP_cons]
    rw [if_pos (by simpa using hw)]; omega
  | m :: ms, k + 1, h, hw => by
    have ih := jIdx_lt ms k (by simpa using h) (by simpa using hw)
    simp only [jIdx, jumpsIn, List.take_succ_cons, List.countP_cons] at ih ⊢
    omega
theorem jIdx_at : ∀ (ms : List ML) (i : Nat), i < jumpsIn ms → ∃ k, ∃ h : k < ms.length, 0 ≤ ms[k].word ∧ jIdx ms k = i
  | [], i, h => by simp [jumpsIn] at h
  | m :: ms, i, h => by
    simp only [jumpsIn, List.countP_cons] at h
    by_cases hm : m.word < 0
    · rw [if_neg (show ¬ (decide (0 ≤ m.word) = true) by simp; omega), Nat.add_zero] at h
      obtain ⟨k, hk, h1, h2⟩ := jIdx_at ms i h
      refine ⟨k + 1, by simpa using hk, by simpa using h1, ?_⟩
      simp only [jIdx, List.take_succ_cons, List.countP_cons] at h2 ⊢
      rw [if_neg (show ¬ (decide (0 ≤ m.word) = true) by simp; omega)]
      omega
    · rw [if_pos (show decide (0 ≤ m.word) = true by simp; omega)] at h
      cases i with
      | zero => exact ⟨0, by simp, by simp; omega, by simp [jIdx]⟩
      | succ i =>
        obtain ⟨k, hk, h1, h2⟩ := jIdx_at ms i (by unfold jumpsIn; omega)
        refine ⟨k + 1, by simpa using hk, by simpa using h1, ?_⟩
        simp only [jIdx, List.take_succ_cons, List.countP_cons] at h2 ⊢
        rw [if_pos (show decide (0 ≤ m.word) = true by simp; omega)]
        omega
end Go.Proofs.YtegiloiojloaoaaGreatDoor.Strd

set_option linter.unusedVariables false
set_option linter.unusedSimpArgs false
namespace Go.Proofs.YtegiloiojloaoaaGreatDoor.Strd

structure MsEven (ms : List ML) : Prop where
  ok : MsOk ms
  even : ∀ m ∈ ms, RestEven m.rest
theorem made_msEven (l : List Item) : MsEven (made l) := ⟨made_msOk l, made_even _ _⟩
theorem pairs_mem {ms : List ML} {fs : List Nat} {p : ML × Nat} (h : p ∈ pairs ms fs) : p.1 ∈ ms := by
  have := List.mem_map_of_mem (f := (·.1)) h
  rwa [pairs_fst] at this
theorem pairs_lt : ∀ (ms : List ML) (fs : List Nat), (∀ f ∈ fs, f < 4) → ∀ p ∈ pairs ms fs, p.2 < 4
  | [], _, _, p, h => by cases h
  | m :: ms, fs, hf, p, h => by
    unfold pairs at h
    split at h
    · rcases List.mem_cons.1 h with rfl | h
      · simp
      · exact pairs_lt ms fs hf p h
    · rcases List.mem_cons.1 h with rfl | h
      · cases fs with
        | nil => simp
        | cons a t => exact hf a (by simp)
      · exact pairs_lt ms fs.tail (fun f h => hf f (List.mem_of_mem_tail h)) p h
/-- The short form of a far word is none. -/
theorem short_far : ∀ w : Nat, w < 2 → ∀ t : Nat, t < 6 → ∀ b : Nat, b < 7 → readLine (ML.text ⟨(b : Int) - 1, 16 + (w : Int), (t : Int), .nop⟩ 1) = none ∧ (ML.text ⟨(b : Int) - 1, 16 + (w : Int), (t : Int), .nop⟩ 1).all (fun c => c != 10) = true := by decide +kernel
theorem bad_pair (m : ML) (f : Nat) (hm : MLOk m) (hf : f < 4) (h : ¬ PairOk (m, f)) : readLine (m.text f) = none ∧ ∀ c ∈ m.text f, c ≠ 10 := by
  have h1 : 0 ≤ m.word ∧ 16 ≤ m.word ∧ f = 1 := by
    have : ¬ (0 ≤ m.word → formOk m.word.toNat f = true) := fun e => h ⟨hm, e⟩
    by_cases h0 : 0 ≤ m.word
    · have h2 : formOk m.word.toNat f = false := by
        cases e : formOk m.word.toNat f with
        | true => exact (this fun _ => e).elim
        | false => rfl
      simp [formOk, hf] at h2
      exact ⟨h0, by omega, h2.2⟩
    · exact (this fun e => (h0 e).elim).elim
  obtain ⟨h0, h16, rfl⟩ := h1
  have a := hm.label
  have b := hm.word
  have c := hm.to
  have e : m.text 1 = ML.text ⟨((m.label + 1).toNat : Int) - 1, 16 + ((m.word - 16).toNat : Int), (m.to.toNat : Int), .nop⟩ 1 := by
    rw [show ((m.label + 1).toNat : Int) - 1 = m.label by omega, show 16 + ((m.word - 16).toNat : Int) = m.word by omega, show (m.to.toNat : Int) = m.to by omega]
    unfold ML.text ML.body ML.name
    rw [if_neg (show ¬ m.word < 0 by omega), if_neg (show ¬ m.word < 0 by omega)]
  rw [e]
  have := short_far (m.word - 16).toNat (by omega) m.to.toNat (by omega) (m.label + 1).toNat (by omega)
  exact ⟨this.1, fun x hx => by simpa using List.all_eq_true.1 this.2 x hx⟩
theorem asm_bad (ms : List ML) (hM : MsOk ms) (fs : List Nat) (hf : ∀ f ∈ fs, f < 4) (h : ¬ ∀ p ∈ pairs ms fs, PairOk p) : (assemble (srcOf (pairs ms fs))).2.2 = 1 := by
  have hlt := pairs_lt ms fs hf
  have hml : ∀ p ∈ pairs ms fs, MLOk p.1 := fun p hp => hM.ok _ (pairs_mem hp)
  have hfr : ((pairs ms fs).map (·.1)).Pairwise fun a b => 0 ≤ a.label → 0 ≤ b.label → a.label < b.label := by rw [pairs_fst]; exact hM.fresh
  have hlen : (pairs ms fs).length ≤ 40 := by rw [pairs_len]; exact hM.len
  generalize pairs ms fs = ps at *
  obtain ⟨A, p, B, rfl, hA, hp⟩ : ∃ A p B, ps = A ++ p :: B ∧ (∀ q ∈ A, PairOk q) ∧ ¬ PairOk p := by
    clear hlt hml hfr hlen
    induction ps with
    | nil => exact (h fun p hp => by cases hp).elim
    | cons q qs ih =>
      by_cases hq : PairOk q
      · obtain ⟨A, p, B, e, hA, hp⟩ := ih fun hall => h fun p hp => by
          rcases List.mem_cons.1 hp with rfl | hp
          · exact hq
          · exact hall p hp
        exact ⟨q :: A, p, B, by rw [e]; rfl, fun x hx => by
          rcases List.mem_cons.1 hx with rfl | hx
          · exact hq
          · exact hA x hx, hp⟩
      · exact ⟨[], q, qs, rfl, fun x hx => (List.not_mem_nil hx).elim, hq⟩
  obtain ⟨hn, h10⟩ := bad_pair p.1 p.2 (hml p (by simp)) (hlt p (by simp)) hp
  have hsl := src_len _ hml
  have e : srcOf (A ++ p :: B) = srcOf A ++ (p.1.text p.2 ++ 10 :: srcOf B) := by
    rw [src_app]
    simp [srcOf]
  rw [e] at hsl ⊢
  obtain ⟨b, hr⟩ := src_read A hA (by
    rw [List.map_append] at hfr
    exact (List.pairwise_append.1 hfr).1) (p.1.text p.2 ++ 10 :: srcOf B) (by omega)
  have ha : ∀ r, add r (p.1.text p.2) = (r, 1) := fun r => by unfold add; rw [hn]
  unfold assemble
  rw [hr, split_at 10 _ _ h10, addAll, ha]
  simp
def Lp (ms : List ML) (fs : List Nat) : List Line := L (pairs ms fs)
def F0 (ms : List ML) : List Int := layForms 0 (Lp ms [])
theorem pairs_psOk {ms : List ML} (hM : MsEven ms) (fs : List Nat) (h : ∀ p ∈ pairs ms fs, PairOk p) : PsOk (pairs ms fs) := ⟨h, by rw [pairs_fst]; exact hM.ok⟩
theorem plain_psOk {ms : List ML} (hM : MsEven ms) : PsOk (pairs ms []) := pairs_psOk hM [] fun p hp => ⟨hM.ok.ok _ (pairs_mem hp), fun _ => by rw [pairs_nil _ p hp]; simp [formOk]⟩
theorem simp_Lp {ms : List ML} (hM : MsEven ms) (fs : List Nat) (h : ∀ p ∈ pairs ms fs, PairOk p) : Simp (Lp ms fs) := simp_L _ (pairs_psOk hM fs h) fun p hp => hM.even _ (pairs_mem hp)
theorem Lp_len (ms : List ML) (fs : List Nat) : (Lp ms fs).length = ms.length + 1 := by simp [Lp, L, linesOf, pairs_len]
theorem Lp_at (ms : List ML) (fs : List Nat) (k : Nat) (hk : k < ms.length) (h : k < (Lp ms fs).length) : (Lp ms fs)[k] = ms[k].line (if ms[k].word < 0 then 0 else fs.getD (jIdx ms k) 0) := by
  have h1 : k < (pairs ms fs).length := by rw [pairs_len]; exact hk
  have e : (Lp ms fs)[k]? = some (ms[k].line (if ms[k].word < 0 then 0 else fs.getD (jIdx ms k) 0)) := by
    unfold Lp L linesOf
    rw [List.getElem?_append_left (by simpa using h1), List.getElem?_map, List.getElem?_eq_getElem h1, pairs_at ms fs k hk h1]
    rfl
  rw [List.getElem?_eq_getElem h] at e
  exact Option.some.inj e
theorem Lp_last (ms : List ML) (fs : List Nat) (k : Nat) (hk : ¬ k < ms.length) (h : k < (Lp ms fs).length) : (Lp ms fs)[k] = emptyLine := by
  have h' := h
  rw [Lp_len] at h'
  obtain rfl : k = ms.length := by omega
  have e : (Lp ms fs)[ms.length]? = some emptyLine := by
    unfold Lp L linesOf
    rw [List.getElem?_append_right (by simp [pairs_len])]
    simp [pairs_len]
  rw [List.getElem?_eq_getElem h] at e
  exact Option.some.inj e
/-- Of a jump's line with a form that was given. -/
theorem line_facts {ms : List ML} (hM : MsEven ms) (fs : List Nat) (h : ∀ p ∈ pairs ms fs, PairOk p) (k : Nat) (h1 : k < (Lp ms []).length) (h2 : k < (Lp ms fs).length) :
    strip (Lp ms fs)[k] = strip (Lp ms [])[k] ∧ (Lp ms [])[k].ins.op.first ≤ (Lp ms fs)[k].ins.op.first ∧ ((Lp ms fs)[k].ins.op.kind = 6 → 1 ≤ (Lp ms fs)[k].ins.op.first) ∧
    ((isJump (Lp ms [])[k].ins.op = true → (Lp ms [])[k].ins.op.last = 2)) ∧
    (((Lp ms fs)[k].ins.op.first = (Lp ms [])[k].ins.op.first ∧ (Lp ms fs)[k].ins.op.last = (Lp ms [])[k].ins.op.last ∧ ∀ hk : k < ms.length, ms[k].word < 0 ∨ fs.getD (jIdx ms k) 0 = 0) ∨ (∃ hk : k < ms.length, 0 ≤ ms[k].word ∧ 1 ≤ fs.getD (jIdx ms k) 0 ∧ (Lp ms fs)[k].ins.op.first = (fs.getD (jIdx ms k) 0 : Int) - 1 ∧ (Lp ms fs)[k].ins.op.last = (fs.getD (jIdx ms k) 0 : Int) - 1)) := by
  by_cases hk : k < ms.length
  · rw [Lp_at ms [] k hk, Lp_at ms fs k hk]
    have hmem : ms[k] ∈ ms := List.getElem_mem _
    have hok := hM.ok.ok _ hmem
    by_cases hw : ms[k].word < 0
    · have hr := rest_facts _ hok.rest
      rw [if_pos hw, if_pos hw]
      refine ⟨rfl, Int.le_refl _, fun e => ?_, fun e => ?_, .inl ⟨rfl, rfl, fun _ => .inl hw⟩⟩
      · have := hr.1
        simp only [ML.line, ML.body, hw, if_true] at e
        simp [isJump, e] at this
      · simp only [ML.line, ML.body, hw, if_true] at e
        rw [hr.1] at e; cases e
    · rw [if_neg hw, if_neg hw]
      have hp : PairOk (ms[k], fs.getD (jIdx ms k) 0) := by
        have h3 : k < (pairs ms fs).length := by rw [pairs_len]; exact hk
        have h4 := h _ (List.getElem_mem h3)
        rw [pairs_at ms fs k hk h3, if_neg hw] at h4
        exact h4
      have hfo := hp.2 (by simp only; omega)
      simp only at hfo
      have h4 : fs.getD (jIdx ms k) 0 < 4 := by simp [formOk] at hfo; simpa using hfo.1
      have hwl := hok.word
      obtain ⟨f1, f2, f3, f4, f5, f6, f7, f8, f9, f10, f11⟩ := op_facts ms[k].word.toNat (by omega) _ h4 hfo
      rw [show ([] : List Nat).getD (jIdx ms k) 0 = 0 by simp]
      generalize fs.getD (jIdx ms k) 0 = f at *
      have e0 : (ms[k].line 0).ins = ⟨opOf ms[k].word.toNat 0, [⟨nameTexts.getD ms[k].to.toNat [], 0⟩]⟩ := body_op _ _ hw
      have ef : (ms[k].line f).ins = ⟨opOf ms[k].word.toNat f, [⟨nameTexts.getD ms[k].to.toNat [], 0⟩]⟩ := body_op _ _ hw
      refine ⟨?_, ?_, ?_, ?_, ?_⟩
      · unfold strip
        rw [e0, ef]
        simp only [f1, f2, f3]
        rfl
      · rw [e0, ef]; exact f7
      · rw [ef]; exact f5
      · rw [e0]; intro _; exact f8
      · rw [e0, ef]
        by_cases hz : f = 0
        · subst hz
          exact .inl ⟨rfl, rfl, fun _ => .inr rfl⟩
        · have := f11 hz
          exact .inr ⟨hk, by omega, by omega, this.1, this.2⟩
  · rw [Lp_last ms [] k hk, Lp_last ms fs k hk]
    exact ⟨rfl, Int.le_refl _, by simp [emptyLine, emptyIns], by simp [emptyLine, emptyIns, isJump], .inl ⟨rfl, rfl, fun e => (hk e).elim⟩⟩
theorem same_Lp {ms : List ML} (hM : MsEven ms) (fs : List Nat) (h : ∀ p ∈ pairs ms fs, PairOk p) : Same (Lp ms []) (Lp ms fs) := by
  unfold Same
  apply List.ext_getElem
  · simp [Lp_len]
  · intro k h1 h2
    rw [List.getElem_map, List.getElem_map]
    exact (line_facts hM fs h k (by simpa using h1) (by simpa using h2)).1.symm
theorem F0_valid {ms : List ML} (hM : MsEven ms) : Valid (Lp ms []) (F0 ms) := fun k hm => by
  have hS := simp_Lp hM [] (plain_psOk hM).ok
  exact settled_valid hS (lay_settled hS) k (fun hk hj => (line_facts hM [] (plain_psOk hM).ok k hk hk).2.2.2.1 hj) hm
theorem far_ok {ms : List ML} (hM : MsEven ms) (fs : List Nat) (h : ∀ p ∈ pairs ms fs, PairOk p) : FarOk (Lp ms fs) (layForms 0 (Lp ms fs)) := fun k hk h6 => by
  have h1 : k < (Lp ms []).length := by rw [Lp_len] at hk ⊢; exact hk
  have := (line_facts hM fs h k h1 hk).2.2.1 h6
  have := lay_ge (simp_Lp hM fs h) k hk
  omega
def imgOf (ls : List Line) (G : List Int) : Bs := image ls (starts 0 ls G) ls G (starts 0 ls G)
theorem asm_valid {ms : List ML} (hM : MsEven ms) (fs : List Nat) (h : ∀ p ∈ pairs ms fs, PairOk p) (hv : Valid (Lp ms fs) (layForms 0 (Lp ms fs))) : assemble (srcOf (pairs ms fs)) = ((0, imgOf (Lp ms fs) (layForms 0 (Lp ms fs))), 0, 0) := by
  rw [asm_src _ (pairs_psOk hM fs h)]
  rcases lay_simp (simp_Lp hM fs h) with ⟨_, e⟩ | ⟨hn, _⟩
  · unfold Lp at e
    rw [e]
    simp [imgOf, Lp]
  · exact (hn hv).elim
theorem asm_far {ms : List ML} (hM : MsEven ms) (fs : List Nat) (h : ∀ p ∈ pairs ms fs, PairOk p) (hv : ¬ Valid (Lp ms fs) (layForms 0 (Lp ms fs))) : (assemble (srcOf (pairs ms fs))).2.2 = 6 := by
  rw [asm_src _ (pairs_psOk hM fs h)]
  rcases lay_simp (simp_Lp hM fs h) with ⟨hy, _⟩ | ⟨_, e⟩
  · exact (hv hy).elim
  · unfold Lp at e
    rw [e]
    simp
/-- Without forms there is an image. -/
theorem plain_asm {ms : List ML} (hM : MsEven ms) : assemble (srcOf (pairs ms [])) = ((0, imgOf (Lp ms []) (F0 ms)), 0, 0) := asm_valid hM [] (plain_psOk hM).ok (F0_valid hM)
/-- With forms that fit none is shorter. -/
theorem least_len {ms : List ML} (hM : MsEven ms) (fs : List Nat) (hf : ∀ f ∈ fs, f < 4) (h0 : (assemble (srcOf (pairs ms fs))).2.2 = 0) : (assemble (srcOf (pairs ms []))).1.2.length ≤ (assemble (srcOf (pairs ms fs))).1.2.length := by
  by_cases h : ∀ p ∈ pairs ms fs, PairOk p
  · by_cases hv : Valid (Lp ms fs) (layForms 0 (Lp ms fs))
    · rw [plain_asm hM, asm_valid hM fs h hv]
      have hs := same_Lp hM fs h
      have hS := simp_Lp hM [] (plain_psOk hM).ok
      have hK := simp_Lp hM fs h
      have hle := lay_same_le hs hS hK (fun k h1 h2 => (line_facts hM fs h k h1 h2).2.1) hv
      have a := lay_settled hS
      have b := lay_settled hK
      have := image_mono hS a.len (by rw [b.len, hs.length]) a.rng b.rng hle (far_ok hM [] (plain_psOk hM).ok)
      unfold imgOf F0
      rw [← hs.image, ← hs.starts]
      exact this
    · rw [asm_far hM fs h hv] at h0; cases h0
  · rw [asm_bad ms hM.ok fs hf h] at h0; cases h0
/-- The jumps' forms as they came out, by 1 to 3. -/
def out (ms : List ML) : List Nat := jf ms (F0 ms)
theorem F0_len {ms : List ML} (hM : MsEven ms) : (F0 ms).length = ms.length + 1 := by
  have := (lay_settled (simp_Lp hM [] (plain_psOk hM).ok)).len
  rw [Lp_len] at this
  exact this
theorem out_len {ms : List ML} (hM : MsEven ms) : (out ms).length = jumpsIn ms := jf_len _ _ (by rw [F0_len hM]; omega)
theorem out_at {ms : List ML} (hM : MsEven ms) (k : Nat) (hk : k < ms.length) (hw : 0 ≤ ms[k].word) : ((out ms).getD (jIdx ms k) 0 : Int) = (F0 ms).getD k 0 + 1 ∧ 0 ≤ (F0 ms).getD k 0 ∧ (F0 ms).getD k 0 ≤ 2 := by
  have hr := (lay_settled (simp_Lp hM [] (plain_psOk hM).ok)).rng k
  have h1 := jf_at ms (F0 ms) k hk (by rw [F0_len hM]; omega) hw
  unfold out
  rw [h1]
  have hr' : 0 ≤ (F0 ms).getD k 0 ∧ (F0 ms).getD k 0 ≤ 2 := hr
  omega
theorem out_rng {ms : List ML} (hM : MsEven ms) (i : Nat) (hi : i < jumpsIn ms) : 1 ≤ (out ms).getD i 0 ∧ (out ms).getD i 0 ≤ 3 := by
  obtain ⟨k, hk, hw, rfl⟩ := jIdx_at ms i hi
  have := out_at hM k hk hw
  omega
/-- Forms as they came out, for some of the jumps: the image stays. -/
theorem agree_eq {ms : List ML} (hM : MsEven ms) (fs : List Nat) (hf : ∀ i, fs.getD i 0 = 0 ∨ fs.getD i 0 = (out ms).getD i 0) : assemble (srcOf (pairs ms fs)) = assemble (srcOf (pairs ms [])) := by
  have hS := simp_Lp hM [] (plain_psOk hM).ok
  have hok : ∀ p ∈ pairs ms fs, PairOk p := fun p hp => by
    obtain ⟨k, hk, rfl⟩ := List.getElem_of_mem hp
    have hk' : k < ms.length := by rw [pairs_len] at hk; exact hk
    rw [pairs_at ms fs k hk' hk]
    refine ⟨hM.ok.ok _ (List.getElem_mem _), fun hw => ?_⟩
    simp only at hw ⊢
    rw [if_neg (by omega)]
    rcases hf (jIdx ms k) with e | e
    · rw [e]; simp [formOk]
    · have h1 := out_at hM k hk' hw
      rw [← e] at h1
      have h1k : k < (Lp ms []).length := by rw [Lp_len]; omega
      have h2 := line_facts hM [] (plain_psOk hM).ok k h1k h1k
      have h3 : (Lp ms [])[k].ins.op.first ≤ (F0 ms).getD k 0 := lay_ge hS k h1k
      have hwl := (hM.ok.ok _ (List.getElem_mem hk')).word
      have h5 : (Lp ms [])[k].ins = ⟨opOf ms[k].word.toNat 0, [⟨nameTexts.getD ms[k].to.toNat [], 0⟩]⟩ := by
        rw [Lp_at ms [] k hk', if_neg (by omega)]
        exact body_op _ _ (by omega)
      rw [h5] at h3
      have h6 : 16 ≤ ms[k].word.toNat → 1 ≤ (opOf ms[k].word.toNat 0).first := by
        have : ∀ w, w < 18 → 16 ≤ w → 1 ≤ (opOf w 0).first := by decide +kernel
        exact this _ (by omega)
      simp only at h3
      generalize fs.getD (jIdx ms k) 0 = f at *
      simp only [formOk, Bool.and_eq_true, decide_eq_true_eq, Bool.not_eq_true', Bool.and_eq_false_iff, decide_eq_false_iff_not, beq_eq_false_iff_ne]
      omega
  have hs := same_Lp hM fs hok
  have hK := simp_Lp hM fs hok
  have := lay_same_eq hs hS hK (F0_valid hM) (fun k h1 h2 => by
    obtain ⟨_, _, _, _, h⟩ := line_facts hM fs hok k h1 h2
    rcases h with ⟨e1, e2, _⟩ | ⟨hk, hw, hp, e1, e2⟩
    · exact .inl ⟨e1, e2⟩
    · right
      rcases hf (jIdx ms k) with e | e
      · omega
      · have h1 : ((out ms).getD (jIdx ms k) 0 : Int) = (layForms 0 (Lp ms [])).getD k 0 + 1 := (out_at hM k hk hw).1
        rw [← e] at h1
        omega) (fun l hl hj => by
    obtain ⟨k, hk, rfl⟩ := List.getElem_of_mem hl
    exact (line_facts hM [] (plain_psOk hM).ok k hk hk).2.2.2.1 hj)
  rw [asm_valid hM fs hok this.2, plain_asm hM, this.1]
  unfold imgOf F0
  rw [← hs.image, ← hs.starts]
/-- A form shorter than the one that came out: no image. -/
theorem less_bad {ms : List ML} (hM : MsEven ms) (fs : List Nat) (hf4 : ∀ f ∈ fs, f < 4) (i : Nat) (hi : i < jumpsIn ms) (h1 : 1 ≤ fs.getD i 0) (h2 : fs.getD i 0 < (out ms).getD i 0) : (assemble (srcOf (pairs ms fs))).2.2 = 1 ∨ (assemble (srcOf (pairs ms fs))).2.2 = 6 := by
  by_cases h : ∀ p ∈ pairs ms fs, PairOk p
  · right
    refine asm_far hM fs h fun hv => ?_
    have hs := same_Lp hM fs h
    have hS := simp_Lp hM [] (plain_psOk hM).ok
    have hK := simp_Lp hM fs h
    have hle := lay_same_le hs hS hK (fun k h1 h2 => (line_facts hM fs h k h1 h2).2.1) hv
    obtain ⟨k, hk, hw, rfl⟩ := jIdx_at ms i hi
    have hk1 : k < (Lp ms []).length := by rw [Lp_len]; omega
    have hk2 : k < (Lp ms fs).length := by rw [Lp_len]; omega
    obtain ⟨_, _, _, _, hc⟩ := line_facts hM fs h k hk1 hk2
    have ho := (out_at hM k hk hw).1
    have hl := hle k
    have ht := lay_top hK k hk2
    have hF : (F0 ms).getD k 0 = (layForms 0 (Lp ms [])).getD k 0 := rfl
    rcases hc with ⟨_, _, e⟩ | ⟨_, _, _, e1, e2⟩
    · rcases e hk with e | e <;> omega
    · omega
  · left; exact asm_bad ms hM.ok fs hf4 h
end Go.Proofs.YtegiloiojloaoaaGreatDoor.Strd
