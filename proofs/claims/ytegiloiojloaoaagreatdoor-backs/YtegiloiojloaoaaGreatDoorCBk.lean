/- Disassemble as plain functions; what it tells of an image is made into this image again. -/
import Derived.Test.YtegiloiojloaoaaGreatDoorCSpec
set_option linter.unusedVariables false
set_option linter.unusedSimpArgs false
namespace Go.Proofs.YtegiloiojloaoaaGreatDoor.Strd

/-- The word at a place; 0 where there are too few bytes. -/
def wordAt (s : Bs) (k : Nat) : Int := if k + 2 ≤ s.length then 256 * ((s.getD k 0).toNat : Int) + ((s.getD (k + 1) 0).toNat : Int) else 0
def sgn8 (n : Int) : Int := (n + 128) % 256 - 128
def sgn16 (n : Int) : Int := (n + 32768) % 65536 - 32768
def opersIn (o : Op) (s : Bs) (addr : Int) : List Int :=
  if o.kind = 2 then [wordAt s 0 % 8, wordAt s 0 / 512 % 8]
  else if o.kind = 3 then [sgn8 (wordAt s 0), wordAt s 0 / 512 % 8]
  else if o.kind = 4 then (if wordAt s 0 < 0x5040 then [wordAt s 2, wordAt s 0 % 8] else [(wordAt s 0 / 512 % 8 + 7) % 8 + 1, wordAt s 0 % 8])
  else if o.kind = 5 then (if o.first = 0 then [addr + 2 + sgn8 (wordAt s 0)] else [addr + 2 + sgn16 (wordAt s 2)])
  else if o.kind = 6 then (if o.first = 1 then [wordAt s 2] else [65536 * wordAt s 2 + wordAt s 4])
  else []
def insOf (o : Op) (l : List Int) : Ins := ⟨o, l.map fun n => ⟨[], n⟩⟩
def begins (i : Ins) (s : Bs) (addr : Int) : Bool :=
  if isJump i.op = true ∧ fits i.op i.op.first addr (num i 0) = false then false
  else (bytes i i.op.first addr).isPrefixOf s
def matchOps : List Op :=
  (fixedWords.take 8).map (fun r => ⟨r.2.1, r.2.2, 0, 0, 0⟩)
  ++ ((List.range 16).map fun (n : Nat) => [jumpOp n 0 0, jumpOp n 1 1]).flatten
  ++ (farWords.map fun r => [farOp r.2 1 1, farOp r.2 2 2]).flatten
def matchIns (s : Bs) (addr : Int) : Option Ins := (matchOps.map fun o => insOf o (opersIn o s addr)).find? fun i => begins i s addr
def wordsOp : Op := ⟨7, 0, 0, 0, 0⟩
def bytesOp : Op := ⟨8, 0, 0, 0, 0⟩
def orgOp : Op := ⟨11, 0, 0, 0, 0⟩
def firstIns (s : Bs) (addr : Int) : Ins :=
  match matchIns s addr with
  | some i => i
  | none => if s.length = 1 then insOf bytesOp [((s.getD 0 0).toNat : Int)] else insOf wordsOp [256 * ((s.getD 0 0).toNat : Int) + ((s.getD 1 0).toNat : Int)]
def formEndings : List Bs := [[46,115],[46,119],[46,108]]
def ending (o : Op) : Bs := if o.first < o.last then [] else formEndings.getD o.first.toNat []
def wordOf (o : Op) : Bs :=
  if o.kind = 5 then jumpWords.getD o.number.toNat [] ++ ending o
  else match (if o.kind = 6 then farWords.find? (fun r => r.2 == o.base) else none) with
  | some r => r.1 ++ ending o
  | none => match fixedWords.find? (fun r => r.2.1 == o.kind && r.2.2 == o.base) with
    | some r => r.1
    | none => []
def itoa (n : Int) : Bs := if n < 0 then 45 :: dec (-n).toNat else dec n.toNat
def oprText (r n : Int) : Bs := mark r ++ itoa n
def oprTexts (i : Ins) : List Bs := List.zipWith (fun r (o : Opr) => oprText r o.num) (roles i.op.kind i.oprs.length) i.oprs
def joined : List Bs → Bs
  | [] => []
  | x :: xs => 32 :: x ++ (xs.map (44 :: ·)).flatten
def insText (i : Ins) : Bs := wordOf i.op ++ joined (oprTexts i)
def disFrom : Nat → Int → Bs → List Ins
  | 0, _, _ => []
  | f + 1, a, s => if s = [] then [] else firstIns s a :: disFrom f (a + size (firstIns s a) (firstIns s a).op.first a) (s.drop (size (firstIns s a) (firstIns s a).op.first a).toNat)
def mayBe (org : Int) (s : Bs) : Bool := isPlace org && decide (s.length ≤ 400) && decide (org + s.length - 1 ≤ 0xfffffe)
def disLines (org : Int) (s : Bs) : List Ins := insOf orgOp [org] :: disFrom s.length org s
def disText (l : List Ins) : Bs := (l.map fun i => insText i ++ [10]).flatten
def disassemble (org : Int) (s : Bs) : Bs × Int := if mayBe org s = true then (disText (disLines org s), 0) else ([], 8)

theorem itoa_plain (n : Int) : ∀ c ∈ itoa n, plainSign c = true := by
  unfold itoa
  split
  · intro c hc
    rcases List.mem_cons.1 hc with rfl | hc
    · decide
    · exact dec_plain _ c hc
  · exact dec_plain _
theorem itoa_pos (n : Int) : itoa n ≠ [] := by
  unfold itoa
  split
  · simp
  · exact dec_pos _
theorem number_itoa (n : Int) (h1 : -100000000 < n) (h2 : n < 100000000) : number (itoa n) = some n := by
  unfold itoa
  split
  · rename_i hn
    have hv := number_dec (-n).toNat (by omega)
    have hl := dec_len (-n).toNat 7 (by omega)
    have hp := dec_pos (-n).toNat
    have hd := dec_digs (-n).toNat
    have hval := dec_val (-n).toNat
    generalize dec (-n).toNat = s at *
    unfold number
    simp only [show cutHead 45 (45 :: s) = (s, true) from rfl]
    cases s with
    | nil => exact (hp rfl).elim
    | cons c t =>
      obtain ⟨d, hd10, rfl⟩ := hd c (by simp)
      have hdv := dig_val d hd10
      have e2 : cutHead 36 ((48 + d).toUInt8 :: t) = ((48 + d).toUInt8 :: t, false) := by rw [cutHead, if_neg hdv.2.2.2.2.2.2.2.1]
      simp only [e2]
      rw [if_pos ⟨by simp, hl⟩]
      rw [if_neg (by simp), hval]
      show some (-(((-n).toNat : Nat) : Int)) = some n
      congr 1
      omega
  · rw [number_dec _ (by omega)]
    congr 1
    omega
theorem itoa_noName (n : Int) : isName (itoa n) = false := by
  unfold itoa
  split
  · unfold isName
    rw [List.length_cons]
    have hs : ∀ t, signLen (45 :: t) = 1 := fun t => by simp [signLen]
    simp only [nameCount, hs]
    rfl
  · exact digs_noName _ (dec_digs _)
theorem readOperand_itoa (r n : Int) (hr : r = 0 ∧ 0 ≤ n ∧ n ≤ 7 ∨ (r = 1 ∨ r = 2 ∨ r = 3) ∧ -100000000 < n ∧ n < 100000000) : readOperand r (oprText r n) = some ⟨[], n⟩ := by
  rcases hr with ⟨rfl, h0, h7⟩ | ⟨hr, h1, h2⟩
  · have := readOperand_reg n.toNat (by omega)
    unfold oprText itoa
    rw [if_neg (by omega)]
    rw [show ((n.toNat : Nat) : Int) = n by omega] at this
    exact this
  · unfold oprText readOperand
    have hm : mark r = [] ∨ mark r = [35] := by rcases hr with rfl | rfl | rfl <;> simp [mark]
    have hc : ¬ (r = 3 ∧ isName (mark r ++ itoa n) = true) := by
      rintro ⟨rfl, h⟩
      rw [show mark 3 = [] from rfl, List.nil_append, itoa_noName] at h
      cases h
    rw [if_neg hc]
    have hsp : stripPrefix (mark r ++ itoa n) (mark r) = some (itoa n) := by
      rcases hm with h | h <;> rw [h] <;> simp [stripPrefix]
    rw [hsp]
    simp only
    rw [if_neg (by rcases hr with rfl | rfl | rfl <;> simp), number_itoa n h1 h2]
    rfl
theorem oprText_plain (r n : Int) : ∀ c ∈ oprText r n, plainSign c = true := by
  unfold oprText
  intro c hc
  rcases List.mem_append.1 hc with hc | hc
  · unfold mark at hc
    split at hc
    · rw [List.mem_singleton] at hc; subst hc; decide
    · split at hc
      · rw [List.mem_singleton] at hc; subst hc; decide
      · cases hc
  · exact itoa_plain n c hc
theorem oprText_pos (r n : Int) : oprText r n ≠ [] := by
  unfold oprText
  intro h
  exact itoa_pos n (List.append_eq_nil_iff.1 h).2
/-- The role and the number of an operand that is told. -/
def OprOk (kind r n : Int) : Prop := (r = 0 ∧ 0 ≤ n ∧ n ≤ 7 ∨ (r = 1 ∨ r = 2 ∨ r = 3) ∧ -100000000 < n ∧ n < 100000000) ∧ (r ≠ 0 → allows kind n = true)
theorem rops_told (kind : Int) : ∀ (rs ns : List Int), rs.length = ns.length → (∀ p ∈ rs.zip ns, OprOk kind p.1 p.2) → ropsAll rs (List.zipWith (fun r (o : Opr) => oprText r o.num) rs (ns.map fun n => ⟨[], n⟩)) = some (ns.map fun n => ⟨[], n⟩) ∧ numbersOk kind rs (ns.map fun n => ⟨[], n⟩) = true
  | [], [], _, _ => ⟨rfl, rfl⟩
  | [], _ :: _, h, _ => by cases h
  | _ :: _, [], h, _ => by cases h
  | r :: rs, n :: ns, h, ho => by
    obtain ⟨i1, i2⟩ := rops_told kind rs ns (by simpa using h) (fun p hp => ho p (by simp [hp]))
    have h0 := ho (r, n) (by simp)
    constructor
    · simp only [List.map_cons, List.zipWith_cons_cons, ropsAll, i1, readOperand_itoa r n h0.1, Option.bind_some, Option.map_some]
    · simp only [List.map_cons, numbersOk, i2, Bool.and_true]
      rw [if_neg (by simp)]
      split
      · rename_i e
        have := h0.1
        simp; omega
      · rename_i e
        exact h0.2 e
def toldOps : List Op := matchOps ++ [wordsOp, bytesOp, orgOp]
theorem told_words : ∀ o ∈ toldOps, (wordOf o).isEmpty = false ∧ (wordOf o).all plainSign = true ∧ (find (wordOf o)).isSome = true ∧ (wordOf o).length ≤ 5 ∧ (∀ q ∈ find (wordOf o), q.kind = o.kind ∧ q.base = o.base ∧ q.number = o.number ∧ q.first = o.first ∧ q.last = o.last) ∧ o.first = o.last ∧ 0 ≤ o.first ∧ o.first ≤ 2 ∧ (o.kind = 6 → o.first ≠ 0) := by decide +kernel
theorem told_find (o : Op) (h : o ∈ toldOps) : find (wordOf o) = some o := by
  have h1 := (told_words o h).2.2.1
  have h2 := (told_words o h).2.2.2.2.1
  obtain ⟨q, hq⟩ := Option.isSome_iff_exists.1 h1
  obtain ⟨a, b, c, d, e⟩ := h2 q hq
  rw [hq]
  congr 1
  cases q; cases o
  simp only at a b c d e
  subst a b c d e
  rfl
/-- What an instruction must be that is told. -/
structure Told (i : Ins) (o : Op) (ns : List Int) : Prop where
  ins : i = insOf o ns
  op : o ∈ toldOps
  len : (roles o.kind ns.length).length = ns.length
  two : ns.length ≤ 2
  ok : ∀ p ∈ (roles o.kind ns.length).zip ns, OprOk o.kind p.1 p.2
def toldBody (i : Ins) : Body := ⟨wordOf i.op, oprTexts i, i⟩
theorem told_parts {i : Ins} {o : Op} {ns : List Int} (h : Told i o ns) : ropsAll (roles o.kind ns.length) (oprTexts i) = some i.oprs ∧ numbersMayBe i = true ∧ (oprTexts i).length = ns.length ∧ (∀ x ∈ oprTexts i, ∃ r n, x = oprText r n) := by
  obtain ⟨rfl, hop, hl, ht, hok⟩ := h
  obtain ⟨h1, h2⟩ := rops_told o.kind (roles o.kind ns.length) ns hl hok
  refine ⟨?_, ?_, ?_, ?_⟩
  · show ropsAll _ (List.zipWith _ (roles o.kind (ns.map _).length) (ns.map _)) = some (ns.map _)
    rw [List.length_map]
    exact h1
  · show numbersOk o.kind (roles o.kind (ns.map _).length) (ns.map _) = true
    rw [List.length_map]
    exact h2
  · show (List.zipWith _ (roles o.kind (ns.map _).length) (ns.map _)).length = _
    rw [List.length_zipWith, List.length_map, hl, Nat.min_self]
  · intro x hx
    obtain ⟨k, hk, rfl⟩ := List.getElem_of_mem hx
    exact ⟨_, _, by simp only [oprTexts, List.getElem_zipWith]; rfl⟩
theorem told_body {i : Ins} {o : Op} {ns : List Int} (h : Told i o ns) (hk : o.kind ≠ 11) : BodyOk (toldBody i) := by
  obtain ⟨h1, h2, h3, h4⟩ := told_parts h
  have hw := told_words o h.op
  have hi : i.op = o := by rw [h.ins]; rfl
  refine ⟨?_, ?_, ?_, ?_, ?_, ?_, h2, ?_⟩
  · show wordOf i.op ≠ []
    rw [hi]
    intro e; rw [e] at hw; simp at hw
  · show ∀ c ∈ wordOf i.op, _
    rw [hi]
    exact fun c hc => List.all_eq_true.1 hw.2.1 c hc
  · intro x hx
    obtain ⟨r, n, rfl⟩ := h4 x hx
    exact oprText_pos r n
  · intro x hx
    obtain ⟨r, n, rfl⟩ := h4 x hx
    exact oprText_plain r n
  · show find (wordOf i.op) = some i.op
    rw [hi]; exact told_find o h.op
  · show ropsAll (roles i.op.kind (oprTexts i).length) (oprTexts i) = some i.oprs
    rw [hi, h3]; exact h1
  · show i.op.kind ≠ 11
    rw [hi]; exact hk
theorem told_text {i : Ins} {o : Op} {ns : List Int} (h : Told i o ns) : insText i = (toldBody i).text := by
  have h3 := (told_parts h).2.2.1
  have h2 := h.two
  show wordOf i.op ++ joined (oprTexts i) = Body.text ⟨wordOf i.op, oprTexts i, i⟩
  unfold Body.text
  simp only
  match e : oprTexts i with
  | [] => simp [joined]
  | [x] => simp [joined]
  | [x, y] => simp [joined]
  | _ :: _ :: _ :: _ => rw [e] at h3; simp at h3; omega
theorem told_read {i : Ins} {o : Op} {ns : List Int} (h : Told i o ns) (hk : o.kind ≠ 11) : readLine (insText i) = some ⟨[], i⟩ ∧ (∀ c ∈ insText i, c ≠ 10) := by
  have hb := told_body h hk
  have hl : Laid (toldBody i) (toldBody i).text := body_laid _ (by show (oprTexts i).length ≤ 2; rw [(told_parts h).2.2.1]; exact h.two)
  have hs := laid_signs _ hb _ hl
  rw [told_text h]
  constructor
  · have hi := instr_body _ hb [] _ [] blanks_nil hl blanks_nil
    have := readLine_bare (toldBody i).text [] (fun c hc => ⟨(hs c hc).1, (hs c hc).2.1⟩) (.inl rfl)
    simp only [List.append_nil, List.nil_append] at this hi
    rw [this, hi]
    rfl
  · exact fun c hc => (hs c hc).2.2
theorem itoa_len (n : Int) (k : Nat) (h : n.toNat < 10 ^ (k + 1)) (h0 : 0 ≤ n) : (itoa n).length ≤ k + 1 := by
  unfold itoa
  rw [if_neg (by omega)]
  exact dec_len _ _ h
theorem u8_lt (c : UInt8) : c.toNat < 256 := c.toNat_lt
theorem wordAt_rng (s : Bs) (k : Nat) : 0 ≤ wordAt s k ∧ wordAt s k ≤ 65535 := by
  unfold wordAt
  have h1 := u8_lt (s.getD k 0)
  have h2 := u8_lt (s.getD (k + 1) 0)
  split <;> omega
theorem sgn8_rng (n : Int) : -128 ≤ sgn8 n ∧ sgn8 n ≤ 127 := by unfold sgn8; omega
theorem place_rng {n : Int} (h : isPlace n = true) : 0 ≤ n ∧ n ≤ 16777214 := by
  simp [isPlace, within] at h
  omega
theorem fits_place {o : Op} {f a t : Int} (h : fits o f a t = true) : isPlace t = true := by
  unfold fits at h
  cases e : isPlace t
  · simp [e] at h
  · rfl
/-- How long the text of an instruction is, by its numbers. -/
theorem told_len {i : Ins} {o : Op} {ns : List Int} (h : Told i o ns) : (insText i).length ≤ 5 + (ns.length + ((oprTexts i).map List.length).sum) := by
  have h3 := (told_parts h).2.2.1
  have h2 := h.two
  have hw := (told_words o h.op).2.2.2.1
  have hi : i.op = o := by rw [h.ins]; rfl
  unfold insText
  rw [hi, List.length_append]
  match e : oprTexts i with
  | [] => simp [joined]; omega
  | [x] => rw [e] at h3; simp [joined] at h3 ⊢; omega
  | [x, y] => rw [e] at h3; simp [joined] at h3 ⊢; omega
  | _ :: _ :: _ :: _ => rw [e] at h3; simp at h3; omega
/-- What the matching instructions are. -/
structure Good (i : Ins) (s : Bs) (a : Int) : Prop where
  told : ∃ o ns, Told i o ns ∧ o.kind ≠ 11 ∧ o.kind ≠ 0
  pre : bytes i i.op.first a <+: s
  len : (insText i).length ≤ 14
  jump : isJump i.op = true → fits i.op i.op.first a (num i 0) = true
  size : 2 ≤ size i i.op.first a ∨ s.length = 1 ∧ size i i.op.first a = 1
theorem reg_len (n : Int) (h0 : 0 ≤ n) (h7 : n ≤ 7) : (oprText 0 n).length = 2 := by
  have : n = 0 ∨ n = 1 ∨ n = 2 ∨ n = 3 ∨ n = 4 ∨ n = 5 ∨ n = 6 ∨ n = 7 := by omega
  rcases this with rfl | rfl | rfl | rfl | rfl | rfl | rfl | rfl <;> rfl
theorem val8_len (n : Int) (h0 : -128 ≤ n) (h7 : n ≤ 127) : (oprText 1 n).length ≤ 5 := by
  unfold oprText itoa
  rw [show mark 1 = [35] from rfl]
  split
  · have := dec_len (-n).toNat 2 (by omega)
    simp; omega
  · have := dec_len n.toNat 2 (by omega)
    simp; omega
theorem num_len (r n : Int) (k : Nat) (h : n.toNat < 10 ^ (k + 1)) (h0 : 0 ≤ n) (hr : r = 1 ∨ r = 2 ∨ r = 3) : (oprText r n).length ≤ k + 2 := by
  have := itoa_len n k h h0
  unfold oprText
  rw [List.length_append]
  have : (mark r).length ≤ 1 := by rcases hr with rfl | rfl | rfl <;> decide
  omega
theorem num_len' (r n : Int) (k : Nat) (h : n.toNat < 10 ^ (k + 1)) (h0 : 0 ≤ n) (hr : r = 2 ∨ r = 3) : (oprText r n).length ≤ k + 1 := by
  have := itoa_len n k h h0
  unfold oprText
  rw [List.length_append]
  have : (mark r).length = 0 := by rcases hr with rfl | rfl <;> decide
  omega
theorem told_mem {o : Op} (h : o ∈ matchOps) : o ∈ toldOps := List.mem_append_left _ h
theorem match_kinds : ∀ o ∈ matchOps, o.kind = 1 ∨ o.kind = 2 ∨ o.kind = 3 ∨ o.kind = 4 ∨ o.kind = 5 ∨ o.kind = 6 := by decide +kernel
theorem short_words : ∀ o ∈ matchOps, o.kind = 4 → (wordOf o).length ≤ 4 := by decide +kernel
theorem within_mk {n lo hi : Int} (h1 : lo ≤ n) (h2 : n ≤ hi) : within n lo hi = true := by simp [within, h1, h2]
theorem good_match (o : Op) (ho : o ∈ matchOps) (s : Bs) (a : Int) (hb : begins (insOf o (opersIn o s a)) s a = true) : Good (insOf o (opersIn o s a)) s a := by
  have hT := told_mem ho
  have hw := told_words o hT
  have w0 := wordAt_rng s 0
  have w2 := wordAt_rng s 2
  have w4 := wordAt_rng s 4
  have g8 := sgn8_rng (wordAt s 0)
  have hop : ∀ ns, (insOf o ns).op = o := fun _ => rfl
  have hjump : isJump o = true → fits o o.first a (num (insOf o (opersIn o s a)) 0) = true := by
    intro hj
    unfold begins at hb
    rw [hop] at hb
    split at hb
    · cases hb
    · rename_i hc
      cases e : fits o o.first a (num (insOf o (opersIn o s a)) 0)
      · exact (hc ⟨hj, e⟩).elim
      · rfl
  have hpre : bytes (insOf o (opersIn o s a)) o.first a <+: s := by
    unfold begins at hb
    rw [hop] at hb
    split at hb
    · cases hb
    · exact List.isPrefixOf_iff_prefix.1 hb
  rcases match_kinds o ho with hk | hk | hk | hk | hk | hk
  · have e : opersIn o s a = [] := by simp [opersIn, hk]
    rw [e] at hjump hpre ⊢
    have t : Told (insOf o []) o [] := ⟨rfl, hT, by rw [hk]; rfl, by simp, by rw [hk]; simp [roles]⟩
    have hl := told_len t
    have hx : oprTexts (insOf o []) = [] := by simp [oprTexts, insOf]
    rw [hx] at hl
    simp only [List.length_nil, List.map_nil, List.sum_nil] at hl
    exact ⟨⟨o, [], t, by omega, by omega⟩, hpre, by omega, hjump, .inl (by simp [Strd.size, hop, hk])⟩
  · have e : opersIn o s a = [wordAt s 0 % 8, wordAt s 0 / 512 % 8] := by simp [opersIn, hk]
    rw [e] at hjump hpre ⊢
    have r1 := reg_len (wordAt s 0 % 8) (by omega) (by omega)
    have r2 := reg_len (wordAt s 0 / 512 % 8) (by omega) (by omega)
    have t : Told (insOf o [wordAt s 0 % 8, wordAt s 0 / 512 % 8]) o [wordAt s 0 % 8, wordAt s 0 / 512 % 8] := ⟨rfl, hT, by rw [hk]; rfl, by simp, by
      rw [hk]
      simp only [roles, if_true, List.zip_cons_cons, List.zip_nil_right, List.mem_cons, List.not_mem_nil, or_false]
      rintro p (rfl | rfl)
      · exact ⟨.inl ⟨rfl, by simp only; omega, by simp only; omega⟩, fun h => (h rfl).elim⟩
      · exact ⟨.inl ⟨rfl, by simp only; omega, by simp only; omega⟩, fun h => (h rfl).elim⟩⟩
    have hl := told_len t
    have hx : oprTexts (insOf o [wordAt s 0 % 8, wordAt s 0 / 512 % 8]) = [oprText 0 (wordAt s 0 % 8), oprText 0 (wordAt s 0 / 512 % 8)] := by simp [oprTexts, insOf, hk, roles]
    rw [hx] at hl
    simp only [List.length_cons, List.length_nil, List.map_cons, List.map_nil, List.sum_cons, List.sum_nil, r1, r2] at hl
    exact ⟨⟨o, _, t, by omega, by omega⟩, hpre, by omega, hjump, .inl (by simp [Strd.size, hop, hk])⟩
  · have e : opersIn o s a = [sgn8 (wordAt s 0), wordAt s 0 / 512 % 8] := by simp [opersIn, hk]
    rw [e] at hjump hpre ⊢
    have r1 := val8_len (sgn8 (wordAt s 0)) g8.1 g8.2
    have r2 := reg_len (wordAt s 0 / 512 % 8) (by omega) (by omega)
    have t : Told (insOf o [sgn8 (wordAt s 0), wordAt s 0 / 512 % 8]) o [sgn8 (wordAt s 0), wordAt s 0 / 512 % 8] := ⟨rfl, hT, by rw [hk]; rfl, by simp, by
      rw [hk]
      simp only [show ∀ n, roles 3 n = [1, 0] from fun _ => rfl, List.zip_cons_cons, List.zip_nil_right, List.mem_cons, List.not_mem_nil, or_false]
      rintro p (rfl | rfl)
      · exact ⟨.inr ⟨.inl rfl, by simp only; omega, by simp only; omega⟩, fun _ => within_mk (by simp only; omega) (by simp only; omega)⟩
      · exact ⟨.inl ⟨rfl, by simp only; omega, by simp only; omega⟩, fun h => (h rfl).elim⟩⟩
    have hl := told_len t
    have hx : oprTexts (insOf o [sgn8 (wordAt s 0), wordAt s 0 / 512 % 8]) = [oprText 1 (sgn8 (wordAt s 0)), oprText 0 (wordAt s 0 / 512 % 8)] := by simp [oprTexts, insOf, hk, roles]
    rw [hx] at hl
    simp only [List.length_cons, List.length_nil, List.map_cons, List.map_nil, List.sum_cons, List.sum_nil, r2] at hl
    exact ⟨⟨o, _, t, by omega, by omega⟩, hpre, by omega, hjump, .inl (by simp [Strd.size, hop, hk])⟩
  · have key : ∀ v, 0 ≤ v → v ≤ 65535 → opersIn o s a = [v, wordAt s 0 % 8] → Good (insOf o (opersIn o s a)) s a := by
      intro v v0 v1 e
      rw [e] at hjump hpre ⊢
      have r1 := num_len 1 v 4 (by omega) v0 (.inl rfl)
      have r2 := reg_len (wordAt s 0 % 8) (by omega) (by omega)
      have t : Told (insOf o [v, wordAt s 0 % 8]) o [v, wordAt s 0 % 8] := ⟨rfl, hT, by rw [hk]; rfl, by simp, by
        rw [hk]
        simp only [show ∀ n, roles 4 n = [1, 0] from fun _ => rfl, List.zip_cons_cons, List.zip_nil_right, List.mem_cons, List.not_mem_nil, or_false]
        rintro p (rfl | rfl)
        · exact ⟨.inr ⟨.inl rfl, by simp only; omega, by simp only; omega⟩, fun _ => within_mk (by simp only; omega) (by simp only; omega)⟩
        · exact ⟨.inl ⟨rfl, by simp only; omega, by simp only; omega⟩, fun h => (h rfl).elim⟩⟩
      have hx : oprTexts (insOf o [v, wordAt s 0 % 8]) = [oprText 1 v, oprText 0 (wordAt s 0 % 8)] := by simp [oprTexts, insOf, hk, roles]
      have hl : (insText (insOf o [v, wordAt s 0 % 8])).length ≤ 14 := by
        unfold insText
        rw [hx, List.length_append]
        have := short_words o ho hk
        simp [joined, r2, hop] at r1 ⊢
        omega
      exact ⟨⟨o, _, t, by omega, by omega⟩, hpre, hl, hjump, .inl (by simp only [Strd.size, hop, hk]; rw [if_neg (by omega), if_pos trivial]; split <;> simp)⟩
    by_cases hc : wordAt s 0 < 0x5040
    · exact key (wordAt s 2) w2.1 w2.2 (by simp [opersIn, hk, hc])
    · exact key ((wordAt s 0 / 512 % 8 + 7) % 8 + 1) (by omega) (by omega) (by simp [opersIn, hk, hc])
  · have hj : isJump o = true := by simp [isJump, hk]
    have key : ∀ v, opersIn o s a = [v] → Good (insOf o (opersIn o s a)) s a := by
      intro v e
      rw [e] at hjump hpre ⊢
      have hp := place_rng (fits_place (hjump hj))
      have hp' : 0 ≤ v ∧ v ≤ 16777214 := hp
      have r1 := num_len' 3 v 7 (by omega) hp'.1 (.inr rfl)
      have t : Told (insOf o [v]) o [v] := ⟨rfl, hT, by rw [hk]; rfl, by simp, by
        rw [hk]
        simp only [show ∀ n, roles 5 n = [3] from fun _ => rfl, List.zip_cons_cons, List.zip_nil_right, List.mem_cons, List.not_mem_nil, or_false]
        rintro p rfl
        exact ⟨.inr ⟨.inr (.inr rfl), by simp only; omega, by simp only; omega⟩, fun _ => rfl⟩⟩
      have hl := told_len t
      have hx : oprTexts (insOf o [v]) = [oprText 3 v] := by simp [oprTexts, insOf, hk, roles]
      rw [hx] at hl
      simp only [List.length_cons, List.length_nil, List.map_cons, List.map_nil, List.sum_cons, List.sum_nil] at hl
      exact ⟨⟨o, _, t, by omega, by omega⟩, hpre, by omega, hjump, .inl (by simp only [Strd.size, hop, hk, jumpSize]; repeat (first | (split; · simp) | simp))⟩
    by_cases hc : o.first = 0
    · exact key _ (by simp [opersIn, hk, hc]; rfl)
    · exact key _ (by simp [opersIn, hk, hc]; rfl)
  · have hj : isJump o = true := by simp [isJump, hk]
    have key : ∀ v, opersIn o s a = [v] → Good (insOf o (opersIn o s a)) s a := by
      intro v e
      rw [e] at hjump hpre ⊢
      have hp := place_rng (fits_place (hjump hj))
      have hp' : 0 ≤ v ∧ v ≤ 16777214 := hp
      have r1 := num_len' 3 v 7 (by omega) hp'.1 (.inr rfl)
      have t : Told (insOf o [v]) o [v] := ⟨rfl, hT, by rw [hk]; rfl, by simp, by
        rw [hk]
        simp only [show ∀ n, roles 6 n = [3] from fun _ => rfl, List.zip_cons_cons, List.zip_nil_right, List.mem_cons, List.not_mem_nil, or_false]
        rintro p rfl
        exact ⟨.inr ⟨.inr (.inr rfl), by simp only; omega, by simp only; omega⟩, fun _ => rfl⟩⟩
      have hl := told_len t
      have hx : oprTexts (insOf o [v]) = [oprText 3 v] := by simp [oprTexts, insOf, hk, roles]
      rw [hx] at hl
      simp only [List.length_cons, List.length_nil, List.map_cons, List.map_nil, List.sum_cons, List.sum_nil] at hl
      exact ⟨⟨o, _, t, by omega, by omega⟩, hpre, by omega, hjump, .inl (by simp only [Strd.size, hop, hk, jumpSize]; repeat (first | (split; · simp) | simp))⟩
    by_cases hc : o.first = 1
    · exact key _ (by simp [opersIn, hk, hc]; rfl)
    · exact key _ (by simp [opersIn, hk, hc]; rfl)
theorem byte_back (c : UInt8) (n : Int) (h : n % 256 = (c.toNat : Int)) : (n % 256).toNat.toUInt8 = c := by
  rw [h, Int.toNat_natCast]
  exact UInt8.ofNat_toNat
theorem word_back (x y : UInt8) : wordBs (256 * (x.toNat : Int) + (y.toNat : Int)) = [x, y] := by
  have h1 := u8_lt x
  have h2 := u8_lt y
  unfold wordBs
  rw [byte_back x ((256 * (x.toNat : Int) + (y.toNat : Int)) / 256) (by omega), byte_back y _ (by omega)]
theorem told_of (o : Op) (v : Int) (ho : o ∈ toldOps) (hk : o.kind = 7 ∨ o.kind = 8) (h0 : 0 ≤ v) (h1 : v ≤ 65535) (h2 : o.kind = 8 → v ≤ 255) : Told (insOf o [v]) o [v] := by
  have hr : roles o.kind [v].length = [3] := by rcases hk with e | e <;> rw [e] <;> rfl
  refine ⟨rfl, ho, by rw [hr]; rfl, by simp, ?_⟩
  rw [hr]
  simp only [List.zip_cons_cons, List.zip_nil_right, List.mem_cons, List.not_mem_nil, or_false]
  rintro p rfl
  refine ⟨.inr ⟨.inr (.inr rfl), by simp only; omega, by simp only; omega⟩, fun _ => ?_⟩
  rcases hk with e | e
  · rw [e]; exact within_mk (lo := -32768) (hi := 65535) (by omega) (by omega)
  · rw [e]; have := h2 e; exact within_mk (lo := -128) (hi := 255) (by omega) (by omega)
theorem told_one_len (o : Op) (v : Int) (ho : o ∈ toldOps) (hk : o.kind = 7 ∨ o.kind = 8) (h0 : 0 ≤ v) (h1 : v ≤ 65535) (h2 : o.kind = 8 → v ≤ 255) : (insText (insOf o [v])).length ≤ 14 := by
  have hl := told_len (told_of o v ho hk h0 h1 h2)
  have hr : roles o.kind 1 = [3] := by rcases hk with e | e <;> rw [e] <;> rfl
  have hx : oprTexts (insOf o [v]) = [oprText 3 v] := by
    unfold oprTexts insOf
    simp only [List.map_cons, List.map_nil, List.length_singleton, hr]
    rfl
  have r1 := num_len' 3 v 4 (by omega) h0 (.inr rfl)
  rw [hx] at hl
  simp only [List.length_cons, List.length_nil, List.map_cons, List.map_nil, List.sum_cons, List.sum_nil] at hl
  omega
theorem mem_words : wordsOp ∈ toldOps := List.mem_append_right _ (by simp)
theorem mem_bytes : bytesOp ∈ toldOps := List.mem_append_right _ (by simp)
theorem good_byte (c : UInt8) (a : Int) : Good (insOf bytesOp [(c.toNat : Int)]) [c] a := by
  have hc := u8_lt c
  refine ⟨⟨bytesOp, _, told_of bytesOp _ mem_bytes (.inr rfl) (by omega) (by omega) (fun _ => by omega), by decide, by decide⟩, ?_, told_one_len bytesOp _ mem_bytes (.inr rfl) (by omega) (by omega) (fun _ => by omega), (fun h => by cases h), .inr ⟨rfl, rfl⟩⟩
  have : bytes (insOf bytesOp [(c.toNat : Int)]) (insOf bytesOp [(c.toNat : Int)]).op.first a = [byteB (c.toNat : Int)] := rfl
  rw [this]
  unfold byteB
  rw [byte_back c _ (by omega)]
  exact List.prefix_refl _
theorem good_word (x y : UInt8) (r : Bs) (a : Int) : Good (insOf wordsOp [256 * (x.toNat : Int) + (y.toNat : Int)]) (x :: y :: r) a := by
  have hx := u8_lt x
  have hy := u8_lt y
  refine ⟨⟨wordsOp, _, told_of wordsOp _ mem_words (.inl rfl) (by omega) (by omega) (fun h => by cases h), by decide, by decide⟩, ?_, told_one_len wordsOp _ mem_words (.inl rfl) (by omega) (by omega) (fun h => by cases h), (fun h => by cases h), .inl (Int.le_refl _)⟩
  have : bytes (insOf wordsOp [256 * (x.toNat : Int) + (y.toNat : Int)]) (insOf wordsOp [256 * (x.toNat : Int) + (y.toNat : Int)]).op.first a = wordBs (256 * (x.toNat : Int) + (y.toNat : Int)) ++ [] := rfl
  rw [this, word_back, List.append_nil]
  exact ⟨r, rfl⟩
theorem good_first (s : Bs) (hs : s ≠ []) (a : Int) : Good (firstIns s a) s a := by
  unfold firstIns
  cases hm : matchIns s a with
  | some i =>
    simp only
    unfold matchIns at hm
    have h1 := List.find?_some hm
    obtain ⟨o, ho, rfl⟩ := List.mem_map.1 (List.mem_of_find?_eq_some hm)
    exact good_match o ho s a h1
  | none =>
    simp only
    clear hm
    split
    · rename_i hl
      match s, hl with
      | [c], _ => exact good_byte c a
    · rename_i hl
      match s, hs, hl with
      | [c], _, hl => exact (hl rfl).elim
      | x :: y :: r, _, _ => exact good_word x y r a
theorem told_rng {i : Ins} {o : Op} {ns : List Int} (h : Told i o ns) : i.op.first = i.op.last ∧ 0 ≤ i.op.first ∧ i.op.first ≤ 2 ∧ (i.op.kind = 6 → i.op.first ≠ 0) ∧ ∀ x ∈ i.oprs, x.name = [] := by
  have hw := (told_words o h.op).2.2.2.2.2
  rw [h.ins]
  refine ⟨hw.1, hw.2.1, hw.2.2.1, hw.2.2.2, fun x hx => ?_⟩
  obtain ⟨n, _, rfl⟩ := List.mem_map.1 hx
  rfl
theorem good_size {i : Ins} {s : Bs} {a : Int} (h : Good i s a) : bytes i i.op.first a = s.take (size i i.op.first a).toNat ∧ (size i i.op.first a).toNat ≤ s.length := by
  obtain ⟨o, ns, ht, _⟩ := h.told
  have hr := told_rng ht
  have hl := bytes_len i i.op.first a ⟨hr.2.1, hr.2.2.1⟩ hr.2.2.2.1
  have hp := h.pre
  refine ⟨?_, ?_⟩
  · rw [← hl]; exact (List.prefix_iff_eq_take.1 hp)
  · rw [← hl]; exact hp.length_le
/-- The lines that are told, one behind the other. -/
def Chain : Int → Bs → List Ins → Prop
  | _, s, [] => s = []
  | a, s, i :: l => s ≠ [] ∧ Good i s a ∧ Chain (a + size i i.op.first a) (s.drop (size i i.op.first a).toNat) l
theorem dis_chain : ∀ (f : Nat) (a : Int) (s : Bs), s.length ≤ f → Chain a s (disFrom f a s)
  | 0, a, s, h => by
    have : s = [] := List.length_eq_zero_iff.1 (by omega)
    rw [this]; rfl
  | f + 1, a, s, h => by
    unfold disFrom
    split
    · rename_i e; rw [e]; rfl
    · rename_i e
      have hg := good_first s e a
      have hs := hg.size
      refine ⟨e, hg, dis_chain f _ _ ?_⟩
      rw [List.length_drop]
      omega
theorem chain_told : ∀ (l : List Ins) (a : Int) (s : Bs), Chain a s l → ∀ i ∈ l, (∃ o ns, Told i o ns ∧ o.kind ≠ 11 ∧ o.kind ≠ 0)
  | [], _, _, _, i, hi => by cases hi
  | j :: l, a, s, h, i, hi => by
    rcases List.mem_cons.1 hi with rfl | hi
    · exact h.2.1.told
    · exact chain_told l _ _ h.2.2 i hi
theorem chain_len : ∀ (l : List Ins) (a : Int) (s : Bs), Chain a s l → (disText l).length ≤ 8 * s.length + 8
  | [], _, _, _ => by simp [disText]
  | i :: l, a, s, h => by
    obtain ⟨hs, hg, hc⟩ := h
    have ih := chain_len l _ _ hc
    have h1 := hg.len
    have h2 := hg.size
    have h3 := (good_size hg).2
    rw [List.length_drop] at ih
    simp only [disText, List.map_cons, List.flatten_cons, List.length_append, List.length_cons, List.length_nil] at ih ⊢
    rcases h2 with h2 | ⟨h2, h4⟩
    · omega
    · rw [h4] at ih h3
      have hl : l = [] := by
        cases l with
        | nil => rfl
        | cons j l =>
          have := hc.1
          rw [h4] at this
          exact (this (List.drop_eq_nil_of_le (by simp; omega))).elim
      subst hl
      simp only [List.map_nil, List.flatten_nil, List.length_nil]
      omega
/-- A line without a label. -/
def bare (i : Ins) : Line := ⟨[], i⟩
theorem placed_told {lines : List Line} {st : List Int} {i : Ins} {o : Op} {ns : List Int} (h : Told i o ns) : placed lines st i = i := by
  unfold placed
  have : (i.oprs.map fun o => (⟨[], numberOf lines st o⟩ : Opr)) = i.oprs := by
    rw [h.ins]
    simp only [insOf, List.map_map]
    apply List.map_congr_left
    intro n _
    simp [numberOf]
  rw [this]
theorem head_num (lines : List Line) (st : List Int) (i : Ins) (h : ∀ x ∈ i.oprs, x.name = []) : numberOf lines st (i.oprs.headD ⟨[], 0⟩) = num i 0 := by
  unfold num
  cases e : i.oprs with
  | nil => rfl
  | cons x t =>
    have := h x (by rw [e]; simp)
    simp [numberOf, this]
/-- The lines in their place: their bytes, that they fit, where they end. -/
theorem chain_lay (lines : List Line) (st : List Int) : ∀ (l : List Ins) (a : Int) (s : Bs) (k : Nat), Chain a s l → image lines st ((l ++ [emptyIns]).map bare) (firstForms ((l ++ [emptyIns]).map bare)) (starts a ((l ++ [emptyIns]).map bare) (firstForms ((l ++ [emptyIns]).map bare))) = s ∧ firstMiss lines st k ((l ++ [emptyIns]).map bare) (firstForms ((l ++ [emptyIns]).map bare)) (starts a ((l ++ [emptyIns]).map bare) (firstForms ((l ++ [emptyIns]).map bare))) = 0 ∧ (starts a ((l ++ [emptyIns]).map bare) (firstForms ((l ++ [emptyIns]).map bare))).getD (l.length + 1) 0 = a + s.length
  | [], a, s, k, h => by
    have : s = [] := h
    subst this
    refine ⟨?_, ?_, ?_⟩
    · rfl
    · rfl
    · show a + size emptyIns 0 a = a + 0
      rfl
  | i :: l, a, s, k, h => by
    obtain ⟨hs, hg, hc⟩ := h
    obtain ⟨h1, h2, h3⟩ := chain_lay lines st l _ _ (k + 1) hc
    obtain ⟨o, ns, ht, _⟩ := hg.told
    have hr := told_rng ht
    have hz := good_size hg
    have hsz := hg.size
    have hsz0 : 0 ≤ size i i.op.first a := by omega
    have hf : firstForms ((i :: l ++ [emptyIns]).map bare) = i.op.first :: firstForms ((l ++ [emptyIns]).map bare) := rfl
    have hm : (i :: l ++ [emptyIns]).map bare = bare i :: (l ++ [emptyIns]).map bare := rfl
    have hst : starts a (bare i :: (l ++ [emptyIns]).map bare) (i.op.first :: firstForms ((l ++ [emptyIns]).map bare)) = a :: starts (a + size i i.op.first a) ((l ++ [emptyIns]).map bare) (firstForms ((l ++ [emptyIns]).map bare)) := rfl
    rw [hf, hm, hst]
    refine ⟨?_, ?_, ?_⟩
    · show bytes (placed lines st i) i.op.first a ++ image lines st _ _ _ = s
      rw [h1, placed_told ht, hz.1, List.take_append_drop]
    · have hmiss : misses lines st (bare i) i.op.first a = false := by
        unfold misses
        show (isJump i.op && !fits i.op i.op.first a (numberOf lines st (i.oprs.headD ⟨[], 0⟩))) = false
        rw [head_num lines st i hr.2.2.2.2]
        cases hj : isJump i.op
        · rfl
        · rw [hg.jump hj]; rfl
      show (if misses lines st (bare i) i.op.first a = true then k + 1 else firstMiss lines st (k + 1) _ _ _) = 0
      rw [hmiss, if_neg (by simp), h2]
    · show (starts (a + size i i.op.first a) _ _).getD (l.length + 1) 0 = a + s.length
      rw [h3, List.length_drop]
      omega
theorem longer_same (lines : List Line) (st : List Int) : ∀ (ls : List Line) (bs : List Int), (∀ l ∈ ls, l.ins.op.first = l.ins.op.last) → ls.length ≤ bs.length → longer lines st ls (ls.map (·.ins.op.first)) bs = ls.map (·.ins.op.first)
  | [], _, _, _ => rfl
  | _ :: _, [], _, h => by simp at h
  | l :: ls, a :: bs, h, hl => by
    have h1 := h l (by simp)
    simp only [List.map_cons, longer]
    rw [longer_same lines st ls bs (fun x hx => h x (by simp [hx])) (by simpa using hl), if_neg (by rw [h1]; omega)]
theorem forms_same (org : Int) (lines : List Line) (h : ∀ l ∈ lines, l.ins.op.first = l.ins.op.last) : layForms org lines = firstForms lines := by
  unfold layForms
  unfold settle
  simp only
  rw [if_pos]
  exact longer_same lines _ lines _ h (by rw [st_len _ _ _ (by simp [firstForms])]; omega)
theorem org_read (n : Int) (h : isPlace n = true) : readLine (insText (insOf orgOp [n])) = some (bare (insOf orgOp [n])) ∧ (∀ c ∈ insText (insOf orgOp [n]), c ≠ 10) ∧ numbersMayBe (insOf orgOp [n]) = true ∧ (insText (insOf orgOp [n])).length ≤ 12 := by
  have hp := place_rng h
  have hT : Told (insOf orgOp [n]) orgOp [n] := ⟨rfl, List.mem_append_right _ (by simp), rfl, by simp, by
    rw [show roles orgOp.kind [n].length = [2] from rfl]
    simp only [List.zip_cons_cons, List.zip_nil_right, List.mem_cons, List.not_mem_nil, or_false]
    rintro p rfl
    exact ⟨.inr ⟨.inr (.inl rfl), by simp only; omega, by simp only; omega⟩, fun _ => h⟩⟩
  have hpl := itoa_plain n
  have hps := itoa_pos n
  have hw : wordOf orgOp = [111, 114, 103] := by decide +kernel
  have ht : insText (insOf orgOp [n]) = [111, 114, 103] ++ [32] ++ itoa n := by
    show wordOf orgOp ++ joined [oprText 2 n] = _
    rw [hw]
    simp [joined, oprText, mark]
  have hs : ∀ c ∈ insText (insOf orgOp [n]), c ≠ 58 ∧ c ≠ 59 ∧ c ≠ 10 := by
    rw [ht]
    intro c hc
    simp only [List.mem_append, List.mem_cons, List.not_mem_nil, or_false] at hc
    rcases hc with ((rfl | rfl | rfl) | rfl) | hc
    · decide
    · decide
    · decide
    · decide
    · exact (plain_parts (hpl c hc)).2.2
  have hl := itoa_len n 7 (by omega) hp.1
  refine ⟨?_, fun c hc => (hs c hc).2.2, (told_parts hT).2.1, by rw [ht]; simp; omega⟩
  have hi := instruction_at [] [111, 114, 103] [32] (itoa n) [] blanks_nil (by decide) (by simp) (by intro c hc; rw [List.mem_singleton] at hc; subst hc; decide) (by simp) (tight_all _ fun c hc => (plain_parts (hpl c hc)).1) hps blanks_nil orgOp rfl
  rw [operands_one _ _ hpl] at hi
  have hr := (told_parts hT).1
  rw [show oprTexts (insOf orgOp [n]) = [itoa n] from rfl] at hr
  rw [show ropsAll (roles orgOp.kind 1) [itoa n] = some (insOf orgOp [n]).oprs from hr] at hi
  have := readLine_bare (insText (insOf orgOp [n])) [] (fun c hc => ⟨(hs c hc).1, (hs c hc).2.1⟩) (.inl rfl)
  rw [List.append_nil] at this
  rw [this, ht]
  simp only [List.nil_append, List.append_nil] at hi
  rw [hi]
  rfl
/-- P8. -/
theorem round_trip (org : Int) (s : Bs) (h : mayBe org s = true) : assemble (disassemble org s).1 = ((org, s), 0, 0) := by
  unfold disassemble
  rw [if_pos h]
  simp only [mayBe, Bool.and_eq_true, decide_eq_true_eq] at h
  obtain ⟨⟨hp, hl⟩, he⟩ := h
  have hch := dis_chain s.length org s (Nat.le_refl _)
  have htold := chain_told _ _ _ hch
  have hlen := chain_len _ _ _ hch
  obtain ⟨o1, o2, o3, o4⟩ := org_read org hp
  unfold disLines
  generalize disFrom s.length org s = l at *
  have hread : ∃ b, readSource (disText (insOf orgOp [org] :: l)) = (⟨org, bare (insOf orgOp [org]) :: (l ++ [emptyIns]).map bare, b⟩, 0, 0) := by
    unfold readSource
    rw [if_neg (by
      simp only [disText, List.map_cons, List.flatten_cons, List.length_append, List.length_cons, List.length_nil] at hlen ⊢
      omega)]
    have hsp := split_lines [] ((insOf orgOp [org] :: l).map insText) (fun t ht => by
      obtain ⟨i, hi, rfl⟩ := List.mem_map.1 ht
      rcases List.mem_cons.1 hi with rfl | hi
      · exact o2
      · obtain ⟨o, ns, h1, h2, _⟩ := htold i hi
        exact (told_read h1 h2).2)
    rw [List.append_nil, List.map_map] at hsp
    have hsp' : split 10 (disText (insOf orgOp [org] :: l)) = (insOf orgOp [org] :: l).map insText ++ split 10 [] := hsp
    rw [hsp', List.map_cons, List.cons_append, addAll]
    have hadd : add ⟨0, [], false⟩ (insText (insOf orgOp [org])) = (⟨org, [bare (insOf orgOp [org])], true⟩, 0) := by
      unfold add
      rw [o1]
      simp only
      rw [if_neg (by simp [hasLabel]), if_neg (by show ¬ numbersMayBe (insOf orgOp [org]) = false; rw [o3]; simp)]
      rfl
    rw [hadd]
    simp only [if_true]
    obtain ⟨b, hb⟩ := addAll_ok (l.map insText) (l.map bare) ⟨org, [bare (insOf orgOp [org])], true⟩ (0 + 1) (split 10 []) (by
      rw [List.map_map, List.map_map]
      apply List.map_congr_left
      intro i hi
      obtain ⟨o, ns, h1, h2, _⟩ := htold i hi
      exact (told_read h1 h2).1) (fun x hx => by
      obtain ⟨i, hi, rfl⟩ := List.mem_map.1 hx
      obtain ⟨o, ns, h1, h2, _⟩ := htold i hi
      refine ⟨(told_parts h1).2.1, ?_⟩
      show i.op.kind ≠ 11
      rw [h1.ins]; exact h2) (by
      unfold Fresh
      apply List.pairwise_of_forall_mem_list
      intro x hx y hy h0
      exfalso
      apply h0
      rcases List.mem_append.1 hx with hx | hx
      · rw [List.mem_singleton] at hx; rw [hx]; rfl
      · obtain ⟨i, hi, rfl⟩ := List.mem_map.1 hx; rfl)
    rw [hb]
    have hsplit : split 10 [] = [[]] := rfl
    rw [hsplit, addAll]
    have hadd2 : ∀ r : Rd, add r [] = (⟨r.org, r.lines ++ [bare emptyIns], r.begun⟩, 0) := by
      intro r
      have hr : readLine [] = some (bare emptyIns) := rfl
      unfold add
      rw [hr]
      simp [hasLabel, bare, emptyIns, numbersMayBe, numbersOk, roles]
    rw [hadd2]
    simp only [if_true, addAll]
    exact ⟨b, by simp⟩
  obtain ⟨b, hrd⟩ := hread
  unfold assemble
  rw [hrd]
  simp only [ne_eq, not_true_eq_false, if_false]
  have hall : ∀ x ∈ bare (insOf orgOp [org]) :: (l ++ [emptyIns]).map bare, x.ins.op.first = x.ins.op.last ∧ ∀ y ∈ x.ins.oprs, y.name = [] := by
    intro x hx
    rcases List.mem_cons.1 hx with rfl | hx
    · exact ⟨rfl, fun y hy => by
        have : y = ⟨[], org⟩ := by simpa [bare, insOf] using hy
        rw [this]⟩
    · obtain ⟨i, hi, rfl⟩ := List.mem_map.1 hx
      rcases List.mem_append.1 hi with hi | hi
      · obtain ⟨o, ns, h1, _⟩ := htold i hi
        exact ⟨(told_rng h1).1, (told_rng h1).2.2.2.2⟩
      · rw [List.mem_singleton] at hi
        subst hi
        exact ⟨rfl, fun y hy => by cases hy⟩
  have hff := forms_same org _ (fun x hx => (hall x hx).1)
  generalize hL : bare (insOf orgOp [org]) :: (l ++ [emptyIns]).map bare = L at *
  have hU : firstUnknown L = 0 := by
    unfold firstUnknown
    rw [List.findIdx?_eq_none_iff.2]
    intro x hx
    rw [List.any_eq_false]
    intro y hy
    simp [known, (hall x hx).2 y hy]
  have hO : firstOver L (starts org L (firstForms L)) = 0 := by
    unfold firstOver
    rw [List.findIdx?_eq_none_iff.2]
    intro x hx
    unfold overflows
    rw [List.any_eq_false]
    intro y hy
    simp [(hall x hx).2 y hy]
  have hst : starts org L (firstForms L) = org :: starts org ((l ++ [emptyIns]).map bare) (firstForms ((l ++ [emptyIns]).map bare)) := by
    rw [← hL]
    show org :: starts (org + size (insOf orgOp [org]) 0 org) _ _ = _
    rw [show size (insOf orgOp [org]) 0 org = 0 from rfl, Int.add_zero]
    rfl
  obtain ⟨c1, c2, c3⟩ := chain_lay L (starts org L (firstForms L)) l org s 1 hch
  have hfm : firstMiss L (starts org L (firstForms L)) 0 L (firstForms L) (starts org L (firstForms L)) = 0 := by
    conv => lhs; arg 4; rw [← hL]
    conv => lhs; arg 5; rw [← hL]
    conv => lhs; arg 6; rw [hst]
    exact c2
  have him : image L (starts org L (firstForms L)) L (firstForms L) (starts org L (firstForms L)) = s := by
    conv => lhs; arg 3; rw [← hL]
    conv => lhs; arg 4; rw [← hL]
    conv => lhs; arg 5; rw [hst]
    exact c1
  have hend : (starts org L (firstForms L)).getD L.length 0 = org + s.length := by
    rw [hst, ← hL]
    simpa using c3
  have hlay : lay org L = ((firstForms L, starts org L (firstForms L)), 0, 0) := by
    unfold lay
    simp only [hU, hff, hfm, hO, hend]
    rw [if_neg (by omega), if_neg (by omega), if_neg (by omega), if_neg (by omega)]
  rw [hlay]
  simp only [ne_eq, not_true_eq_false, if_false, him]
end Go.Proofs.YtegiloiojloaoaaGreatDoor.Strd
