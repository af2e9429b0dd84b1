/- Empty lines change no layout. -/
import Derived.Test.YtegiloiojloaoaaGreatDoorCSpec
set_option linter.unusedVariables false
set_option linter.unusedSimpArgs false
namespace Go.Proofs.YtegiloiojloaoaaGreatDoor.Strd

def sel {α : Type} : List Bool → List α → List α
  | true :: ks, x :: xs => x :: sel ks xs
  | false :: ks, _ :: xs => sel ks xs
  | _, _ => []
/-- What is left out is an empty line. -/
def Out : List Bool → List Line → Prop
  | [], [] => True
  | k :: ks, l :: ls => (k = false → l = emptyLine) ∧ Out ks ls
  | _, _ => False
def Zero : List Bool → List Int → Prop
  | [], [] => True
  | k :: ks, f :: fs => (k = false → f = 0) ∧ Zero ks fs
  | _, _ => False
theorem Out.len : ∀ {ks : List Bool} {ls : List Line}, Out ks ls → ks.length = ls.length
  | [], [], _ => rfl
  | [], _ :: _, h => h.elim
  | _ :: _, [], h => h.elim
  | _ :: ks, _ :: ls, h => by simp [Out.len h.2]
theorem Zero.len : ∀ {ks : List Bool} {ls : List Int}, Zero ks ls → ks.length = ls.length
  | [], [], _ => rfl
  | [], _ :: _, h => h.elim
  | _ :: _, [], h => h.elim
  | _ :: ks, _ :: ls, h => by simp [Zero.len h.2]
theorem sel_len {α β : Type} : ∀ (ks : List Bool) (xs : List α) (ys : List β), xs.length = ks.length → ys.length = ks.length → (sel ks xs).length = (sel ks ys).length
  | [], [], [], _, _ => rfl
  | true :: ks, x :: xs, y :: ys, h1, h2 => by simp only [sel, List.length_cons]; rw [sel_len ks xs ys (by simpa using h1) (by simpa using h2)]
  | false :: ks, x :: xs, y :: ys, h1, h2 => sel_len ks xs ys (by simpa using h1) (by simpa using h2)
  | [], _ :: _, _, h, _ => by cases h
  | [], [], _ :: _, _, h => by cases h
  | _ :: _, [], _, h, _ => by cases h
  | true :: _, _ :: _, [], _, h => by cases h
  | false :: _, _ :: _, [], _, h => by cases h
theorem empty_size (f a : Int) : size emptyLine.ins f a = 0 := by simp [emptyLine, emptyIns, size]
theorem empty_misses (lines : List Line) (st : List Int) (f a : Int) : misses lines st emptyLine f a = false := by simp [misses, emptyLine, emptyIns, isJump]
theorem empty_bytes (lines : List Line) (st : List Int) (f a : Int) : bytes (placed lines st emptyLine.ins) f a = [] := by simp [bytes, placed, emptyLine, emptyIns]
theorem mis_eq (lines lines' : List Line) (st st' : List Int) (hn : ∀ o, numberOf lines st o = numberOf lines' st' o) (l : Line) (f a : Int) : misses lines st l f a = misses lines' st' l f a := by unfold misses; rw [hn]
theorem sel_longer (lines lines' : List Line) (st st' : List Int) (hn : ∀ o, numberOf lines st o = numberOf lines' st' o) : ∀ (ks : List Bool) (ls : List Line) (fs : List Int) (a : Int), Out ks ls → Zero ks fs →
    longer lines st (sel ks ls) (sel ks fs) (starts a (sel ks ls) (sel ks fs)) = sel ks (longer lines' st' ls fs (starts a ls fs)) ∧ Zero ks (longer lines' st' ls fs (starts a ls fs))
  | [], [], [], _, _, _ => ⟨by simp [sel, longer], by simp [longer, Zero]⟩
  | [], _ :: _, _, _, h, _ => h.elim
  | [], [], _ :: _, _, _, h => h.elim
  | _ :: _, [], _, _, h, _ => h.elim
  | _ :: _, _ :: _, [], _, _, h => h.elim
  | true :: ks, l :: ls, f :: fs, a, ho, hz => by
    have ih := sel_longer lines lines' st st' hn ks ls fs (a + size l.ins f a) ho.2 hz.2
    simp only [sel, starts, longer, Zero]
    rw [ih.1, mis_eq lines lines' st st' hn]
    exact ⟨rfl, fun h => (by cases h), ih.2⟩
  | false :: ks, l :: ls, f :: fs, a, ho, hz => by
    have e := ho.1 rfl
    subst e
    have ih := sel_longer lines lines' st st' hn ks ls fs a ho.2 hz.2
    simp only [sel, starts, longer, Zero, empty_size, Int.add_zero, empty_misses]
    exact ⟨ih.1, fun _ => by simp [hz.1 rfl], ih.2⟩
theorem sel_image (lines lines' : List Line) (st st' : List Int) (hn : ∀ o, numberOf lines st o = numberOf lines' st' o) : ∀ (ks : List Bool) (ls : List Line) (fs : List Int) (a : Int), Out ks ls → Zero ks fs →
    image lines st (sel ks ls) (sel ks fs) (starts a (sel ks ls) (sel ks fs)) = image lines' st' ls fs (starts a ls fs)
  | [], [], [], _, _, _ => by simp [sel, image]
  | [], _ :: _, _, _, h, _ => h.elim
  | [], [], _ :: _, _, _, h => h.elim
  | _ :: _, [], _, _, h, _ => h.elim
  | _ :: _, _ :: _, [], _, _, h => h.elim
  | true :: ks, l :: ls, f :: fs, a, ho, hz => by
    have ih := sel_image lines lines' st st' hn ks ls fs (a + size l.ins f a) ho.2 hz.2
    simp only [sel, starts, image]
    rw [ih]
    congr 2
    unfold placed
    simp only [hn]
  | false :: ks, l :: ls, f :: fs, a, ho, hz => by
    have e := ho.1 rfl
    subst e
    have ih := sel_image lines lines' st st' hn ks ls fs a ho.2 hz.2
    simp only [sel, starts, image, empty_size, Int.add_zero, empty_bytes, List.nil_append]
    exact ih
theorem sel_place (n : Bs) (hn : n ≠ []) : ∀ (ks : List Bool) (ls : List Line) (fs : List Int) (a : Int), Out ks ls → Zero ks fs →
    ((labelAt (sel ks ls) n = none ∧ labelAt ls n = none) ∨ ∃ i j, labelAt (sel ks ls) n = some i ∧ labelAt ls n = some j ∧ (starts a (sel ks ls) (sel ks fs)).getD i 0 = (starts a ls fs).getD j 0)
  | [], [], [], _, _, _ => .inl ⟨rfl, rfl⟩
  | [], _ :: _, _, _, h, _ => h.elim
  | [], [], _ :: _, _, _, h => h.elim
  | _ :: _, [], _, _, h, _ => h.elim
  | _ :: _, _ :: _, [], _, _, h => h.elim
  | true :: ks, l :: ls, f :: fs, a, ho, hz => by
    simp only [sel, labelAt, List.findIdx?_cons, starts]
    cases hl : (l.label == n)
    · rcases sel_place n hn ks ls fs (a + size l.ins f a) ho.2 hz.2 with ⟨h1, h2⟩ | ⟨i, j, h1, h2, h3⟩
      · unfold labelAt at h1 h2
        left; rw [h1, h2]; simp
      · unfold labelAt at h1 h2
        right
        rw [h1, h2]
        exact ⟨i + 1, j + 1, by simp, by simp, by simpa using h3⟩
    · right
      exact ⟨0, 0, by simp, by simp, by simp⟩
  | false :: ks, l :: ls, f :: fs, a, ho, hz => by
    have e := ho.1 rfl
    subst e
    have hl : (emptyLine.label == n) = false := by
      cases n with
      | nil => exact (hn rfl).elim
      | cons c t => rfl
    simp only [sel, labelAt, List.findIdx?_cons, starts, hl, empty_size, Int.add_zero]
    rcases sel_place n hn ks ls fs a ho.2 hz.2 with ⟨h1, h2⟩ | ⟨i, j, h1, h2, h3⟩
    · unfold labelAt at h1 h2
      left; rw [h1, h2]; simp
    · unfold labelAt at h1 h2
      right
      rw [h1, h2]
      exact ⟨i, j + 1, by simp, by simp, by simpa using h3⟩
theorem sel_number (ks : List Bool) (ls : List Line) (fs : List Int) (ho : Out ks ls) (hz : Zero ks fs) (o : Opr) : numberOf (sel ks ls) (starts 0 (sel ks ls) (sel ks fs)) o = numberOf ls (starts 0 ls fs) o := by
  unfold numberOf placeOf
  split
  · rfl
  · rename_i hn
    rcases sel_place o.name hn ks ls fs 0 ho hz with ⟨h1, h2⟩ | ⟨i, j, h1, h2, h3⟩
    · rw [h1, h2]
      simp only [Option.getD_none]
      rw [st_zero, st_zero]
    · rw [h1, h2]; exact h3
theorem sel_inj : ∀ (ks : List Bool) (fs gs : List Int), Zero ks fs → Zero ks gs → sel ks fs = sel ks gs → fs = gs
  | [], [], [], _, _, _ => rfl
  | [], _ :: _, _, h, _, _ => h.elim
  | [], [], _ :: _, _, h, _ => h.elim
  | _ :: _, [], _, h, _, _ => h.elim
  | _ :: _, _ :: _, [], _, h, _ => h.elim
  | true :: ks, f :: fs, g :: gs, h1, h2, h => by
    simp only [sel, List.cons.injEq] at h
    rw [h.1, sel_inj ks fs gs h1.2 h2.2 h.2]
  | false :: ks, f :: fs, g :: gs, h1, h2, h => by
    rw [h1.1 rfl, h2.1 rfl, sel_inj ks fs gs h1.2 h2.2 h]
theorem sel_settle (ks : List Bool) (ls : List Line) (ho : Out ks ls) : ∀ (m n : Nat) (fs : List Int), Zero ks fs → room (sel ks ls) (sel ks fs) < n → room ls fs < m →
    settle 0 (sel ks ls) n (sel ks fs) = sel ks (settle 0 ls m fs) ∧ Zero ks (settle 0 ls m fs)
  | 0, _, _, _, _, h => by omega
  | m + 1, 0, _, _, h, _ => by omega
  | m + 1, n + 1, fs, hz, h1, h2 => by
    have hl := sel_longer (sel ks ls) ls (starts 0 (sel ks ls) (sel ks fs)) (starts 0 ls fs) (sel_number ks ls fs ho hz) ks ls fs 0 ho hz
    have len1 : fs.length = ls.length := by rw [← hz.len, ho.len]
    have len2 : (sel ks fs).length = (sel ks ls).length := sel_len ks fs ls hz.len.symm ho.len.symm
    unfold settle
    simp only
    by_cases e : longer ls (starts 0 ls fs) ls fs (starts 0 ls fs) = fs
    · have e2 : longer (sel ks ls) (starts 0 (sel ks ls) (sel ks fs)) (sel ks ls) (sel ks fs) (starts 0 (sel ks ls) (sel ks fs)) = sel ks fs := by rw [hl.1, e]
      rw [if_pos e, if_pos e2]
      exact ⟨rfl, hz⟩
    · have e2 : ¬ longer (sel ks ls) (starts 0 (sel ks ls) (sel ks fs)) (sel ks ls) (sel ks fs) (starts 0 (sel ks ls) (sel ks fs)) = sel ks fs := fun h => e (sel_inj ks _ _ hl.2 hz (by rw [← hl.1]; exact h))
      rw [if_neg e, if_neg e2]
      have r1 := (lng_room ls (starts 0 ls fs) ls fs (starts 0 ls fs) len1 (by rw [st_len _ _ _ len1]; omega)).2 e
      have r2 := (lng_room (sel ks ls) (starts 0 (sel ks ls) (sel ks fs)) (sel ks ls) (sel ks fs) (starts 0 (sel ks ls) (sel ks fs)) len2 (by rw [st_len _ _ _ len2]; omega)).2 e2
      rw [hl.1] at r2 ⊢
      exact sel_settle ks ls ho m n _ hl.2 (by omega) (by omega)
theorem sel_map {α β : Type} (g : α → β) : ∀ (ks : List Bool) (xs : List α), sel ks (xs.map g) = (sel ks xs).map g
  | [], _ => by cases ‹List α› <;> rfl
  | true :: ks, [] => rfl
  | false :: ks, [] => rfl
  | true :: ks, x :: xs => by simp only [List.map_cons, sel]; rw [sel_map g ks xs]
  | false :: ks, x :: xs => by simp only [List.map_cons, sel]; rw [sel_map g ks xs]
theorem first_zero : ∀ (ks : List Bool) (ls : List Line), Out ks ls → Zero ks (firstForms ls)
  | [], [], _ => trivial
  | [], _ :: _, h => h.elim
  | _ :: _, [], h => h.elim
  | k :: ks, l :: ls, h => ⟨fun e => by rw [h.1 e]; rfl, first_zero ks ls h.2⟩
theorem sel_mem {α : Type} : ∀ (ks : List Bool) (xs : List α) (x : α), x ∈ sel ks xs → x ∈ xs
  | true :: ks, y :: xs, x, h => by
    simp only [sel, List.mem_cons] at h
    rcases h with rfl | h
    · simp
    · exact List.mem_cons_of_mem _ (sel_mem ks xs x h)
  | false :: ks, y :: xs, x, h => List.mem_cons_of_mem _ (sel_mem ks xs x h)
  | [], _, x, h => by simp [sel] at h
  | true :: _, [], x, h => by simp [sel] at h
  | false :: _, [], x, h => by simp [sel] at h
theorem out_mem : ∀ (ks : List Bool) (ls : List Line), Out ks ls → ∀ l ∈ ls, l ∈ sel ks ls ∨ l = emptyLine
  | [], [], _, l, h => by cases h
  | [], _ :: _, h, _, _ => h.elim
  | _ :: _, [], h, _, _ => h.elim
  | k :: ks, x :: ls, h, l, hl => by
    rcases List.mem_cons.1 hl with rfl | hl
    · cases k
      · exact .inr (h.1 rfl)
      · exact .inl (by simp [sel])
    · rcases out_mem ks ls h.2 l hl with h1 | h1
      · cases k
        · exact .inl h1
        · exact .inl (by simp [sel, h1])
      · exact .inr h1
/-- Lines with empty ones between them: the same image. -/
theorem sel_lay (ks : List Bool) (ls : List Line) (ho : Out ks ls) (hlen : ls.length ≤ 4001) (hS : Simp (sel ks ls)) (h2 : ∀ l ∈ sel ks ls, isJump l.ins.op = true → l.ins.op.last = 2) :
    lay 0 ls = ((layForms 0 ls, starts 0 ls (layForms 0 ls)), 0, 0) ∧ imgOf ls (layForms 0 ls) = imgOf (sel ks ls) (layForms 0 (sel ks ls)) := by
  have hz := first_zero ks ls ho
  have hff : firstForms (sel ks ls) = sel ks (firstForms ls) := by unfold firstForms; rw [sel_map]
  have hS' : Simp ls := by
    refine ⟨hlen, fun l hl hj => ?_, fun l hl hj => ?_, fun l hl => ?_⟩
    · rcases out_mem ks ls ho l hl with h | rfl
      · obtain ⟨n, i, h3, h4, h5⟩ := hS.jumps l h hj
        rcases sel_place n h4 ks ls (firstForms ls) 0 ho hz with ⟨h6, _⟩ | ⟨_, j, _, h7, _⟩
        · rw [h6] at h5; cases h5
        · exact ⟨n, j, h3, h4, h7⟩
      · simp [emptyLine, emptyIns, isJump] at hj
    · rcases out_mem ks ls ho l hl with h | rfl
      · exact hS.plain l h hj
      · simp [emptyLine, emptyIns, size]
    · rcases out_mem ks ls ho l hl with h | rfl
      · exact hS.forms l h
      · simp [emptyLine, emptyIns]
  have hr1 := first_room ls (fun l hl => by have := hS'.forms l hl; omega)
  have hr2 := first_room (sel ks ls) (fun l hl => by have := hS.forms l hl; omega)
  have hs := sel_settle ks ls ho (2 * ls.length + 1) (2 * (sel ks ls).length + 1) (firstForms ls) hz (by rw [← hff]; unfold firstForms; omega) (by unfold firstForms; omega)
  rw [← hff] at hs
  have hv : Valid ls (layForms 0 ls) := fun k hm => settled_valid hS' (lay_settled hS') k (fun hk hj => by
    rcases out_mem ks ls ho ls[k] (List.getElem_mem _) with h | h
    · exact h2 _ h hj
    · rw [h] at hj; simp [emptyLine, emptyIns, isJump] at hj) hm
  refine ⟨?_, ?_⟩
  · rcases lay_simp hS' with ⟨_, e⟩ | ⟨hn, _⟩
    · exact e
    · exact (hn hv).elim
  · unfold imgOf
    have e : layForms 0 (sel ks ls) = sel ks (layForms 0 ls) := hs.1
    have hz2 : Zero ks (layForms 0 ls) := hs.2
    rw [e]
    exact (sel_image (sel ks ls) ls _ _ (sel_number ks ls _ ho hz2) ks ls _ 0 ho hz2).symm
end Go.Proofs.YtegiloiojloaoaaGreatDoor.Strd

set_option linter.unusedVariables false
set_option linter.unusedSimpArgs false
namespace Go.Proofs.YtegiloiojloaoaaGreatDoor.Strd

def endsL : List Bs := [[10], [32, 10], [9, 59, 97, 58, 32, 98, 10], [10, 10], [59, 255, 59, 10], [10, 32, 9, 32, 10]]
def blankL : List Bs := [[32], [32, 32], [9], [32, 9, 32], [32], [9, 9]]
def commaL : List Bs := [[44], [32, 44], [44, 32], [9, 44, 9], [44], [44]]
def special (b : UInt8) : Bool := b == 10 || b == 32 || b == 44
def dressOne (c : Nat) (b : UInt8) : Bs := if b = 10 then endsL.getD c [] else if b = 32 then blankL.getD c [] else if b = 44 then commaL.getD c [] else [b]
def dress : List Nat → Bs → Bs
  | _, [] => []
  | cs, b :: s => if special b = true then dressOne (cs.headD 0) b ++ dress cs.tail s else b :: dress cs s
def cnt (s : Bs) : Nat := s.countP special
theorem dress_append : ∀ (x y : Bs) (cs : List Nat), dress cs (x ++ y) = dress cs x ++ dress (cs.drop (cnt x)) y
  | [], y, cs => by simp [dress, cnt]
  | b :: x, y, cs => by
    rw [List.cons_append, dress, dress]
    simp only [cnt, List.countP_cons]
    split
    · rename_i h
      rw [dress_append x y cs.tail, List.append_assoc]
      simp only [cnt]
      congr 3
      rw [← List.drop_one, List.drop_drop, Nat.add_comm]
    · rename_i h
      rw [dress_append x y cs, List.cons_append, Nat.add_zero]
      rfl
theorem dress_plain : ∀ (x : Bs) (cs : List Nat), (∀ c ∈ x, special c = false) → dress cs x = x ∧ cnt x = 0
  | [], _, _ => ⟨rfl, rfl⟩
  | b :: x, cs, h => by
    have hb := h b (by simp)
    obtain ⟨i1, i2⟩ := dress_plain x cs (fun c hc => h c (by simp [hc]))
    rw [dress, hb, cnt, List.countP_cons, hb]
    simp only [Bool.false_eq_true, if_false]
    exact ⟨by rw [i1], i2⟩
theorem plain_special {c : UInt8} (h : plainSign c = true) : special c = false := by
  have := plain_parts h
  have hb : c ≠ 32 := by rintro rfl; exact absurd this.1 (by decide)
  simp [special, hb, this.2.1, this.2.2.2.2]
def Small (cs : List Nat) : Prop := ∀ c ∈ cs, c < 6
theorem small_head {cs : List Nat} (h : Small cs) : cs.headD 0 < 6 := by
  cases cs with
  | nil => decide
  | cons c t => exact h c (by simp)
theorem small_drop {cs : List Nat} (h : Small cs) (n : Nat) : Small (cs.drop n) := fun c hc => h c (List.mem_of_mem_drop hc)
theorem small_tail {cs : List Nat} (h : Small cs) : Small cs.tail := fun c hc => h c (List.mem_of_mem_tail hc)
theorem blank_list : ∀ c, c < 6 → ((blankL.getD c []).all blank) = true ∧ blankL.getD c [] ≠ [] := by decide
theorem dress_blank (cs : List Nat) (hc : Small cs) (s : Bs) : ∃ g cs', Blanks g ∧ g ≠ [] ∧ Small cs' ∧ dress cs (32 :: s) = g ++ dress cs' s := by
  have h := blank_list _ (small_head hc)
  exact ⟨blankL.getD (cs.headD 0) [], cs.tail, fun c hc => List.all_eq_true.1 h.1 c hc, h.2, small_tail hc, rfl⟩
theorem comma_list : ∀ c, c < 6 → commaL.getD c [] = [] ++ 44 :: [] ∨ commaL.getD c [] = [32] ++ 44 :: [] ∨ commaL.getD c [] = [] ++ 44 :: [32] ∨ commaL.getD c [] = [9] ++ 44 :: [9] := by decide
theorem blanks32 : Blanks [32] := by intro c hc; rw [List.mem_singleton] at hc; subst hc; decide
theorem blanks9 : Blanks [9] := by intro c hc; rw [List.mem_singleton] at hc; subst hc; decide
theorem dress_comma (cs : List Nat) (hc : Small cs) (s : Bs) : ∃ p q cs', Blanks p ∧ Blanks q ∧ Small cs' ∧ dress cs (44 :: s) = p ++ 44 :: (q ++ dress cs' s) := by
  have e : dress cs (44 :: s) = commaL.getD (cs.headD 0) [] ++ dress cs.tail s := rfl
  rcases comma_list _ (small_head hc) with h | h | h | h
  · exact ⟨[], [], cs.tail, blanks_nil, blanks_nil, small_tail hc, by rw [e, h]; simp⟩
  · exact ⟨[32], [], cs.tail, blanks32, blanks_nil, small_tail hc, by rw [e, h]; simp⟩
  · exact ⟨[], [32], cs.tail, blanks_nil, blanks32, small_tail hc, by rw [e, h]; simp⟩
  · exact ⟨[9], [9], cs.tail, blanks9, blanks9, small_tail hc, by rw [e, h]; simp⟩
/-- A line's end: blanks, a remark or none, and an empty line behind it or none. -/
def Ends (c r : Bs) (ex : List Bs) : Prop := Blanks c ∧ ((r = [] ∨ ∃ t, r = 59 :: t) ∧ ∀ x ∈ r, x ≠ 10) ∧ (ex = [] ∨ ex = [[]] ∨ ex = [[32, 9, 32]])
theorem dress_end (cs : List Nat) (hc : Small cs) (s : Bs) : ∃ c r ex cs', Ends c r ex ∧ Small cs' ∧ dress cs (10 :: s) = c ++ r ++ 10 :: ((ex.map (· ++ [10])).flatten ++ dress cs' s) := by
  have e : dress cs (10 :: s) = endsL.getD (cs.headD 0) [] ++ dress cs.tail s := rfl
  have h6 := small_head hc
  have : cs.headD 0 = 0 ∨ cs.headD 0 = 1 ∨ cs.headD 0 = 2 ∨ cs.headD 0 = 3 ∨ cs.headD 0 = 4 ∨ cs.headD 0 = 5 := by omega
  rcases this with h | h | h | h | h | h <;> rw [e, h]
  · exact ⟨[], [], [], cs.tail, ⟨blanks_nil, ⟨.inl rfl, by simp⟩, .inl rfl⟩, small_tail hc, rfl⟩
  · exact ⟨[32], [], [], cs.tail, ⟨blanks32, ⟨.inl rfl, by simp⟩, .inl rfl⟩, small_tail hc, rfl⟩
  · exact ⟨[9], [59, 97, 58, 32, 98], [], cs.tail, ⟨blanks9, ⟨.inr ⟨_, rfl⟩, by decide⟩, .inl rfl⟩, small_tail hc, rfl⟩
  · exact ⟨[], [], [[]], cs.tail, ⟨blanks_nil, ⟨.inl rfl, by simp⟩, .inr (.inl rfl)⟩, small_tail hc, rfl⟩
  · exact ⟨[], [59, 255, 59], [], cs.tail, ⟨blanks_nil, ⟨.inr ⟨_, rfl⟩, by decide⟩, .inl rfl⟩, small_tail hc, rfl⟩
  · exact ⟨[], [], [[32, 9, 32]], cs.tail, ⟨blanks_nil, ⟨.inl rfl, by simp⟩, .inr (.inr rfl)⟩, small_tail hc, rfl⟩
theorem dress_skip (x s : Bs) (cs : List Nat) (h : ∀ c ∈ x, special c = false) : dress cs (x ++ s) = x ++ dress cs s := by
  have := dress_plain x cs h
  rw [dress_append, this.1, this.2, List.drop_zero]
theorem dress_body (b : Body) (hb : BodyOk b) (h2 : b.xs.length ≤ 2) (cs : List Nat) (hc : Small cs) (s : Bs) : ∃ t cs', Laid b t ∧ Small cs' ∧ dress cs (b.text ++ s) = t ++ dress cs' s := by
  have hu : ∀ c ∈ b.u, special c = false := fun c hc => plain_special (hb.us c hc)
  unfold Body.text
  match e : b.xs, h2 with
  | [], _ => exact ⟨b.u, cs, .inl ⟨e, rfl⟩, hc, dress_skip _ _ _ hu⟩
  | [x], _ =>
    have hx : ∀ c ∈ x, special c = false := fun c hc => plain_special (hb.xss x (by rw [e]; simp) c hc)
    obtain ⟨g, cs', hg, hg0, hc', eg⟩ := dress_blank cs hc (x ++ s)
    refine ⟨b.u ++ g ++ x, cs', .inr (.inl ⟨x, g, e, hg, hg0, rfl⟩), hc', ?_⟩
    simp only
    rw [show b.u ++ [32] ++ x ++ s = b.u ++ (32 :: (x ++ s)) by simp, dress_skip _ _ _ hu, eg, dress_skip _ _ _ hx]
    simp
  | [x, y], _ =>
    have hx : ∀ c ∈ x, special c = false := fun c hc => plain_special (hb.xss x (by rw [e]; simp) c hc)
    have hy : ∀ c ∈ y, special c = false := fun c hc => plain_special (hb.xss y (by rw [e]; simp) c hc)
    obtain ⟨g, cs1, hg, hg0, hc1, eg⟩ := dress_blank cs hc (x ++ (44 :: (y ++ s)))
    obtain ⟨p, q, cs2, hp, hq, hc2, ec⟩ := dress_comma cs1 hc1 (y ++ s)
    refine ⟨b.u ++ g ++ (x ++ p ++ 44 :: (q ++ y)), cs2, .inr (.inr ⟨x, y, g, p, q, e, hg, hg0, hp, hq, rfl⟩), hc2, ?_⟩
    simp only
    rw [show b.u ++ [32] ++ (x ++ 44 :: y) ++ s = b.u ++ (32 :: (x ++ (44 :: (y ++ s)))) by simp, dress_skip _ _ _ hu, eg, dress_skip _ _ _ hx, ec, dress_skip _ _ _ hy]
    simp
theorem dress_line (p : ML × Nat) (hp : PairOk p) (cs : List Nat) (hc : Small cs) (s : Bs) : ∃ x ex cs', readLine x = some (p.1.line p.2) ∧ (∀ c ∈ x, c ≠ 10) ∧ (ex = [] ∨ ex = [[]] ∨ ex = [[32, 9, 32]]) ∧ Small cs' ∧ dress cs (p.1.text p.2 ++ 10 :: s) = x ++ 10 :: ((ex.map (· ++ [10])).flatten ++ dress cs' s) := by
  have hb := ml_ok p.1 hp.1 p.2 hp.2
  have key : ∀ (cs : List Nat), Small cs → ∃ t c r ex cs', Laid (p.1.body p.2) t ∧ Ends c r ex ∧ Small cs' ∧ dress cs ((p.1.body p.2).text ++ 10 :: s) = (t ++ c) ++ r ++ 10 :: ((ex.map (· ++ [10])).flatten ++ dress cs' s) := fun cs hc => by
    obtain ⟨t, cs1, ht, hc1, e1⟩ := dress_body _ hb (two_xs p.1 p.2) cs hc (10 :: s)
    obtain ⟨c, r, ex, cs2, he, hc2, e2⟩ := dress_end cs1 hc1 s
    exact ⟨t, c, r, ex, cs2, ht, he, hc2, by rw [e1, e2]; simp⟩
  have fin : ∀ (a t c r : Bs) (ex : List Bs), Blanks a → Laid (p.1.body p.2) t → Ends c r ex → readLine ((if p.1.label < 0 then [] else p.1.name ++ [58]) ++ (a ++ t ++ c) ++ r) = some (p.1.line p.2) ∧ ∀ x ∈ (if p.1.label < 0 then [] else p.1.name ++ [58]) ++ (a ++ t ++ c) ++ r, x ≠ 10 := fun a t c r ex ha ht he => by
    refine ⟨ml_read p.1 hp.1 p.2 hp.2 a t c r ha ht he.1 he.2.1.1, fun x hx => ?_⟩
    simp only [List.mem_append] at hx
    rcases hx with (hx | (hx | hx) | hx) | hx
    · split at hx
      · cases hx
      · rename_i hl
        have n2 := (label_name p.1 hp.1 hl).2.1
        rcases List.mem_append.1 hx with hx | hx
        · exact (plain_parts (List.all_eq_true.1 n2 x hx)).2.2.2.2
        · rw [List.mem_singleton] at hx; subst hx; decide
    · exact (blank_marks (ha x hx)).2.2
    · exact (laid_signs _ hb t ht x hx).2.2
    · exact (blank_marks (he.1 x hx)).2.2
    · exact he.2.1.2 x hx
  by_cases hl : p.1.label < 0
  · obtain ⟨t, c, r, ex, cs2, ht, he, hc2, e⟩ := key cs hc
    have f := fin [] t c r ex blanks_nil ht he
    refine ⟨_, ex, cs2, f.1, f.2, he.2.2, hc2, ?_⟩
    unfold ML.text
    rw [if_pos hl, if_pos hl, List.nil_append, e]
    simp
  · have n2 := (label_name p.1 hp.1 hl).2.1
    have hns : ∀ c ∈ p.1.name ++ [58], special c = false := fun c hc => by
      rcases List.mem_append.1 hc with hc | hc
      · exact plain_special (List.all_eq_true.1 n2 c hc)
      · rw [List.mem_singleton] at hc; subst hc; decide
    obtain ⟨a, cs1, ha, _, hc1, e1⟩ := dress_blank cs hc ((p.1.body p.2).text ++ 10 :: s)
    obtain ⟨t, c, r, ex, cs2, ht, he, hc2, e⟩ := key cs1 hc1
    have f := fin a t c r ex ha ht he
    refine ⟨_, ex, cs2, f.1, f.2, he.2.2, hc2, ?_⟩
    unfold ML.text
    rw [if_neg hl, if_neg hl, show p.1.name ++ [58, 32] ++ (p.1.body p.2).text ++ 10 :: s = (p.1.name ++ [58]) ++ (32 :: ((p.1.body p.2).text ++ 10 :: s)) by simp, dress_skip _ _ _ hns, e1, e]
    simp
/-- A dressed source: its lines, and which of them were there. -/
theorem dress_src : ∀ (ps : List (ML × Nat)), (∀ p ∈ ps, PairOk p) → ∀ cs, Small cs → ∃ (T : List Bs) (LS : List Line) (ks : List Bool), dress cs (srcOf ps) = (T.map (· ++ [10])).flatten ∧ (∀ x ∈ T, ∀ c ∈ x, c ≠ 10) ∧ T.map readLine = LS.map some ∧ Out ks LS ∧ sel ks LS = linesOf ps
  | [], _, cs, _ => ⟨[], [], [], rfl, fun x hx => (by cases hx), rfl, trivial, rfl⟩
  | p :: ps, h, cs, hc => by
    have e : srcOf (p :: ps) = p.1.text p.2 ++ 10 :: srcOf ps := by simp [srcOf]
    obtain ⟨x, ex, cs', hr, h10, hex, hc', ed⟩ := dress_line p (h p (by simp)) cs hc (srcOf ps)
    obtain ⟨T, LS, ks, i1, i2, i3, i4, i5⟩ := dress_src ps (fun q hq => h q (by simp [hq])) cs' hc'
    have r0 : readLine [] = some emptyLine := by rfl
    have r1 : readLine [32, 9, 32] = some emptyLine := by rfl
    rcases hex with rfl | rfl | rfl
    · refine ⟨x :: T, p.1.line p.2 :: LS, true :: ks, ?_, ?_, ?_, ⟨fun e => (by cases e), i4⟩, ?_⟩
      · rw [e, ed, i1]; simp
      · intro y hy; rcases List.mem_cons.1 hy with rfl | hy
        · exact h10
        · exact i2 y hy
      · simp [hr, i3]
      · simp [sel, i5, linesOf]
    · refine ⟨x :: [] :: T, p.1.line p.2 :: emptyLine :: LS, true :: false :: ks, ?_, ?_, ?_, ⟨fun e => (by cases e), fun _ => rfl, i4⟩, ?_⟩
      · rw [e, ed, i1]; simp
      · intro y hy; rcases List.mem_cons.1 hy with rfl | hy
        · exact h10
        · rcases List.mem_cons.1 hy with rfl | hy
          · simp
          · exact i2 y hy
      · simp [hr, r0, i3]
      · simp [sel, i5, linesOf]
    · refine ⟨x :: [32, 9, 32] :: T, p.1.line p.2 :: emptyLine :: LS, true :: false :: ks, ?_, ?_, ?_, ⟨fun e => (by cases e), fun _ => rfl, i4⟩, ?_⟩
      · rw [e, ed, i1]; simp
      · intro y hy; rcases List.mem_cons.1 hy with rfl | hy
        · exact h10
        · rcases List.mem_cons.1 hy with rfl | hy
          · decide
          · exact i2 y hy
      · simp [hr, r1, i3]
      · simp [sel, i5, linesOf]
theorem sel_fresh : ∀ (ks : List Bool) (ls : List Line), Out ks ls → Fresh (sel ks ls) → Fresh ls
  | [], [], _, h => h
  | [], _ :: _, h, _ => h.elim
  | _ :: _, [], h, _ => h.elim
  | true :: ks, l :: ls, ho, h => by
    simp only [sel] at h
    obtain ⟨h1, h2⟩ := List.pairwise_cons.1 h
    refine List.pairwise_cons.2 ⟨fun x hx => ?_, sel_fresh ks ls ho.2 h2⟩
    rcases out_mem ks ls ho.2 x hx with hx | rfl
    · exact h1 x hx
    · intro hn e; exact hn (by rw [e]; rfl)
  | false :: ks, l :: ls, ho, h => by
    refine List.pairwise_cons.2 ⟨fun x hx => ?_, sel_fresh ks ls ho.2 h⟩
    rw [ho.1 rfl]
    intro hn; exact (hn rfl).elim
theorem out_snoc : ∀ (ks : List Bool) (ls : List Line) (l : Line), Out ks ls → Out (ks ++ [true]) (ls ++ [l]) ∧ sel (ks ++ [true]) (ls ++ [l]) = sel ks ls ++ [l]
  | [], [], l, _ => ⟨⟨fun e => (by cases e), trivial⟩, rfl⟩
  | [], _ :: _, _, h => h.elim
  | _ :: _, [], _, h => h.elim
  | true :: ks, x :: ls, l, h => by
    have := out_snoc ks ls l h.2
    exact ⟨⟨h.1, this.1⟩, by simp only [List.cons_append, sel]; rw [this.2]⟩
  | false :: ks, x :: ls, l, h => by
    have := out_snoc ks ls l h.2
    exact ⟨⟨h.1, this.1⟩, by simp only [List.cons_append, sel]; rw [this.2]⟩
theorem flat_long : ∀ (T : List Bs), T.length ≤ ((T.map (· ++ [10])).flatten).length
  | [] => by simp
  | x :: T => by
    have := flat_long T
    simp only [List.map_cons, List.flatten_cons, List.length_append, List.length_cons, List.length_nil]
    omega
theorem dressed_asm {ms : List ML} (hM : MsEven ms) (cs : List Nat) (hc : Small cs) (hl : (dress cs (srcOf (pairs ms []))).length ≤ 4000) : assemble (dress cs (srcOf (pairs ms []))) = assemble (srcOf (pairs ms [])) := by
  have hP := plain_psOk hM
  obtain ⟨T, LS, ks, e1, e2, e3, e4, e5⟩ := dress_src _ hP.ok cs hc
  rw [e1] at hl ⊢
  have hT := flat_long T
  have hTL : T.length = LS.length := by have := congrArg List.length e3; simpa using this
  have hfr : Fresh LS := sel_fresh ks LS e4 (by rw [e5]; exact lines_fresh _ (fun p hp => (hP.ok p hp).1) hP.ms.fresh)
  have hadd : ∀ l ∈ LS, Addable l := fun l hl => by
    rcases out_mem ks LS e4 l hl with h | rfl
    · rw [e5] at h
      obtain ⟨p, hp, rfl⟩ := List.mem_map.1 h
      exact ml_addable p.1 (hP.ok p hp).1 p.2 (hP.ok p hp).2
    · exact ⟨by rfl, by decide⟩
  obtain ⟨b, hb⟩ := addAll_ok T LS ⟨0, [], false⟩ 0 [[]] e3 hadd (by simpa using hfr)
  have hr : readLine [] = some emptyLine := by rfl
  have ha := add_ok ⟨0, [] ++ LS, b⟩ [] emptyLine hr ⟨by rfl, by decide⟩ (by simp [hasLabel, emptyLine])
  have hread : ∃ b', readSource ((T.map (· ++ [10])).flatten) = (⟨0, LS ++ [emptyLine], b'⟩, 0, 0) := by
    refine ⟨b || emptyLine.label != [] || decide (emptyLine.ins.op.kind ≠ 0), ?_⟩
    unfold readSource
    rw [if_neg (by omega)]
    have hsp := split_lines [] T e2
    rw [List.append_nil] at hsp
    rw [hsp, show split 10 ([] : Bs) = [[]] from rfl, hb, addAll, ha]
    simp only [if_true, addAll, List.nil_append]
  obtain ⟨b', hread⟩ := hread
  obtain ⟨o1, o2⟩ := out_snoc ks LS emptyLine e4
  have hsel : sel (ks ++ [true]) (LS ++ [emptyLine]) = Lp ms [] := by rw [o2, e5]; rfl
  have hlay := sel_lay (ks ++ [true]) (LS ++ [emptyLine]) o1 (by simp; omega) (by rw [hsel]; exact simp_Lp hM [] hP.ok) (fun l hl hj => by
    rw [hsel] at hl
    obtain ⟨k, hk, rfl⟩ := List.getElem_of_mem hl
    exact (line_facts hM [] hP.ok k hk hk).2.2.2.1 hj)
  rw [plain_asm hM]
  unfold assemble
  rw [hread]
  simp only [hlay.1]
  have h2 := hlay.2
  rw [hsel] at h2
  simp only [ne_eq, not_true, if_false]
  unfold imgOf at h2
  rw [h2]
  rfl
end Go.Proofs.YtegiloiojloaoaaGreatDoor.Strd

set_option linter.unusedVariables false
set_option linter.unusedSimpArgs false
namespace Go.Proofs.YtegiloiojloaoaaGreatDoor.Strd

/-- The forms that a number speaks of. -/
def digs : Nat → Nat → List Nat
  | _, 0 => []
  | k, n + 1 => (1 + k % 3) :: digs (k / 3) n
theorem digs_len : ∀ (n k : Nat), (digs k n).length = n
  | 0, _ => rfl
  | n + 1, k => by rw [digs, List.length_cons, digs_len n]
theorem digs_rng : ∀ (n k : Nat), ∀ f ∈ digs k n, 1 ≤ f ∧ f < 4
  | 0, _, f, h => by cases h
  | n + 1, k, f, h => by
    rw [digs] at h
    rcases List.mem_cons.1 h with rfl | h
    · omega
    · exact digs_rng n _ f h
theorem digs_ex : ∀ (L : List Nat), (∀ d ∈ L, 1 ≤ d ∧ d ≤ 3) → ∃ k, k < 3 ^ L.length ∧ digs k L.length = L
  | [], _ => ⟨0, by simp, rfl⟩
  | d :: L, h => by
    obtain ⟨k, h1, h2⟩ := digs_ex L (fun x hx => h x (by simp [hx]))
    have hd := h d (by simp)
    refine ⟨3 * k + (d - 1), ?_, ?_⟩
    · rw [List.length_cons, Nat.pow_succ]; omega
    · rw [List.length_cons, digs, show (3 * k + (d - 1)) / 3 = k by omega, h2, show 1 + (3 * k + (d - 1)) % 3 = d by omega]
theorem digs_snoc : ∀ (n k : Nat), digs k (n + 1) = digs k n ++ [1 + k / 3 ^ n % 3]
  | 0, k => by simp [digs]
  | n + 1, k => by
    rw [digs, digs_snoc n (k / 3)]
    conv => rhs; rw [digs]
    rw [List.cons_append, Nat.div_div_eq_div_mul, show 3 * 3 ^ n = 3 ^ (n + 1) by rw [Nat.pow_succ, Nat.mul_comm]]
theorem least_same {ms : List ML} (hM : MsEven ms) (n : Nat) (hn : n ≤ jumpsIn ms) : ∃ k, k < 3 ^ n ∧ assemble (srcOf (pairs ms (digs k n))) = assemble (srcOf (pairs ms [])) := by
  have hl : ((out ms).take n).length = n := by rw [List.length_take, out_len hM]; omega
  obtain ⟨k, h1, h2⟩ := digs_ex ((out ms).take n) (fun d hd => by
    obtain ⟨i, hi, rfl⟩ := List.getElem_of_mem hd
    rw [hl] at hi
    have := out_rng hM i (by omega)
    rw [List.getElem_take]
    rw [List.getD_eq_getElem?_getD, List.getElem?_eq_getElem (by rw [out_len hM]; omega)] at this
    exact this)
  rw [hl] at h1 h2
  refine ⟨k, h1, ?_⟩
  rw [h2]
  refine agree_eq hM _ fun i => ?_
  by_cases hi : i < n
  · right
    rw [List.getD_eq_getElem?_getD, List.getD_eq_getElem?_getD, List.getElem?_take, if_pos hi]
  · left
    rw [List.getD_eq_getElem?_getD, List.getElem?_eq_none (by rw [hl]; omega)]; rfl
theorem plain_ok0 {ms : List ML} (hM : MsEven ms) : (assemble (srcOf (pairs ms []))).2 = (0, 0) := by rw [plain_asm hM]
/-- Lasting: the forms that came out before the i-th jump, and one more. -/
theorem lasting_step {ms : List ML} (hM : MsEven ms) (i : Nat) (hi : i < jumpsIn ms) (f : Nat) (h1 : 1 ≤ f) (h3 : f ≤ 3) :
    (f = (out ms).getD i 0 → assemble (srcOf (pairs ms ((out ms).take i ++ [f]))) = assemble (srcOf (pairs ms []))) ∧
    (f < (out ms).getD i 0 → (assemble (srcOf (pairs ms ((out ms).take i ++ [f])))).2.2 ≠ 0) := by
  have hl : ((out ms).take i).length = i := by rw [List.length_take, out_len hM]; omega
  have hat : ((out ms).take i ++ [f]).getD i 0 = f := by
    rw [List.getD_eq_getElem?_getD, List.getElem?_append_right (by omega), hl, Nat.sub_self]; rfl
  refine ⟨fun e => agree_eq hM _ fun j => ?_, fun e h0 => ?_⟩
  · by_cases hj : j < i
    · right
      rw [List.getD_eq_getElem?_getD, List.getD_eq_getElem?_getD, List.getElem?_append_left (by omega), List.getElem?_take, if_pos hj]
    · by_cases hji : j = i
      · right; rw [hji, hat, e]
      · left
        rw [List.getD_eq_getElem?_getD, List.getElem?_eq_none (by rw [List.length_append, hl, List.length_singleton]; omega)]; rfl
  · have := less_bad hM ((out ms).take i ++ [f]) (fun x hx => by
      rcases List.mem_append.1 hx with hx | hx
      · obtain ⟨k, hk, rfl⟩ := List.getElem_of_mem hx
        rw [hl] at hk
        have := out_rng hM k (by omega)
        rw [List.getD_eq_getElem?_getD, List.getElem?_eq_getElem (by rw [out_len hM]; omega)] at this
        simp only [Option.getD_some] at this
        rw [List.getElem_take]; omega
      · rw [List.mem_singleton] at hx; omega) i hi (by rw [hat]; exact h1) (by rw [hat]; exact e)
    rcases this with h | h <;> rw [h] at h0 <;> cases h0
theorem dress_snoc (cs : List Nat) (s : Bs) (i : Nat) (h : i < s.length) : dress cs (s.take (i + 1)) = dress cs (s.take i) ++ (if special s[i] = true then dressOne ((cs.drop (cnt (s.take i))).headD 0) s[i] else [s[i]]) := by
  rw [List.take_succ_eq_append_getElem h, dress_append]
  congr 1
  rw [dress]
  split <;> simp [dress]
theorem cnt_snoc (s : Bs) (i : Nat) (h : i < s.length) : cnt (s.take (i + 1)) = cnt (s.take i) + (if special s[i] = true then 1 else 0) := by
  unfold cnt
  rw [List.take_succ_eq_append_getElem h, List.countP_append, List.countP_singleton]
end Go.Proofs.YtegiloiojloaoaaGreatDoor.Strd
