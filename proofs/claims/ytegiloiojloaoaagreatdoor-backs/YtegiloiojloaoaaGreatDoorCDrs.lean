/- Empty lines change no layout. -/
import Derived.Test.YtegiloiojloaoaaGreatDoorCSpec
set_option linter.unusedVariables false
set_option linter.unusedSimpArgs false
namespace Go.Proofs.YtegiloiojloaoaaGreatDoor.Strd

def sel {α : Type} : List Bool → List α → List α
  | true :: ks, x :: xs => x :: sel ks xs
  | false :: ks, _ :: xs => sel ks xs
  | _, _ => []
/-- What is left out is an empty line. -/
def Out : List Bool → List Line → Prop
  | [], [] => True
  | k :: ks, l :: ls => (k = false → l = emptyLine) ∧ Out ks ls
  | _, _ => False
def Zero : List Bool → List Int → Prop
  | [], [] => True
  | k :: ks, f :: fs => (k = false → f = 0) ∧ Zero ks fs
  | _, _ => False
theorem Out.len : ∀ {ks : List Bool} {ls : List Line}, Out ks ls → ks.length = ls.length
  | [], [], _ => rfl
  | [], _ :: _, h => h.elim
  | _ :: _, [], h => h.elim
  | _ :: ks, _ :: ls, h => by simp [Out.len h.2]
theorem Zero.len : ∀ {ks : List Bool} {ls : List Int}, Zero ks ls → ks.length = ls.length
  | [], [], _ => rfl
  | [], _ :: _, h => h.elim
  | _ :: _, [], h => h.elim
  | _ :: ks, _ :: ls, h => by simp [Zero.len h.2]
theorem sel_len {α β : Type} : ∀ (ks : List Bool) (xs : List α) (ys : List β), xs.length = ks.length → ys.length = ks.length → (sel ks xs).length = (sel ks ys).length
  | [], [], [], _, _ => rfl
  | true :: ks, x :: xs, y :: ys, h1, h2 => by simp only [sel, List.length_cons]; rw [sel_len ks xs ys (by simpa using h1) (by simpa using h2)]
  | false :: ks, x :: xs, y :: ys, h1, h2 => sel_len ks xs ys (by simpa using h1) (by simpa using h2)
  | [], _ :: _, _, h, _ => by cases h
  | [], [], _ :: _, _, h => by cases h
  | _ :: _, [], _, h, _ => by cases h
  | true :: _, _ :: _, [], _, h => by cases h
  | false :: _, _ :: _, [], _, h => by cases h
theorem empty_size (f a : Int) : size emptyLine.ins f a = 0 := by simp [emptyLine, emptyIns, size]
theorem empty_misses (lines : List Line) (st : List Int) (f a : Int) : misses lines st emptyLine f a = false := by simp [misses, emptyLine, emptyIns, isJump]
theorem empty_bytes (lines : List Line) (st : List Int) (f a : Int) : bytes (placed lines st emptyLine.ins) f a = [] := by simp [bytes, placed, emptyLine, emptyIns]
theorem mis_eq (lines lines' : List Line) (st st' : List Int) (hn : ∀ o, numberOf lines st o = numberOf lines' st' o) (l : Line) (f a : Int) : misses lines st l f a = misses lines' st' l f a := by unfold misses; rw [hn]
theorem sel_longer (lines lines' : List Line) (st st' : List Int) (hn : ∀ o, numberOf lines st o = numberOf lines' st' o) : ∀ (ks : List Bool) (ls : List Line) (fs : List Int) (a : Int), Out ks ls → Zero ks fs →
    longer lines st (sel ks ls) (sel ks fs) (starts a (sel ks ls) (sel ks fs)) = sel ks (longer lines' st' ls fs (starts a ls fs)) ∧ Zero ks (longer lines' st' ls fs (starts a ls fs))
  | [], [], [], _, _, _ => ⟨by simp [sel, longer], by simp [longer, Zero]⟩
  | [], _ :: _, _, _, h, _ => h.elim
  | [], [], _ :: _, _, _, h => h.elim
  | _ :: _, [], _, _, h, _ => h.elim
  | _ :: _, _ :: _, [], _, _, h => h.elim
  | true :: ks, l :: ls, f :: fs, a, ho, hz => by
    have ih := sel_longer lines lines' st st' hn ks ls fs (a + size l.ins f a) ho.2 hz.2
    simp only [sel, starts, longer, Zero]
    rw [ih.1, mis_eq lines lines' st st' hn]
    exact ⟨rfl, fun h => (by cases h), ih.2⟩
  | false :: ks, l :: ls, f :: fs, a, ho, hz => by
    have e := ho.1 rfl
    subst e
    have ih := sel_longer lines lines' st st' hn ks ls fs a ho.2 hz.2
    simp only [sel, starts, longer, Zero, empty_size, Int.add_zero, empty_misses]
    exact ⟨ih.1, fun _ => by simp [hz.1 rfl], ih.2⟩
theorem sel_image (lines lines' : List Line) (st st' : List Int) (hn : ∀ o, numberOf lines st o = numberOf lines' st' o) : ∀ (ks : List Bool) (ls : List Line) (fs : List Int) (a : Int), Out ks ls → Zero ks fs →
    image lines st (sel ks ls) (sel ks fs) (starts a (sel ks ls) (sel ks fs)) = image lines' st' ls fs (starts a ls fs)
  | [], [], [], _, _, _ => by simp [sel, image]
  | [], _ :: _, _, _, h, _ => h.elim
  | [], [], _ :: _, _, _, h => h.elim
  | _ :: _, [], _, _, h, _ => h.elim
  | _ :: _, _ :: _, [], _, _, h => h.elim
  | true :: ks, l :: ls, f :: fs, a, ho, hz => by
    have ih := sel_image lines lines' st st' hn ks ls fs (a + size l.ins f a) ho.2 hz.2
    simp only [sel, starts, image]
    rw [ih]
    congr 2
    unfold placed
    simp only [hn]
  | false :: ks, l :: ls, f :: fs, a, ho, hz => by
    have e := ho.1 rfl
    subst e
    have ih := sel_image lines lines' st st' hn ks ls fs a ho.2 hz.2
    simp only [sel, starts, image, empty_size, Int.add_zero, empty_bytes, List.nil_append]
    exact ih
theorem sel_place (n : Bs) (hn : n ≠ []) : ∀ (ks : List Bool) (ls : List Line) (fs : List Int) (a : Int), Out ks ls → Zero ks fs →
    ((labelAt (sel ks ls) n = none ∧ labelAt ls n = none) ∨ ∃ i j, labelAt (sel ks ls) n = some i ∧ labelAt ls n = some j ∧ (starts a (sel ks ls) (sel ks fs)).getD i 0 = (starts a ls fs).getD j 0)
  | [], [], [], _, _, _ => .inl ⟨rfl, rfl⟩
  | [], _ :: _, _, _, h, _ => h.elim
  | [], [], _ :: _, _, _, h => h.elim
  | _ :: _, [], _, _, h, _ => h.elim
  | _ :: _, _ :: _, [], _, _, h => h.elim
  | true :: ks, l :: ls, f :: fs, a, ho, hz => by
    simp only [sel, labelAt, List.findIdx?_cons, starts]
    cases hl : (l.label == n)
    · rcases sel_place n hn ks ls fs (a + size l.ins f a) ho.2 hz.2 with ⟨h1, h2⟩ | ⟨i, j, h1, h2, h3⟩
      · unfold labelAt at h1 h2
        left; rw [h1, h2]; simp
      · unfold labelAt at h1 h2
        right
        rw [h1, h2]
        exact ⟨i + 1, j + 1, by simp, by simp, by simpa using h3⟩
    · right
      exact ⟨0, 0, by simp, by simp, by simp⟩
  | false :: ks, l :: ls, f :: fs, a, ho, hz => by
    have e := ho.1 rfl
    subst e
    have hl : (emptyLine.label == n) = false := by
      cases n with
      | nil => exact (hn rfl).elim
      | cons c t => rfl
    simp only [sel, labelAt, List.findIdx?_cons, starts, hl, empty_size, Int.add_zero]
    rcases sel_place n hn ks ls fs a ho.2 hz.2 with ⟨h1, h2⟩ | ⟨i, j, h1, h2, h3⟩
    · unfold labelAt at h1 h2
      left; rw [h1, h2]; simp
    · unfold labelAt at h1 h2
      right
      rw [h1, h2]
      exact ⟨i, j + 1, by simp, by simp, by simpa using h3⟩
theorem sel_number (ks : List Bool) (ls : List Line) (fs : List Int) (ho : Out ks ls) (hz : Zero ks fs) (o : Opr) : numberOf (sel ks ls) (starts 0 (sel ks ls) (sel ks fs)) o = numberOf ls (starts 0 ls fs) o := by
  unfold numberOf placeOf
  split
  · rfl
  · rename_i hn
    rcases sel_place o.name hn ks ls fs 0 ho hz with ⟨h1, h2⟩ | ⟨i, j, h1, h2, h3⟩
    · rw [h1, h2]
      simp only [Option.getD_none]
      rw [st_zero, st_zero]
    · rw [h1, h2]; exact h3
theorem sel_inj : ∀ (ks : List Bool) (fs gs : List Int), Zero ks fs → Zero ks gs → sel ks fs = sel ks gs → fs = gs
  | [], [], [], _, _, _ => rfl
  | [], _ :: _, _, h, _, _ => h.elim
  | [], [], _ :: _, _, h, _ => h.elim
  | _ :: _, [], _, h, _, _ => h.elim
  | _ :: _, _ :: _, [], _, h, _ => h.elim
  | true :: ks, f :: fs, g :: gs, h1, h2, h => by
    simp only [sel, List.cons.injEq] at h
    rw [h.1, sel_inj ks fs gs h1.2 h2.2 h.2]
  | false :: ks, f :: fs, g :: gs, h1, h2, h => by
    rw [h1.1 rfl, h2.1 rfl, sel_inj ks fs gs h1.2 h2.2 h]
theorem sel_settle (ks : List Bool) (ls : List Line) (ho : Out ks ls) : ∀ (m n : Nat) (fs : List Int), Zero ks fs → room (sel ks ls) (sel ks fs) < n → room ls fs < m →
    settle 0 (sel ks ls) n (sel ks fs) = sel ks (settle 0 ls m fs) ∧ Zero ks (settle 0 ls m fs)
  | 0, _, _, _, _, h => by omega
  | m + 1, 0, _, _, h, _ => by omega
  | m + 1, n + 1, fs, hz, h1, h2 => by
    have hl := sel_longer (sel ks ls) ls (starts 0 (sel ks ls) (sel ks fs)) (starts 0 ls fs) (sel_number ks ls fs ho hz) ks ls fs 0 ho hz
    have len1 : fs.length = ls.length := by rw [← hz.len, ho.len]
    have len2 : (sel ks fs).length = (sel ks ls).length := sel_len ks fs ls hz.len.symm ho.len.symm
    unfold settle
    simp only
    by_cases e : longer ls (starts 0 ls fs) ls fs (starts 0 ls fs) = fs
    · have e2 : longer (sel ks ls) (starts 0 (sel ks ls) (sel ks fs)) (sel ks ls) (sel ks fs) (starts 0 (sel ks ls) (sel ks fs)) = sel ks fs := by rw [hl.1, e]
      rw [if_pos e, if_pos e2]
      exact ⟨rfl, hz⟩
    · have e2 : ¬ longer (sel ks ls) (starts 0 (sel ks ls) (sel ks fs)) (sel ks ls) (sel ks fs) (starts 0 (sel ks ls) (sel ks fs)) = sel ks fs := fun h => e (sel_inj ks _ _ hl.2 hz (by rw [← hl.1]; exact h))
      rw [if_neg e, if_neg e2]
      have r1 := (lng_room ls (starts 0 ls fs) ls fs (starts 0 ls fs) len1 (by rw [st_len _ _ _ len1]; omega)).2 e
      have r2 := (lng_room (sel ks ls) (starts 0 (sel ks ls) (sel ks fs)) (sel ks ls) (sel ks fs) (starts 0 (sel ks ls) (sel ks fs)) len2 (by rw [st_len _ _ _ len2]; omega)).2 e2
      rw [hl.1] at r2 ⊢
      exact sel_settle ks ls ho m n _ hl.2 (by omega) (by omega)
theorem sel_map {α β : Type} (g : α → β) : ∀ (ks : List Bool) (xs : List α), sel ks (xs.map g) = (sel ks xs).map g
  | [], _ => by cases ‹List α› <;> rfl
  | true :: ks, [] => rfl
  | false :: ks, [] => rfl
  | true :: ks, x :: xs => by simp only [List.map_cons, sel]; rw [sel_map g ks xs]
  | false :: ks, x :: xs => by simp only [List.map_cons, sel]; rw [sel_map g ks xs]
theorem first_zero : ∀ (ks : List Bool) (ls : List Line), Out ks ls → Zero ks (firstForms ls)
  | [], [], _ => trivial
  | [], _ :: _, h => h.elim
  | _ :: _, [], h => h.elim
  | k :: ks, l :: ls, h => ⟨fun e => by rw [h.1 e]; rfl, first_zero ks ls h.2⟩
theorem sel_mem {α : Type} : ∀ (ks : List Bool) (xs : List α) (x : α), x ∈ sel ks xs → x ∈ xs
  | true :: ks, y :: xs, x, h => by
    simp only [sel, List.mem_cons] at h
    rcases h with rfl | h
    · simp
    · exact List.mem_cons_of_mem _ (sel_mem ks xs x h)
  | false :: ks, y :: xs, x, h => List.mem_cons_of_mem _ (sel_mem ks xs x h)
  | [], _, x, h => by simp [sel] at h
  | true :: _, [], x, h => by simp [sel] at h
  | false :: _, [], x, h => by simp [sel] at h
theorem out_mem : ∀ (ks : List Bool) (ls : List Line), Out ks ls → ∀ l ∈ ls, l ∈ sel ks ls ∨ l = emptyLine
  | [], [], _, l, h => by cases h
  | [], _ :: _, h, _, _ => h.elim
  | _ :: _, [], h, _, _ => h.elim
  | k :: ks, x :: ls, h, l, hl => by
    rcases List.mem_cons.1 hl with rfl | hl
    · cases k
      · exact .inr (h.1 rfl)
      · exact .inl (by simp [sel])
    · rcases out_mem ks ls h.2 l hl with h1 | h1
      · cases k
        · exact .inl h1
        · exact .inl (by simp [sel, h1])
      · exact .inr h1
/-- Lines with empty ones between them: the same image. -/
theorem sel_lay (ks : List Bool) (ls : List Line) (ho : Out ks ls) (hlen : ls.length ≤ 4001) (hS : Simp (sel ks ls)) (h2 : ∀ l ∈ sel ks ls, isJump l.ins.op = true → l.ins.op.last = 2) :
    lay 0 ls = ((layForms 0 ls, starts 0 ls (layForms 0 ls)), 0, 0) ∧ imgOf ls (layForms 0 ls) = imgOf (sel ks ls) (layForms 0 (sel ks ls)) := by
  have hz := first_zero ks ls ho
  have hff : firstForms (sel ks ls) = sel ks (firstForms ls) := by unfold firstForms; rw [sel_map]
  have hS' : Simp ls := by
    refine ⟨hlen, fun l hl hj => ?_, fun l hl hj => ?_, fun l hl => ?_⟩
    · rcases out_mem ks ls ho l hl with h | rfl
      · obtain ⟨n, i, h3, h4, h5⟩ := hS.jumps l h hj
        rcases sel_place n h4 ks ls (firstForms ls) 0 ho hz with ⟨h6, _⟩ | ⟨_, j, _, h7, _⟩
        · rw [h6] at h5; cases h5
        · exact ⟨n, j, h3, h4, h7⟩
      · simp [emptyLine, emptyIns, isJump] at hj
    · rcases out_mem ks ls ho l hl with h | rfl
      · exact hS.plain l h hj
      · simp [emptyLine, emptyIns, size]
    · rcases out_mem ks ls ho l hl with h | rfl
      · exact hS.forms l h
      · simp [emptyLine, emptyIns]
  have hr1 := first_room ls (fun l hl => by have := hS'.forms l hl; omega)
  have hr2 := first_room (sel ks ls) (fun l hl => by have := hS.forms l hl; omega)
  have hs := sel_settle ks ls ho (2 * ls.length + 1) (2 * (sel ks ls).length + 1) (firstForms ls) hz (by rw [← hff]; unfold firstForms; omega) (by unfold firstForms; omega)
  rw [← hff] at hs
  have hv : Valid ls (layForms 0 ls) := fun k hm => settled_valid hS' (lay_settled hS') k (fun hk hj => by
    rcases out_mem ks ls ho ls[k] (List.getElem_mem _) with h | h
    · exact h2 _ h hj
    · rw [h] at hj; simp [emptyLine, emptyIns, isJump] at hj) hm
  refine ⟨?_, ?_⟩
  · rcases lay_simp hS' with ⟨_, e⟩ | ⟨hn, _⟩
    · exact e
    · exact (hn hv).elim
  · unfold imgOf
    have e : layForms 0 (sel ks ls) = sel ks (layForms 0 ls) := hs.1
    have hz2 : Zero ks (layForms 0 ls) := hs.2
    rw [e]
    exact (sel_image (sel ks ls) ls _ _ (sel_number ks ls _ ho hz2) ks ls _ 0 ho hz2).symm
end Go.Proofs.YtegiloiojloaoaaGreatDoor.Strd
