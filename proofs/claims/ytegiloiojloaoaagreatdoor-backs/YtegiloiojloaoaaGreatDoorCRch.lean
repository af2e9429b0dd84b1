/- The least that is above the last, again and again. -/
import Derived.Test.YtegiloiojloaoaaGreatDoorCRf0
set_option linter.unusedVariables false
set_option linter.unusedSimpArgs false
namespace Go.Proofs.YtegiloiojloaoaaGreatDoor.Rf
open Strd

def aboveB (last : Option Bs) (x : Bs) : Bool := match last with
  | none => true
  | some y => decide (y < x)
def nameAt (xs : List (Bs × Int)) (k : Int) : Bs := (xs.getD k.toNat ([], 0)).1
/-- The best so far; -1: there is none. -/
def bestTo (xs : List (Bs × Int)) (last : Option Bs) : Nat → Int
  | 0 => -1
  | i + 1 => if aboveB last (nameAt xs i) = true ∧ (bestTo xs last i < 0 ∨ nameAt xs i < nameAt xs (bestTo xs last i)) then i else bestTo xs last i
theorem best_spec (xs : List (Bs × Int)) (last : Option Bs) : ∀ i, (bestTo xs last i = -1 ∧ ∀ j : Nat, j < i → aboveB last (nameAt xs j) = false) ∨ (∃ b : Nat, bestTo xs last i = b ∧ b < i ∧ aboveB last (nameAt xs b) = true ∧ ∀ j : Nat, j < i → aboveB last (nameAt xs j) = true → nameAt xs b ≤ nameAt xs j)
  | 0 => .inl ⟨rfl, fun j h => by omega⟩
  | i + 1 => by
    rw [bestTo]
    rcases best_spec xs last i with ⟨h1, h2⟩ | ⟨b, h1, h2, h3, h4⟩
    · rw [h1]
      cases ha : aboveB last (nameAt xs i) with
      | true =>
        rw [if_pos ⟨rfl, .inl (by omega)⟩]
        refine .inr ⟨i, rfl, by omega, ha, fun j hj hja => ?_⟩
        rcases Nat.lt_succ_iff_lt_or_eq.1 hj with h | h
        · rw [h2 j h] at hja; cases hja
        · subst h; exact List.le_refl _
      | false =>
        rw [if_neg (by rintro ⟨h, _⟩; cases h)]
        refine .inl ⟨rfl, fun j hj => ?_⟩
        rcases Nat.lt_succ_iff_lt_or_eq.1 hj with h | h
        · exact h2 j h
        · subst h; exact ha
    · rw [h1]
      by_cases hc : aboveB last (nameAt xs i) = true ∧ ((b : Int) < 0 ∨ nameAt xs i < nameAt xs b)
      · rw [if_pos hc]
        have hlt : nameAt xs i < nameAt xs b := hc.2.resolve_left (by omega)
        refine .inr ⟨i, rfl, by omega, hc.1, fun j hj hja => ?_⟩
        rcases Nat.lt_succ_iff_lt_or_eq.1 hj with h | h
        · exact List.le_trans (List.le_of_lt hlt) (h4 j h hja)
        · subst h; exact List.le_refl _
      · rw [if_neg hc]
        refine .inr ⟨b, rfl, by omega, h3, fun j hj hja => ?_⟩
        rcases Nat.lt_succ_iff_lt_or_eq.1 hj with h | h
        · exact h4 j h hja
        · subst h
          have : ¬ nameAt xs j < nameAt xs b := fun h => hc ⟨hja, .inr h⟩
          exact List.not_lt.1 this
def lastOf (S : List (Bs × Int)) (k : Nat) : Option Bs := if k = 0 then none else some (nameAt S ((k : Int) - 1))
theorem nameAt_get (S : List (Bs × Int)) (k : Nat) (h : k < S.length) : nameAt S k = S[k].1 := by
  unfold nameAt
  rw [Int.toNat_natCast, List.getD_eq_getElem?_getD, List.getElem?_eq_getElem h]; rfl
theorem best_is (xs S : List (Bs × Int)) (hp : S.Perm xs) (hs : S.Pairwise fun a b => a.1 < b.1) (k : Nat) (hk : k < S.length) : ∃ b : Nat, ∃ h : b < xs.length, bestTo xs (lastOf S k) xs.length = b ∧ xs[b] = S[k] := by
  have hab : ∀ j (hj : j < S.length), aboveB (lastOf S k) S[j].1 = decide (k ≤ j) := by
    intro j hj
    unfold lastOf
    by_cases h0 : k = 0
    · rw [if_pos h0]; subst h0; simp [aboveB]
    · rw [if_neg h0]
      have e : ((k : Int) - 1) = ((k - 1 : Nat) : Int) := by omega
      rw [e, nameAt_get S (k - 1) (by omega)]
      show decide (S[k - 1].1 < S[j].1) = decide (k ≤ j)
      by_cases hkj : k ≤ j
      · have := (List.pairwise_iff_getElem.1 hs) (k - 1) j (by omega) hj (by omega)
        simp [hkj, this]
      · have hle : ¬ S[k - 1].1 < S[j].1 := by
          by_cases hjk : j = k - 1
          · subst hjk; exact List.lt_irrefl _
          · have := (List.pairwise_iff_getElem.1 hs) j (k - 1) hj (by omega) (by omega)
            exact fun h => List.lt_asymm this h
        simp [hkj, hle]
  obtain ⟨m, hm, hme⟩ := List.mem_iff_getElem.1 (hp.mem_iff.1 (List.getElem_mem hk))
  rcases best_spec xs (lastOf S k) xs.length with ⟨h1, h2⟩ | ⟨b, h1, h2, h3, h4⟩
  · have := h2 m hm
    rw [nameAt_get xs m hm, hme, hab k hk] at this
    simp at this
  · refine ⟨b, h2, h1, ?_⟩
    obtain ⟨j, hj, hje⟩ := List.mem_iff_getElem.1 (hp.mem_iff.2 (List.getElem_mem h2))
    rw [nameAt_get xs b h2, ← hje, hab j hj, decide_eq_true_eq] at h3
    have hle := h4 m hm (by rw [nameAt_get xs m hm, hme, hab k hk]; simp)
    rw [nameAt_get xs m hm, hme, nameAt_get xs b h2, ← hje] at hle
    have : j = k := by
      by_cases e : j = k
      · exact e
      · have := (List.pairwise_iff_getElem.1 hs) k j hk hj (by omega)
        exact (List.not_lt.2 hle this).elim
    subst this
    exact hje.symm
end Go.Proofs.YtegiloiojloaoaaGreatDoor.Rf
