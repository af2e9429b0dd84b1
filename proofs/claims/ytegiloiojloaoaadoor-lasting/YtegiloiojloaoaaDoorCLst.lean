/- Least: all ways to give forms to the first jumps are tried, one of them is the one that came out. Dressed: one byte more. -/
import Derived.Test.YtegiloiojloaoaaDoorCSpec
set_option linter.unusedVariables false
set_option linter.unusedSimpArgs false
namespace Go.Proofs.YtegiloiojloaoaaDoor.Strd

/-- The forms that a number speaks of. -/
def digs : Nat → Nat → List Nat
  | _, 0 => []
  | k, n + 1 => (1 + k % 3) :: digs (k / 3) n
theorem digs_len : ∀ (n k : Nat), (digs k n).length = n
  | 0, _ => rfl
  | n + 1, k => by rw [digs, List.length_cons, digs_len n]
theorem digs_rng : ∀ (n k : Nat), ∀ f ∈ digs k n, 1 ≤ f ∧ f < 4
  | 0, _, f, h => by cases h
  | n + 1, k, f, h => by
    rw [digs] at h
    rcases List.mem_cons.1 h with rfl | h
    · omega
    · exact digs_rng n _ f h
theorem digs_ex : ∀ (L : List Nat), (∀ d ∈ L, 1 ≤ d ∧ d ≤ 3) → ∃ k, k < 3 ^ L.length ∧ digs k L.length = L
  | [], _ => ⟨0, by simp, rfl⟩
  | d :: L, h => by
    obtain ⟨k, h1, h2⟩ := digs_ex L (fun x hx => h x (by simp [hx]))
    have hd := h d (by simp)
    refine ⟨3 * k + (d - 1), ?_, ?_⟩
    · rw [List.length_cons, Nat.pow_succ]; omega
    · rw [List.length_cons, digs, show (3 * k + (d - 1)) / 3 = k by omega, h2, show 1 + (3 * k + (d - 1)) % 3 = d by omega]
theorem digs_snoc : ∀ (n k : Nat), digs k (n + 1) = digs k n ++ [1 + k / 3 ^ n % 3]
  | 0, k => by simp [digs]
  | n + 1, k => by
    rw [digs, digs_snoc n (k / 3)]
    conv => rhs; rw [digs]
    rw [List.cons_append, Nat.div_div_eq_div_mul, show 3 * 3 ^ n = 3 ^ (n + 1) by rw [Nat.pow_succ, Nat.mul_comm]]
theorem least_same {ms : List ML} (hM : MsEven ms) (n : Nat) (hn : n ≤ jumpsIn ms) : ∃ k, k < 3 ^ n ∧ assemble (srcOf (pairs ms (digs k n))) = assemble (srcOf (pairs ms [])) := by
  have hl : ((out ms).take n).length = n := by rw [List.length_take, out_len hM]; omega
  obtain ⟨k, h1, h2⟩ := digs_ex ((out ms).take n) (fun d hd => by
    obtain ⟨i, hi, rfl⟩ := List.getElem_of_mem hd
    rw [hl] at hi
    have := out_rng hM i (by omega)
    rw [List.getElem_take]
    rw [List.getD_eq_getElem?_getD, List.getElem?_eq_getElem (by rw [out_len hM]; omega)] at this
    exact this)
  rw [hl] at h1 h2
  refine ⟨k, h1, ?_⟩
  rw [h2]
  refine agree_eq hM _ fun i => ?_
  by_cases hi : i < n
  · right
    rw [List.getD_eq_getElem?_getD, List.getD_eq_getElem?_getD, List.getElem?_take, if_pos hi]
  · left
    rw [List.getD_eq_getElem?_getD, List.getElem?_eq_none (by rw [hl]; omega)]; rfl
theorem plain_ok0 {ms : List ML} (hM : MsEven ms) : (assemble (srcOf (pairs ms []))).2 = (0, 0) := by rw [plain_asm hM]
/-- Lasting: the forms that came out before the i-th jump, and one more. -/
theorem lasting_step {ms : List ML} (hM : MsEven ms) (i : Nat) (hi : i < jumpsIn ms) (f : Nat) (h1 : 1 ≤ f) (h3 : f ≤ 3) :
    (f = (out ms).getD i 0 → assemble (srcOf (pairs ms ((out ms).take i ++ [f]))) = assemble (srcOf (pairs ms []))) ∧
    (f < (out ms).getD i 0 → (assemble (srcOf (pairs ms ((out ms).take i ++ [f])))).2.2 ≠ 0) := by
  have hl : ((out ms).take i).length = i := by rw [List.length_take, out_len hM]; omega
  have hat : ((out ms).take i ++ [f]).getD i 0 = f := by
    rw [List.getD_eq_getElem?_getD, List.getElem?_append_right (by omega), hl, Nat.sub_self]; rfl
  refine ⟨fun e => agree_eq hM _ fun j => ?_, fun e h0 => ?_⟩
  · by_cases hj : j < i
    · right
      rw [List.getD_eq_getElem?_getD, List.getD_eq_getElem?_getD, List.getElem?_append_left (by omega), List.getElem?_take, if_pos hj]
    · by_cases hji : j = i
      · right; rw [hji, hat, e]
      · left
        rw [List.getD_eq_getElem?_getD, List.getElem?_eq_none (by rw [List.length_append, hl, List.length_singleton]; omega)]; rfl
  · have := less_bad hM ((out ms).take i ++ [f]) (fun x hx => by
      rcases List.mem_append.1 hx with hx | hx
      · obtain ⟨k, hk, rfl⟩ := List.getElem_of_mem hx
        rw [hl] at hk
        have := out_rng hM k (by omega)
        rw [List.getD_eq_getElem?_getD, List.getElem?_eq_getElem (by rw [out_len hM]; omega)] at this
        simp only [Option.getD_some] at this
        rw [List.getElem_take]; omega
      · rw [List.mem_singleton] at hx; omega) i hi (by rw [hat]; exact h1) (by rw [hat]; exact e)
    rcases this with h | h <;> rw [h] at h0 <;> cases h0
theorem dress_snoc (cs : List Nat) (s : Bs) (i : Nat) (h : i < s.length) : dress cs (s.take (i + 1)) = dress cs (s.take i) ++ (if special s[i] = true then dressOne ((cs.drop (cnt (s.take i))).headD 0) s[i] else [s[i]]) := by
  rw [List.take_succ_eq_append_getElem h, dress_append]
  congr 1
  rw [dress]
  split <;> simp [dress]
theorem cnt_snoc (s : Bs) (i : Nat) (h : i < s.length) : cnt (s.take (i + 1)) = cnt (s.take i) + (if special s[i] = true then 1 else 0) := by
  unfold cnt
  rw [List.take_succ_eq_append_getElem h, List.countP_append, List.countP_singleton]
end Go.Proofs.YtegiloiojloaoaaDoor.Strd
