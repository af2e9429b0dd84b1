/- Plain facts on bits of 64-bit numbers. -/
import Derived.WalkKit
set_option linter.unusedVariables false
set_option linter.unusedSimpArgs false
namespace Go.Proofs.YtegiloiojloaoaaGreatDoor
open Go.RowKit

theorem bits_and_toNat (a : Int) (m : Nat) (hm : m < 2 ^ 63) : bits .and .i64 a (m : Int) = (((a % 2 ^ 64).toNat &&& m : Nat) : Int) := by
  have hlt : ((a % 2 ^ 64).toNat &&& m) < 2 ^ 63 := Nat.lt_of_le_of_lt Nat.and_le_right hm
  have e1 : (BitVec.ofInt 64 (m : Int)).toNat = m := by
    rw [BitVec.toNat_ofInt]; omega
  have e2 : (BitVec.ofInt 64 a).toNat = (a % 2 ^ 64).toNat := by
    rw [BitVec.toNat_ofInt]; rfl
  show IntKind.i64.wrap ((BitVec.ofInt 64 a &&& BitVec.ofInt 64 (m : Int)).toNat : Int) = _
  rw [BitVec.toNat_and, e1, e2]
  generalize ((a % 2 ^ 64).toNat &&& m) = x at hlt ⊢
  exact IntWalk.i64_in _ (by omega)

theorem bits_and_pow (a : Int) (k : Nat) (hk : k ≤ 32) : bits .and .i64 a (((2 ^ k - 1 : Nat)) : Int) = a % ((2 ^ k : Nat) : Int) := by
  have hp : 2 ^ k ≤ 2 ^ 32 := Nat.pow_le_pow_right (by omega) hk
  have hp0 : 0 < 2 ^ k := Nat.two_pow_pos k
  rw [bits_and_toNat a _ (by omega), Nat.and_two_pow_sub_one_eq_mod]
  have hd : ((2 : Nat) ^ k) ∣ 2 ^ 64 := Nat.pow_dvd_pow 2 (by omega)
  have hd' : ((2 ^ k : Nat) : Int) ∣ (2 : Int) ^ 64 := by
    have := Int.natCast_dvd_natCast.2 hd; simpa using this
  rw [Int.natCast_emod, Int.toNat_of_nonneg (by omega), Int.emod_emod_of_dvd _ hd']

theorem bits_and_1 (a : Int) : bits .and .i64 a 1 = a % 2 := bits_and_pow a 1 (by omega)
theorem bits_and_255 (a : Int) : bits .and .i64 a 255 = a % 256 := bits_and_pow a 8 (by omega)
theorem bits_and_7 (a : Int) : bits .and .i64 a 7 = a % 8 := bits_and_pow a 3 (by omega)
theorem bits_and_pows (a n : Int) (h : n = 2 ∨ n = 4 ∨ n = 8 ∨ n = 16 ∨ n = 32 ∨ n = 64 ∨ n = 128 ∨ n = 256) : bits .and .i64 a (n - 1) = a % n := by
  rcases h with rfl | rfl | rfl | rfl | rfl | rfl | rfl | rfl
  · exact bits_and_pow a 1 (by omega)
  · exact bits_and_pow a 2 (by omega)
  · exact bits_and_pow a 3 (by omega)
  · exact bits_and_pow a 4 (by omega)
  · exact bits_and_pow a 5 (by omega)
  · exact bits_and_pow a 6 (by omega)
  · exact bits_and_pow a 7 (by omega)
  · exact bits_and_pow a 8 (by omega)

def isPowD (n : Nat) : Bool := (n == 2 || n == 4 || n == 8 || n == 16 || n == 32 || n == 64 || n == 128 || n == 256)
theorem and_pred_all : ∀ n : Fin 257, 2 ≤ n.val → ((n.val &&& (n.val - 1)) == 0) = isPowD n.val := by decide +kernel
theorem bits_and_pred (n : Int) (h0 : 2 ≤ n) (h1 : n ≤ 256) : (bits .and .i64 n (n - 1) == 0) = isPowD n.toNat := by
  obtain ⟨m, rfl⟩ := Int.eq_ofNat_of_zero_le (show 0 ≤ n by omega)
  have e : ((m : Int) - 1) = ((m - 1 : Nat) : Int) := by omega
  rw [e, bits_and_toNat _ _ (by omega)]
  have e2 : ((m : Int) % 2 ^ 64).toNat = m := by omega
  rw [e2, Int.toNat_natCast, ← and_pred_all ⟨m, by omega⟩ (by show 2 ≤ m; omega)]
  show (((m &&& (m - 1) : Nat) : Int) == 0) = ((m &&& (m - 1)) == 0)
  rw [Bool.eq_iff_iff, beq_iff_eq, beq_iff_eq]
  omega

theorem xor_one_all : ∀ c : Fin 16, bits .xor .i64 ((c.val : Nat) : Int) 1 = if c.val % 2 = 0 then ((c.val : Nat) : Int) + 1 else ((c.val : Nat) : Int) - 1 := by decide +kernel
theorem bits_xor_1 (c : Int) (h0 : 0 ≤ c) (h1 : c < 16) : bits .xor .i64 c 1 = if c % 2 = 0 then c + 1 else c - 1 := by
  obtain ⟨m, rfl⟩ := Int.eq_ofNat_of_zero_le h0
  have := xor_one_all ⟨m, by omega⟩
  simp only at this
  rw [this]
  have e : ((m : Int) % 2 = 0) ↔ (m % 2 = 0) := by omega
  simp only [e]
end Go.Proofs.YtegiloiojloaoaaGreatDoor
