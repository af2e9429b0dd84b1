/- Contracts of package striderkeep: pick, name, jumps, decimal. -/
import Derived.Test.YtegiloiojloaoaaGreatDoorCOprs
import Derived.Test.YtegiloiojloaoaaGreatDoorCSpec
set_option linter.unusedVariables false
set_option linter.unusedSimpArgs false
namespace Go.Proofs.YtegiloiojloaoaaGreatDoor
open Go.RowKit Go.Shelf

set_option maxHeartbeats 400000 in
theorem pick_c (c n : Int) (w : World) (hc : -2^63 ≤ c ∧ c < 2^63) (hn : 0 < n ∧ n < 2^40) :
    Calls Tryz.prog 17 #[.int .i64 c, .int .i64 n] w fun e w' => e = .returned (.int .i64 (Strd.pick c n)) ∧ w' = w := by
  generalize hX : Strd.pick c n = X
  unfold Strd.pick at hX
  have HX := hide hX
  clear hX
  by_cases h : c < 0
  · have Hr := hide (show (if c < 0 then -(c + 1) else c) = -(c + 1) by rw [if_pos h])
    have e1 : IntKind.i64.wrap (c + 1) = c + 1 := IntWalk.i64_in _ (by omega)
    have e2 : IntKind.i64.wrap (-(c + 1)) = -(c + 1) := IntWalk.i64_in _ (by omega)
    go_enter Tryz.func17, Tryz.ntmps17
    go_wp2
    go_ret
    exact ⟨ret_int (by rw [← unhide HX, unhide Hr, ← Int.neg_tmod, Int.tmod_eq_emod_of_nonneg (by omega)]), rfl⟩
  · have Hr := hide (show (if c < 0 then -(c + 1) else c) = c by rw [if_neg h])
    go_enter Tryz.func17, Tryz.ntmps17
    go_wp2
    go_ret
    exact ⟨ret_int (by rw [← unhide HX, unhide Hr]), rfl⟩

set_option maxHeartbeats 400000 in
theorem name_c (k : Nat) (w : World) (hk : k < 6) :
    Calls Tryz.prog 18 #[.int .i64 (k : Int)] w fun e w' => e = .returned (.string (bstr (Strd.nameTexts.getD k []))) ∧ Below w.heap.size w w' := by
  have : k = 0 ∨ k = 1 ∨ k = 2 ∨ k = 3 ∨ k = 4 ∨ k = 5 := by omega
  rcases this with rfl | rfl | rfl | rfl | rfl | rfl
  all_goals
    go_enter Tryz.func18, Tryz.ntmps18
    go_wp2
    go_ret
  all_goals exact ⟨rfl, below_a _ _⟩

def jumpRow : Array Value := #[.string ⟨#[98, 114, 97]⟩, .string ⟨#[98, 115, 114]⟩, .string ⟨#[98, 104, 105]⟩, .string ⟨#[98, 108, 115]⟩, .string ⟨#[98, 99, 99]⟩, .string ⟨#[98, 99, 115]⟩, .string ⟨#[98, 110, 101]⟩, .string ⟨#[98, 101, 113]⟩, .string ⟨#[98, 118, 99]⟩, .string ⟨#[98, 118, 115]⟩, .string ⟨#[98, 112, 108]⟩, .string ⟨#[98, 109, 105]⟩, .string ⟨#[98, 103, 101]⟩, .string ⟨#[98, 108, 116]⟩, .string ⟨#[98, 103, 116]⟩, .string ⟨#[98, 108, 101]⟩, .string ⟨#[106, 109, 112]⟩, .string ⟨#[106, 115, 114]⟩]
theorem jumpRow_at : ∀ k, k < 18 → jumpRow[k]? = some (.string (bstr (Strd.jumpTexts.getD k []))) := by
  intro k hk
  have : k = 0 ∨ k = 1 ∨ k = 2 ∨ k = 3 ∨ k = 4 ∨ k = 5 ∨ k = 6 ∨ k = 7 ∨ k = 8 ∨ k = 9 ∨ k = 10 ∨ k = 11 ∨ k = 12 ∨ k = 13 ∨ k = 14 ∨ k = 15 ∨ k = 16 ∨ k = 17 := by omega
  rcases this with rfl | rfl | rfl | rfl | rfl | rfl | rfl | rfl | rfl | rfl | rfl | rfl | rfl | rfl | rfl | rfl | rfl | rfl <;> rfl
set_option maxRecDepth 100000 in
set_option maxHeartbeats 1000000 in
theorem jumps_c (k : Nat) (w : World) (hk : k < 18) :
    Calls Tryz.prog 20 #[.int .i64 (k : Int)] w fun e w' => e = .returned (.string (bstr (Strd.jumpTexts.getD k []))) ∧ Below w.heap.size w w' := by
  have hc : (w.alloc (.cells jumpRow 9)).cell? ⟨w.heap.size, k, none⟩ = some (.string (bstr (Strd.jumpTexts.getD k []))) := (box_cell (box_new w (.cells jumpRow 9)) k).trans (jumpRow_at k hk)
  unfold jumpRow at hc
  generalize Strd.jumpTexts.getD k [] = X at *
  have hk' : (k : Int) < 18 := by omega
  go_enter Tryz.func20, Tryz.ntmps20
  go_wp2
  go_ret
  exact ⟨rfl, below_a _ _⟩

theorem digit_at (d : Nat) (hd : d < 10) : (⟨#[48, 49, 50, 51, 52, 53, 54, 55, 56, 57]⟩ : ByteArray).extract d (d + 1) = bstr [(48 + d).toUInt8] := by
  have : d = 0 ∨ d = 1 ∨ d = 2 ∨ d = 3 ∨ d = 4 ∨ d = 5 ∨ d = 6 ∨ d = 7 ∨ d = 8 ∨ d = 9 := by omega
  rcases this with rfl | rfl | rfl | rfl | rfl | rfl | rfl | rfl | rfl | rfl <;> rfl
set_option maxRecDepth 1000000 in
set_option maxHeartbeats 1000000 in
theorem decimal_c (n : Nat) (w : World) (hn : n < 2 ^ 40) :
    Calls Tryz.prog 19 #[.int .i64 (n : Int)] w fun e w' => e = .returned (.string (bstr (Strd.dec n))) ∧ w' = w := by
  generalize hX : Strd.dec n = X
  unfold Strd.dec at hX
  have HX := hide hX
  clear hX
  have h10 : n % 10 < 10 := Nat.mod_lt _ (by omega)
  have Hd := hide (digit_at (n % 10) h10)
  have e1 : IntKind.i64.wrap ((n : Int) % 10 + 1) = (n : Int) % 10 + 1 := IntWalk.i64_in _ (by omega)
  have q0 : 0 ≤ (n : Int) % 10 := by omega
  have q1 : (n : Int) % 10 < 10 := by omega
  have q2 : (n : Int) % 10 + 1 ≤ 10 := by omega
  have q3 : ((n : Int) % 10).toNat = n % 10 := by omega
  have q4 : ((n : Int) % 10 + 1).toNat = n % 10 + 1 := by omega
  go_enter Tryz.func19, Tryz.ntmps19
  go_wp2_with fail
  go_loopw [0, 4] (fun c d wr => ∃ (f m : Nat) (acc : Strd.Bs), m ≤ f ∧ acc.length + f ≤ n + 1 ∧ m < 2 ^ 40 ∧ c = .int .i64 (m : Int) ∧ d = .string (bstr acc) ∧ Strd.decAux f m acc = X ∧ wr = w) (fun c _ _ => (intOf c).toNat)
  case atStart =>
    refine ⟨n, n / 10, [(48 + n % 10).toUInt8], by omega, by simp; omega, by omega, ?_, ?_, unhide HX, rfl⟩
    · exact congrArg (Value.int .i64) (by omega)
    · rw [← unhide Hd]
  case round =>
    obtain ⟨f, m, acc, hmf, hal, hm40, rfl, rfl, hXm, hww⟩ := hrel
    have HXm := hide hXm
    have Hww := hide hww
    clear hXm hww e1 q0 q1 q2 q3 q4
    by_cases hm0 : m = 0
    · have HXa : Hid (X = acc) := hide (by
        rw [← unhide HXm, hm0]
        cases f with
        | zero => rfl
        | succ f => simp [Strd.decAux])
      subst hm0
      go_wp2
      go_ret
      exact ⟨by rw [unhide HXa]; rfl, unhide Hww⟩
    · obtain ⟨f, rfl⟩ : ∃ g, f = g + 1 := ⟨f - 1, by omega⟩
      have hmp : (0 : Int) < m := by omega
      have Hd' := hide (digit_at (m % 10) (by omega))
      have e1 : IntKind.i64.wrap ((m : Int) % 10 + 1) = (m : Int) % 10 + 1 := IntWalk.i64_in _ (by omega)
      have q0 : 0 ≤ (m : Int) % 10 := by omega
      have q1 : (m : Int) % 10 < 10 := by omega
      have q2 : (m : Int) % 10 + 1 ≤ 10 := by omega
      have q3 : ((m : Int) % 10).toNat = m % 10 := by omega
      have q4 : ((m : Int) % 10 + 1).toNat = m % 10 + 1 := by omega
      have q5 : ¬ 9223372036854775807 < min (m % 10 + 1) 10 - m % 10 + List.length acc := by omega
      go_wp2
      go_roundw
      case rel =>
        refine ⟨f, m / 10, (48 + m % 10).toUInt8 :: acc, by omega, by rw [List.length_cons]; omega, by omega, congrArg (Value.int .i64) (by omega), ?_, ?_, unhide Hww⟩
        · rw [unhide Hd']
          exact congrArg Value.string (bytes_ext (by simp))
        · rw [← unhide HXm]
          conv => rhs; unfold Strd.decAux
          rw [if_neg hm0]
      case measure => simp [intOf]; omega
end Go.Proofs.YtegiloiojloaoaaGreatDoor
