/- Contracts of package code: words, forms, marks. -/
import Derived.Test.YtegiloiojloaoaaGreatDoorCTabs
set_option linter.unusedVariables false
set_option linter.unusedSimpArgs false
namespace Go.Proofs.YtegiloiojloaoaaGreatDoor
open Go.RowKit Go.Shelf

set_option maxHeartbeats 400000 in
theorem jumpOp_c (n f l : Int) (w : World) (h : 0 ≤ n ∧ n ≤ 100) :
    Calls Tryz.prog 128 #[.int .i64 n, .int .i64 f, .int .i64 l] w fun e w' => e = .returned (.agg #[.int .i64 5, .int .i64 (0x6000 + 0x100 * n), .int .i64 n, .int .i64 f, .int .i64 l]) ∧ Below w.heap.size w w' := by
  go_enter Tryz.func128, Tryz.ntmps128
  go_wp2
  refine bodyPost_ret (v := .agg #[.int .i64 5, .int .i64 (0x6000 + 0x100 * n), .int .i64 n, .int .i64 f, .int .i64 l]) (by simp [results, Tryz.results128, go_sem]) rfl ⟨rfl, below_a _ _⟩

set_option maxHeartbeats 400000 in
theorem farJumpOp_c (b f l : Int) (w : World) :
    Calls Tryz.prog 129 #[.int .i64 b, .int .i64 f, .int .i64 l] w fun e w' => e = .returned (.agg #[.int .i64 6, .int .i64 b, .int .i64 0, .int .i64 f, .int .i64 l]) ∧ Below w.heap.size w w' := by
  go_enter Tryz.func129, Tryz.ntmps129
  go_wp2
  refine bodyPost_ret (v := .agg #[.int .i64 6, .int .i64 b, .int .i64 0, .int .i64 f, .int .i64 l]) (by simp [results, Tryz.results129, go_sem]) rfl ⟨rfl, below_a _ _⟩

theorem mark_cell {w : World} {tu : Bool} (hT : TabsX tu w) (r : Nat) (h : r < 4) : w.cell? ⟨3, r, none⟩ = some (.string (bstr (Strd.mark r))) := by
  obtain ⟨t, fr, hm⟩ := hT.mark
  have : w.cell? ⟨3, r, none⟩ = markCells[r]? := by simp [World.cell?, hm]
  rw [this]
  match r, h with
  | 0, _ => rfl
  | 1, _ => rfl
  | 2, _ => rfl
  | 3, _ => rfl

set_option maxHeartbeats 400000 in
theorem Mark_c (r : Int) (w : World) (h0 : 0 ≤ r) (h1 : r < 4) {tu : Bool} (hT : TabsX tu w) :
    Calls Tryz.prog 88 #[.int .i64 r] w fun e w' => e = .returned (.string (bstr (Strd.mark r))) ∧ w' = w := by
  obtain ⟨n, rfl⟩ := Int.eq_ofNat_of_zero_le h0
  have hc := mark_cell hT n (by omega)
  generalize Strd.mark (n : Int) = m at hc
  clear hT
  go_enter Tryz.func88, Tryz.ntmps88
  go_wp2
  go_ret
  exact ⟨rfl, rfl⟩

theorem end_index (k : Nat) (h : k < 3) (w : World) : (Instr.index 213 (.agg endCells) (.int .i64 (k : Int))).run Tryz.prog w = .ok (.string (bstr (endings.getD k []))) w :=
  match k, h with
  | 0, _ => by kernel_rfl
  | 1, _ => by kernel_rfl
  | 2, _ => by kernel_rfl

/-- A form's ending cut off, from the k-th form on. -/
def cutFrom (s : Strd.Bs) : Nat → Strd.Bs × Int × Int
  | 0 => (s, 0, 2)
  | n + 1 => if Lib.hasSuffix s (endings.getD (2 - n) []) then (Lib.trimSuffix s (endings.getD (2 - n) []), (2 - n : Nat), (2 - n : Nat)) else cutFrom s n
theorem cutForm_eq (s : Strd.Bs) : cutFrom s 3 = Strd.cutForm s := by
  simp only [cutFrom, endings, List.getD_cons_zero, List.getD_cons_succ, Strd.cutForm, Strd.endsWith, Lib.hasSuffix, Lib.trimSuffix, Nat.sub_self, Nat.reduceSub]
  repeat' split
  all_goals simp_all

theorem cut_hit (s : Strd.Bs) (k : Nat) (h : k < 3) (hs : Lib.hasSuffix s (endings.getD k []) = true) : cutFrom s (3 - k) = (Lib.trimSuffix s (endings.getD k []), (k : Int), (k : Int)) := by
  obtain ⟨n, hn⟩ : ∃ n, 3 - k = n + 1 := ⟨2 - k, by omega⟩
  have e : 2 - n = k := by omega
  rw [hn, cutFrom, e, if_pos hs]
theorem cut_miss (s : Strd.Bs) (k : Nat) (h : k < 3) (hs : Lib.hasSuffix s (endings.getD k []) = false) : cutFrom s (3 - k) = cutFrom s (3 - (k + 1)) := by
  obtain ⟨n, hn⟩ : ∃ n, 3 - k = n + 1 := ⟨2 - k, by omega⟩
  have e : 2 - n = k := by omega
  have e2 : 3 - (k + 1) = n := by omega
  rw [hn, cutFrom, e, hs, e2]; rfl

set_option maxHeartbeats 1000000 in
theorem cutForm_c (s : ByteArray) (w : World) (hs : s.size ≤ 2 ^ 47) {tu : Bool} (hT : TabsX tu w) :
    Calls Tryz.prog 127 #[.string s] w fun e w' => e = .returned (.tuple #[.string (bstr (Strd.cutForm s.data.toList).1), .int .i64 (Strd.cutForm s.data.toList).2.1, .int .i64 (Strd.cutForm s.data.toList).2.2]) ∧ Below w.heap.size w w' := by
  obtain ⟨tt, fr, hg⟩ := hT.ends
  rw [← cutForm_eq]
  clear hT
  go_enter Tryz.func127, Tryz.ntmps127
  go_wp2_with (refine wpList_load_row rfl 213 _ rfl 4 rfl tt _ fr _ hg Tryz.underlying213 rfl (by kernel_rfl) ?_)
  go_loopw [10] (fun c wr => ∃ k : Nat, k ≤ 3 ∧ c = .int .i64 k ∧ cutFrom s.data.toList (3 - k) = cutFrom s.data.toList 3 ∧ Below w.heap.size w wr) (fun c _ => 3 - (intOf c).toNat)
  case atStart => exact ⟨0, by omega, rfl, rfl, Below.refl _ _⟩
  case round =>
    obtain ⟨k, hk, rfl, hcut, hbl⟩ := hrel
    have Hcut := hide hcut
    clear hcut
    by_cases hlt : k < 3
    · have hix := end_index k hlt
      have hh := cut_hit s.data.toList k hlt
      have hm := cut_miss s.data.toList k hlt
      generalize endings.getD k [] = en at hix hh hm
      have Hh := hide hh
      have Hm := hide hm
      clear hh hm
      go_wp2_with (go_at_call 153; refine (Tryz.strings_CutSuffix _ _ _ (by omega)).mono ?_; rintro e w' ⟨rfl, rfl⟩)
      · go_ret3
        have hsf : Lib.hasSuffix s.data.toList en = true := by assumption
        refine ⟨?_, hbl⟩
        rw [← unhide Hcut, unhide Hh hsf]
        rfl
      · have hsf : Lib.hasSuffix s.data.toList en = false := by assumption
        go_roundw
        case rel => exact ⟨k + 1, by omega, by go_num, by rw [← unhide Hm hsf, unhide Hcut], hbl⟩
        case measure => simp [intOf]; omega
    · obtain rfl : k = 3 := by omega
      go_wp2
      go_ret3
      refine ⟨?_, hbl⟩
      rw [← unhide Hcut]
      simp [cutFrom, bstr_of]

theorem fixed_index (k : Nat) (h : k < 13) (w : World) : (Instr.index 189 (.agg fixedCells) (.int .i64 (k : Int))).run Tryz.prog w = .ok (.agg #[.string (bstr (Strd.fixedWords.getD k ([], 0, 0)).1), .int .i64 (Strd.fixedWords.getD k ([], 0, 0)).2.1, .int .i64 (Strd.fixedWords.getD k ([], 0, 0)).2.2]) w :=
  match k, h with
  | 0, _ => by kernel_rfl
  | 1, _ => by kernel_rfl
  | 2, _ => by kernel_rfl
  | 3, _ => by kernel_rfl
  | 4, _ => by kernel_rfl
  | 5, _ => by kernel_rfl
  | 6, _ => by kernel_rfl
  | 7, _ => by kernel_rfl
  | 8, _ => by kernel_rfl
  | 9, _ => by kernel_rfl
  | 10, _ => by kernel_rfl
  | 11, _ => by kernel_rfl
  | 12, _ => by kernel_rfl
theorem jump_index (k : Nat) (h : k < 16) (w : World) : (Instr.index 185 (.agg jumpCells) (.int .i64 (k : Int))).run Tryz.prog w = .ok (.string (bstr (Strd.jumpWords.getD k []))) w :=
  match k, h with
  | 0, _ => by kernel_rfl
  | 1, _ => by kernel_rfl
  | 2, _ => by kernel_rfl
  | 3, _ => by kernel_rfl
  | 4, _ => by kernel_rfl
  | 5, _ => by kernel_rfl
  | 6, _ => by kernel_rfl
  | 7, _ => by kernel_rfl
  | 8, _ => by kernel_rfl
  | 9, _ => by kernel_rfl
  | 10, _ => by kernel_rfl
  | 11, _ => by kernel_rfl
  | 12, _ => by kernel_rfl
  | 13, _ => by kernel_rfl
  | 14, _ => by kernel_rfl
  | 15, _ => by kernel_rfl
  | k + 16, h => absurd h (by omega)
theorem far_index (k : Nat) (h : k < 2) (w : World) : (Instr.index 187 (.agg farCells) (.int .i64 (k : Int))).run Tryz.prog w = .ok (.agg #[.string (bstr (Strd.farWords.getD k ([], 0)).1), .int .i64 (Strd.farWords.getD k ([], 0)).2]) w :=
  match k, h with
  | 0, _ => by kernel_rfl
  | 1, _ => by kernel_rfl
end Go.Proofs.YtegiloiojloaoaaGreatDoor
