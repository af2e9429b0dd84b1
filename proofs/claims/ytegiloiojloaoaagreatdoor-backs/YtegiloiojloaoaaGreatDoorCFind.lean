/- The contract of code.Find. -/
import Derived.Test.YtegiloiojloaoaaGreatDoorCWords
import Derived.Test.YtegiloiojloaoaaGreatDoorCCode6
set_option linter.unusedVariables false
set_option linter.unusedSimpArgs false
namespace Go.Proofs.YtegiloiojloaoaaGreatDoor
open Go.RowKit Go.Shelf

theorem find_at {α : Type} (l : List α) (p : α → Bool) (d : α) (k : Nat) (hk : k < l.length) (hp : p (l.getD k d) = true) (hno : ∀ j, j < k → p (l.getD j d) = false) : l.find? p = some (l.getD k d) := by
  rw [List.find?_eq_some_iff_getElem]
  refine ⟨hp, k, hk, ?_, ?_⟩
  · rw [List.getD_eq_getElem?_getD, List.getElem?_eq_getElem hk]; rfl
  · intro j hj
    have := hno j hj
    rw [List.getD_eq_getElem?_getD, List.getElem?_eq_getElem (by omega)] at this
    simpa using this
theorem find_no {α : Type} (l : List α) (p : α → Bool) (d : α) (hno : ∀ j, j < l.length → p (l.getD j d) = false) : l.find? p = none := by
  rw [List.find?_eq_none]
  intro x hx
  obtain ⟨j, hj, rfl⟩ := List.mem_iff_getElem.1 hx
  have := hno j hj
  rw [List.getD_eq_getElem?_getD, List.getElem?_eq_getElem hj] at this
  simpa using this
theorem findIdx_at {α : Type} (l : List α) (p : α → Bool) (d : α) (k : Nat) (hk : k < l.length) (hp : p (l.getD k d) = true) (hno : ∀ j, j < k → p (l.getD j d) = false) : l.findIdx? p = some k := by
  rw [List.findIdx?_eq_some_iff_getElem]
  have e : ∀ j (hj : j < l.length), l.getD j d = l[j] := fun j hj => by rw [List.getD_eq_getElem?_getD, List.getElem?_eq_getElem hj]; rfl
  refine ⟨hk, by rw [← e k hk]; exact hp, fun j hj => ?_⟩
  rw [← e j (by omega), hno j hj]; simp
theorem findIdx_no {α : Type} (l : List α) (p : α → Bool) (d : α) (hno : ∀ j, j < l.length → p (l.getD j d) = false) : l.findIdx? p = none := by
  rw [List.findIdx?_eq_none_iff]
  intro x hx
  obtain ⟨j, hj, rfl⟩ := List.mem_iff_getElem.1 hx
  have := hno j hj
  rw [List.getD_eq_getElem?_getD, List.getElem?_eq_getElem hj] at this
  simpa using this

theorem find_fixed (W wd : Strd.Bs) (kd bs : Int) (k : Nat) (hk : k < 13) (hno : ∀ j, j < k → (Strd.fixedWords.getD j ([], 0, 0)).1 ≠ W) (hrow : Strd.fixedWords.getD k ([], 0, 0) = (wd, kd, bs)) (hw : wd = W) : Strd.find W = some ⟨kd, bs, 0, 0, 0⟩ := by
  unfold Strd.find
  rw [find_at Strd.fixedWords (fun r => r.1 == W) ([], 0, 0) k hk (by rw [hrow]; simpa using hw) (fun j hj => by simpa using hno j hj), hrow]
theorem find_else (W : Strd.Bs) (hno : ∀ j, j < 13 → (Strd.fixedWords.getD j ([], 0, 0)).1 ≠ W) : Strd.fixedWords.find? (fun r => r.1 == W) = none :=
  find_no Strd.fixedWords (fun r => r.1 == W) ([], 0, 0) (fun j hj => by simpa using hno j hj)
theorem find_jump (W st : Strd.Bs) (f l : Int) (k : Nat) (hk : k < 16) (hno1 : ∀ j, j < 13 → (Strd.fixedWords.getD j ([], 0, 0)).1 ≠ W) (hcf : Strd.cutForm W = (st, f, l)) (hno : ∀ j, j < k → Strd.jumpWords.getD j [] ≠ st) (hw : Strd.jumpWords.getD k [] = st) : Strd.find W = some ⟨5, 0x6000 + 0x100 * k, k, f, l⟩ := by
  unfold Strd.find
  rw [find_else W hno1]
  simp only [hcf, Strd.findIdx]
  rw [findIdx_at Strd.jumpWords (· == st) [] k hk (by simpa using hw) (fun j hj => by simpa using hno j hj)]
  rfl
theorem find_far (W st : Strd.Bs) (f l : Int) (k : Nat) (hk : k < 2) (hno1 : ∀ j, j < 13 → (Strd.fixedWords.getD j ([], 0, 0)).1 ≠ W) (hcf : Strd.cutForm W = (st, f, l)) (hno2 : ∀ j, j < 16 → Strd.jumpWords.getD j [] ≠ st)
    (hl : l ≠ 0) (hno : ∀ j, j < k → (Strd.farWords.getD j ([], 0)).1 ≠ st) (hw : (Strd.farWords.getD k ([], 0)).1 = st) : Strd.find W = some ⟨6, (Strd.farWords.getD k ([], 0)).2, 0, max f 1, l⟩ := by
  unfold Strd.find
  rw [find_else W hno1]
  simp only [hcf, Strd.findIdx]
  rw [findIdx_no Strd.jumpWords (· == st) [] (fun j hj => by simpa using hno2 j hj)]
  simp only [if_neg hl]
  rw [find_at Strd.farWords (fun r => r.1 == st) ([], 0) k hk (by simpa using hw) (fun j hj => by simpa using hno j hj)]
  rfl
theorem find_none (W st : Strd.Bs) (f l : Int) (hno1 : ∀ j, j < 13 → (Strd.fixedWords.getD j ([], 0, 0)).1 ≠ W) (hcf : Strd.cutForm W = (st, f, l)) (hno2 : ∀ j, j < 16 → Strd.jumpWords.getD j [] ≠ st)
    (hno : l = 0 ∨ ∀ j, j < 2 → (Strd.farWords.getD j ([], 0)).1 ≠ st) : Strd.find W = none := by
  unfold Strd.find
  rw [find_else W hno1]
  simp only [hcf, Strd.findIdx]
  rw [findIdx_no Strd.jumpWords (· == st) [] (fun j hj => by simpa using hno2 j hj)]
  by_cases hl : l = 0
  · simp only [if_pos hl]
  · simp only [if_neg hl]
    rw [find_no Strd.farWords (fun r => r.1 == st) ([], 0) (fun j hj => by simpa using (hno.resolve_left hl) j hj)]

set_option maxHeartbeats 2000000 in
theorem Find_c (s : ByteArray) (w : World) (hs : s.size ≤ 2 ^ 47) {tu : Bool} (hT : TabsX tu w) :
    Calls Tryz.prog 91 #[.string s] w fun e w' => ∃ o : Strd.Op, e = .returned (.tuple #[.agg #[.int .i64 o.kind, .int .i64 o.base, .int .i64 o.number, .int .i64 o.first, .int .i64 o.last], .bool (Strd.find s.data.toList).isSome]) ∧ (∀ o', Strd.find s.data.toList = some o' → o' = o) ∧ Below w.heap.size w w' := by
  obtain ⟨tf, ff, hgf⟩ := hT.fixed
  have hgf1 : (w.alloc (.cells #[.int .i64 0, .int .i64 0, .int .i64 0, .int .i64 0, .int .i64 0] 94)).heap[2]? = some (.cells fixedCells tf ff) := bbox (below_a _ _) hgf
  have HT := hide hT
  clear hT hgf
  go_enter Tryz.func91, Tryz.ntmps91
  go_wp2_with (refine wpList_load_row rfl 189 _ rfl 2 rfl tf _ ff _ hgf1 Tryz.underlying189 rfl (by kernel_rfl) ?_)
  go_loopw [14] (fun c wr => ∃ k : Nat, k ≤ 13 ∧ c = .int .i64 k ∧ (∀ j, j < k → (Strd.fixedWords.getD j ([], 0, 0)).1 ≠ s.data.toList) ∧ Below w.heap.size w wr ∧ wr.heap[w.heap.size]? = some (.cells #[.int .i64 0, .int .i64 0, .int .i64 0, .int .i64 0, .int .i64 0] 94 (0, 0))) (fun c _ => 13 - (intOf c).toNat)
  case atStart => exact ⟨0, by omega, rfl, fun j hj => by omega, below_a _ _, box_new _ _⟩
  case round =>
    obtain ⟨k, hk, rfl, hno, hbl, hbx⟩ := hrel
    have Hno := hide hno
    clear hno
    by_cases hlt : k < 13
    · have hix := fixed_index k hlt
      obtain ⟨wd, kd, bs, hrow⟩ : ∃ wd kd bs, Strd.fixedWords.getD k ([], 0, 0) = (wd, kd, bs) := ⟨_, _, _, rfl⟩
      rw [hrow] at hix
      have Hrow := hide hrow
      clear hrow
      have hlt2 : w.heap.size < wr.heap.size := (Array.getElem?_eq_some_iff.1 hbx).1
      have Hbx := hide hbx
      clear hbx
      by_cases hw : wd = s.data.toList
      · have hwb : (wd == s.toList) = true := by rw [tolist_data]; simpa using hw
        have Hw := hide hw
        clear hw
        go_wp2_with (refine wpList_store_row rfl 94 (.tmp 2) (.tmp 25) rfl w.heap.size #[.int .i64 kd, .int .i64 bs, .int .i64 0, .int .i64 0, .int .i64 0] rfl rfl 94 #[.int .i64 0, .int .i64 0, .int .i64 0, .int .i64 0, .int .i64 0] (by exact bbox (below_a _ _) (unhide Hbx)) (by kernel_rfl) rfl (op_one _ _ _ _ _) ?_)
        refine bodyPost_ret (v := .tuple #[.agg #[.int .i64 kd, .int .i64 bs, .int .i64 0, .int .i64 0, .int .i64 0], .bool true]) (by exact results_cell_tmp Tryz.results91 _ _ w.heap.size 94 _ _ _ rfl (by exact row_at (bbox (below_a _ _) (unhide Hbx))) Tryz.underlying94 rfl (by kernel_rfl)) rfl ?_
        refine ⟨⟨kd, bs, 0, 0, 0⟩, ?_, ?_, ?_⟩
        · rw [find_fixed _ wd kd bs k hlt (unhide Hno) (unhide Hrow) (unhide Hw)]; rfl
        · intro o' ho'
          rw [find_fixed _ wd kd bs k hlt (unhide Hno) (unhide Hrow) (unhide Hw)] at ho'
          exact (Option.some.inj ho').symm
        · exact below_row (below_t hbl (below_a _ _)) (Nat.le_refl _) _
      · have hwb : (wd == s.toList) = false := by rw [tolist_data]; simpa using hw
        have Hw := hide hw
        clear hw
        go_wp2
        go_roundw
        case rel =>
          refine ⟨k + 1, by omega, by go_num, ?_, below_t hbl (below_a _ _), bbox (below_a _ _) (unhide Hbx)⟩
          intro j hj
          by_cases e : j = k
          · subst e; rw [unhide Hrow]; exact unhide Hw
          · exact unhide Hno j (by omega)
        case measure => simp [intOf]; omega
    · obtain rfl : k = 13 := by omega
      have hT1 := (unhide HT).below hbl
      go_wp2_with fail
      refine (cutForm_c s wr hs hT1).mono ?_
      rintro e w1 ⟨rfl, hb1⟩
      obtain ⟨st, f, l, hcf⟩ : ∃ st f l, Strd.cutForm s.data.toList = (st, f, l) := ⟨_, _, _, rfl⟩
      rw [hcf]
      have Hcf := hide hcf
      clear hcf
      have hbl1 : Below w.heap.size w w1 := below_t hbl hb1
      have hbx1 := bbox hb1 hbx
      have HT1 := hide (hT1.below hb1)
      obtain ⟨tj, fj, hgj⟩ := (hT1.below hb1).jump
      clear hbx hT1 hb1 hbl
      go_wp2_with (refine wpList_load_row rfl 185 _ rfl 0 rfl tj _ fj _ hgj Tryz.underlying185 rfl (by kernel_rfl) ?_)
      go_loopw [34] (fun c wr => ∃ k : Nat, k ≤ 16 ∧ c = .int .i64 k ∧ (∀ j, j < k → Strd.jumpWords.getD j [] ≠ st) ∧ Below w1.heap.size w1 wr) (fun c _ => 16 - (intOf c).toNat)
      case atStart => exact ⟨0, by omega, rfl, fun j hj => by omega, Below.refl _ _⟩
      case round =>
        obtain ⟨k, hk, rfl, hno, hb2⟩ := hrel
        have Hno2 := hide hno
        clear hno hk
        have hbl2 : Below w.heap.size w wr := below_t hbl1 hb2
        have Hbx2 := hide (bbox hb2 hbx1)
        by_cases hlt : k < 16
        · have hix := jump_index k hlt
          generalize hjw : Strd.jumpWords.getD k [] = jw at hix
          have Hjw := hide hjw
          clear hjw
          by_cases hw : jw = st
          · have hwb : (jw == st) = true := by simpa using hw
            have Hw := hide hw
            clear hw
            go_wp2_with (first | (go_at_call 128; refine (jumpOp_c _ _ _ _ (by omega)).mono ?_; rintro e w3 ⟨rfl, hb3⟩) | (refine wpList_store_row rfl 94 (.tmp 2) (.tmp 44) rfl w.heap.size #[.int .i64 5, .int .i64 (24576 + 256 * (k : Int)), .int .i64 k, .int .i64 f, .int .i64 l] rfl rfl 94 #[.int .i64 0, .int .i64 0, .int .i64 0, .int .i64 0, .int .i64 0] (by exact bbox (by assumption) (unhide Hbx2)) (by kernel_rfl) rfl (op_one _ _ _ _ _) ?_))
            refine bodyPost_ret (v := .tuple #[.agg #[.int .i64 5, .int .i64 (24576 + 256 * (k : Int)), .int .i64 k, .int .i64 f, .int .i64 l], .bool true]) (by exact results_cell_tmp Tryz.results91 _ _ w.heap.size 94 _ _ _ rfl (by exact row_at (bbox hb3 (unhide Hbx2))) Tryz.underlying94 rfl (by kernel_rfl)) rfl ?_
            have hfin := find_jump s.data.toList st f l k hlt (unhide Hno) (unhide Hcf) (unhide Hno2) (by rw [unhide Hjw]; exact unhide Hw)
            refine ⟨⟨5, 24576 + 256 * (k : Int), k, f, l⟩, by rw [hfin]; rfl, fun o' ho' => ?_, below_row (below_t hbl2 hb3) (Nat.le_refl _) _⟩
            rw [hfin] at ho'
            exact (Option.some.inj ho').symm
          · have hwb : (jw == st) = false := by simpa using hw
            have Hw := hide hw
            clear hw
            go_wp2
            go_roundw
            case rel =>
              refine ⟨k + 1, by omega, by go_num, ?_, hb2⟩
              intro j hj
              by_cases e : j = k
              · subst e; rw [unhide Hjw]; exact unhide Hw
              · exact unhide Hno2 j (by omega)
            case measure => simp [intOf]; omega
        · have Hno2' : Hid (∀ j, j < 16 → Strd.jumpWords.getD j [] ≠ st) := fun j hj => unhide Hno2 j (by omega)
          obtain ⟨tk, fk, hgk⟩ := ((unhide HT1).below hb2).far
          clear hbx1 hbl1
          generalize hwq : wr = wq at *
          clear hwq
          go_wp2_with (refine wpList_load_row rfl 187 _ rfl 1 rfl tk _ fk _ hgk Tryz.underlying187 rfl (by kernel_rfl) ?_)
          go_loopw [47] (fun c wr => ∃ k : Nat, k ≤ 2 ∧ c = .int .i64 k ∧ (l = 0 ∨ ∀ j, j < k → (Strd.farWords.getD j ([], 0)).1 ≠ st) ∧ Below wq.heap.size wq wr) (fun c _ => 2 - (intOf c).toNat)
          case atStart => exact ⟨0, by omega, rfl, .inr fun j hj => by omega, Below.refl _ _⟩
          case round =>
            obtain ⟨k, hk, rfl, hno, hb3⟩ := hrel
            have Hno3 := hide hno
            clear hno hk
            have hbl3 : Below w.heap.size w wr := below_t hbl2 hb3
            have Hbx3 := hide (bbox hb3 (unhide Hbx2))
            have hlt3 : w.heap.size < wr.heap.size := lt_of_box (unhide Hbx3)
            by_cases hlt : k < 2
            · have hix := far_index k hlt
              obtain ⟨fw, fb, hrow⟩ : ∃ fw fb, Strd.farWords.getD k ([], 0) = (fw, fb) := ⟨_, _, rfl⟩
              rw [hrow] at hix
              have Hrow := hide hrow
              clear hrow
              by_cases hw : fw = st
              · have hwb : (fw == st) = true := by simpa using hw
                have Hw := hide hw
                clear hw
                by_cases hl0 : l = 0
                · subst hl0
                  go_wp2
                  go_roundw
                  case rel => exact ⟨k + 1, by omega, by go_num, .inl (by trivial), below_t hb3 (below_a _ _)⟩
                  case measure => simp [intOf]; omega
                · have hl1 : (l != 0) = true := by simpa using hl0
                  have Hl := hide hl0
                  clear hl0
                  have hno' : ∀ j, j < k → (Strd.farWords.getD j ([], 0)).1 ≠ st := (unhide Hno3).resolve_left (unhide Hl)
                  have Hno' := hide hno'
                  clear hno'
                  go_wp2_with (first | (go_at_call 129; refine (farJumpOp_c _ _ _ _).mono ?_; rintro e w4 ⟨rfl, hb4⟩) | (refine wpList_store_row rfl 94 (.tmp 2) (.tmp 63) rfl w.heap.size #[.int .i64 6, .int .i64 fb, .int .i64 0, .int .i64 (max f 1), .int .i64 l] rfl rfl 94 #[.int .i64 0, .int .i64 0, .int .i64 0, .int .i64 0, .int .i64 0] (by exact bbox (by assumption) (bbox (below_a _ _) (unhide Hbx3))) (by kernel_rfl) rfl (op_one _ _ _ _ _) ?_))
                  refine bodyPost_ret (v := .tuple #[.agg #[.int .i64 6, .int .i64 fb, .int .i64 0, .int .i64 (max f 1), .int .i64 l], .bool true]) (by exact results_cell_tmp Tryz.results91 _ _ w.heap.size 94 _ _ _ rfl (by exact row_at (bbox hb4 (bbox (below_a _ _) (unhide Hbx3)))) Tryz.underlying94 rfl (by kernel_rfl)) rfl ?_
                  have hfin := find_far s.data.toList st f l k hlt (unhide Hno) (unhide Hcf) (unhide Hno2') (unhide Hl) (unhide Hno') (by rw [unhide Hrow]; exact unhide Hw)
                  rw [unhide Hrow] at hfin
                  refine ⟨⟨6, fb, 0, max f 1, l⟩, by rw [hfin]; rfl, fun o' ho' => ?_, below_row (below_t hbl3 (below_at hb4)) (Nat.le_refl _) _⟩
                  rw [hfin] at ho'
                  exact (Option.some.inj ho').symm
              · have hwb : (fw == st) = false := by simpa using hw
                have Hw := hide hw
                clear hw
                go_wp2
                go_roundw
                case rel =>
                  refine ⟨k + 1, by omega, by go_num, ?_, below_t hb3 (below_a _ _)⟩
                  rcases unhide Hno3 with h | h
                  · exact .inl h
                  · refine .inr fun j hj => ?_
                    by_cases e : j = k
                    · subst e; rw [unhide Hrow]; exact unhide Hw
                    · exact h j (by omega)
                case measure => simp [intOf]; omega
            · have hno' : l = 0 ∨ ∀ j, j < 2 → (Strd.farWords.getD j ([], 0)).1 ≠ st := (unhide Hno3).imp id (fun h j hj => h j (by omega))
              have hfin := find_none s.data.toList st f l (unhide Hno) (unhide Hcf) (unhide Hno2') hno'
              have Hfin := hide hfin
              clear hfin hno'
              go_wp2_with (refine wpList_store_row rfl 94 (.tmp 2) (.tmp 65) rfl w.heap.size #[.int .i64 0, .int .i64 0, .int .i64 0, .int .i64 0, .int .i64 0] rfl rfl 94 #[.int .i64 0, .int .i64 0, .int .i64 0, .int .i64 0, .int .i64 0] (by exact (unhide Hbx3)) (by kernel_rfl) rfl (op_one _ _ _ _ _) ?_)
              refine bodyPost_ret (v := .tuple #[.agg #[.int .i64 0, .int .i64 0, .int .i64 0, .int .i64 0, .int .i64 0], .bool false]) (by exact results_cell_tmp Tryz.results91 _ _ w.heap.size 94 _ _ _ rfl (by exact row_at (unhide Hbx3)) Tryz.underlying94 rfl (by kernel_rfl)) rfl ?_
              refine ⟨⟨0, 0, 0, 0, 0⟩, by rw [unhide Hfin]; rfl, fun o' ho' => ?_, below_row hbl3 (Nat.le_refl _) _⟩
              rw [unhide Hfin] at ho'
              cases ho'
end Go.Proofs.YtegiloiojloaoaaGreatDoor
