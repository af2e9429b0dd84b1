/- The contract of layout.Make. -/
import Derived.Test.YtegiloiojloaoaaGreatDoorCShort
import Derived.Test.YtegiloiojloaoaaGreatDoorCWfS
set_option linter.unusedVariables false
set_option linter.unusedSimpArgs false
namespace Go.Proofs.YtegiloiojloaoaaGreatDoor
open Go.RowKit Go.Shelf Go.Sort Go.Maps

theorem kbox2 {base : Nat} {W w1 : World} {b : Nat} {cs : Array Value} {t : TypeId} (hk : Kept base Tag2 W w1) (hb : W.heap[b]? = some (.cells cs t (0, 0))) (h3 : t ≠ 3) (h92 : t ≠ 92) : w1.heap[b]? = some (.cells cs t (0, 0)) := by
  rw [hk.block b (lt_of_box hb) (.inr fun o ho hd => by
    rw [hb] at ho
    cases ho
    rcases hd with ⟨_, _, h⟩ | ⟨_, _, h⟩
    · cases h; exact h3 rfl
    · cases h; exact h92 rfl)]
  exact hb
theorem ProgAt.below {base : Nat} {w w' : World} {cs : Array Value} {r : Strd.Rd} (h : ProgAt base w cs r) (hb : Below w.heap.size w w') : ProgAt base w' cs r := by
  obtain ⟨p, cap, gm, qs, e, h1, h2, h3⟩ := h
  exact ⟨p, cap, gm, qs, e, h1.below hb, h2.below hb, h3⟩
theorem planval_row {base g : Nat} {w : World} {cur cs : Array Value} {r : Strd.Rd} {fs st : List Int} {p : Option Addr} {cap gm : Nat} {qs : List (Strd.Line × Sl)} {vf vs : Value} (hg : w.heap[g]? = some (.cells cur 67 (0, 0)))
    (hL : LinesAt base w (.slice p r.lines.length cap) r.lines qs) (hLab : LabsAt w gm r.lines.length r.lines) (hgm : base ≤ gm) (hf : IntsAt 92 base w vf fs) (hs : IntsAt 3 base w vs st) (h8 : fs.length = r.lines.length) (h9 : st.length = r.lines.length + 1) :
    PlanVal base (w.setRow g cs) #[.int .i64 r.org, .slice p r.lines.length cap, .map (some gm), vf, vs] r fs st :=
  ⟨p, cap, gm, qs, _, _, rfl, ⟨hL.fst, ownsRow_row hL.row hg (by decide), fun x hx => ownsRow_row (hL.oprs x hx) hg (by decide)⟩, hLab.block (setRow_other w g gm _ (hLab.ne hg)), hgm, ownsRow_row hf hg (by decide), ownsRow_row hs hg (by decide), h8, h9⟩
def zero67 : Array Value := #[.int .i64 0, .slice none 0 0, .map none, .slice none 0 0, .slice none 0 0]

set_option maxRecDepth 1000000 in
set_option maxHeartbeats 4000000 in
theorem Make_c (base : Nat) (r : Strd.Rd) (cs : Array Value) (w : World) (hP : ProgAt base w cs r) (hW : WfR r) (hbw : base ≤ w.heap.size) :
    Calls Tryz.prog 38 #[.agg cs] w fun e w' => ∃ ps, e = .returned (.tuple #[.agg ps, .int .i64 (Strd.lay r.org r.lines).2.1, .int .i64 (Strd.lay r.org r.lines).2.2]) ∧ ((∃ o p n c m p2 n2 c2 p3 n3 c3, ps = #[Value.int .i64 o, .slice p n c, .map m, .slice p2 n2 c2, .slice p3 n3 c3])) ∧ ((Strd.lay r.org r.lines).2.2 = 0 → PlanVal base w' ps r (Strd.lay r.org r.lines).1.1 (Strd.lay r.org r.lines).1.2) ∧ Kept base Tag2 w w' := by
  have HP := hide hP
  obtain ⟨p, cap, gm, qs, rfl, _, _, _⟩ := hP
  generalize hX : Strd.lay r.org r.lines = X
  unfold Strd.lay at hX
  simp only at hX
  have hn := hW.len
  have HX := hide hX
  have HW := hide hW
  clear hX hW
  have hb1 := below_a w (.cells #[.int .i64 r.org, .slice p r.lines.length cap, .map (some gm)] 64)
  have Hx1 := hide (box_new w (.cells #[.int .i64 r.org, .slice p r.lines.length cap, .map (some gm)] 64))
  go_enter Tryz.func38, Tryz.ntmps38
  have hb2 := below_a (w.alloc (.cells #[.int .i64 r.org, .slice p r.lines.length cap, .map (some gm)] 64)) (.cells #[.int .i64 0, .slice none 0 0, .map none, .slice none 0 0, .slice none 0 0] 67)
  have Hx2 := hide (box_new (w.alloc (.cells #[.int .i64 r.org, .slice p r.lines.length cap, .map (some gm)] 64)) (.cells #[.int .i64 0, .slice none 0 0, .map none, .slice none 0 0, .slice none 0 0] 67))
  have Hx1' := hide (bbox hb2 (unhide Hx1))
  have hB2 := below_t hb1 hb2
  rw [show (w.alloc (.cells #[.int .i64 r.org, .slice p r.lines.length cap, .map (some gm)] 64)).heap.size = w.heap.size + 1 by simp] at Hx2
  go_upto_region 1 with fail
  clear hb1 hb2 Hx1
  generalize (w.alloc (.cells #[.int .i64 r.org, .slice p r.lines.length cap, .map (some gm)] 64)).alloc (.cells #[.int .i64 0, .slice none 0 0, .map none, .slice none 0 0, .slice none 0 0] 67) = w0 at *
  have x0 := box_cell (unhide Hx1') 0
  have x1 := box_cell (unhide Hx1') 1
  have x2 := box_cell (unhide Hx1') 2
  simp only [List.getElem?_toArray, List.getElem?_cons_zero, List.getElem?_cons_succ] at x0 x1 x2
  have hlx := lt_of_box (unhide Hx1')
  have HP0 := hide ((unhide HP).below hB2)
  go_wp2_with fail
  refine (firstUnknown_c base r _ w0 (unhide HP0) hn (unhide HW).names (fun l hl => ((unhide HW).ins l hl).le)).mono ?_
  rintro e w1 ⟨rfl, hb1⟩
  generalize hU : Strd.firstUnknown r.lines = U
  rw [hU] at HX
  have Hx3 := hide (bbox hb1 (unhide Hx2))
  have hBw1 := below_t hB2 hb1
  by_cases hU0 : 0 < U
  · have hUi : (0 : Int) < (U : Int) := by omega
    have Hfin : Hid (X = (([], []), U, 2)) := hide (by rw [← unhide HX, if_pos hU0])
    clear hU
    go_wp2_with (refine wpList_store_row rfl 67 (.tmp 2) (.tmp 13) rfl (w.heap.size + 1) #[.int .i64 0, .slice none 0 0, .map none, .slice none 0 0, .slice none 0 0] rfl rfl 67 #[.int .i64 0, .slice none 0 0, .map none, .slice none 0 0, .slice none 0 0] (by exact unhide Hx3) (by kernel_rfl) rfl (plan_one _ _ _ _ _ _ _ _ _ _ _) ?_)
    refine bodyPost_ret (v := .tuple #[.agg #[.int .i64 0, .slice none 0 0, .map none, .slice none 0 0, .slice none 0 0], .int .i64 (U : Int), .int .i64 2]) (by exact results_cell_tmp2 Tryz.results38 _ _ (w.heap.size + 1) 67 _ _ _ rfl (by exact row_at (unhide Hx3)) Tryz.underlying67 rfl (by kernel_rfl)) rfl ?_
    exact ⟨_, by rw [unhide Hfin], ⟨_, _, _, _, _, _, _, _, _, _, _, rfl⟩, fun h => (by rw [unhide Hfin] at h; cases h), (Kept.of_below hBw1).row (by omega) _⟩
  · obtain rfl : U = 0 := by omega
    clear hU
    have hbx1 := bbox hb1 (unhide Hx1')
    have y0 := box_cell hbx1 0
    have y1 := box_cell hbx1 1
    have y2 := box_cell hbx1 2
    simp only [List.getElem?_toArray, List.getElem?_cons_zero, List.getElem?_cons_succ] at y0 y1 y2
    have hly := lt_of_box hbx1
    have HP1 := hide ((unhide HP0).below hb1)
    clear x0 x1 x2 hbx1
    go_wp2_with fail
    refine (shortest_c base r _ w1 (unhide HP1) (unhide HW) (Nat.le_trans hbw hBw1.size)).mono ?_
    rintro e w2 ⟨ps, rfl, hpv, hk2⟩
    obtain ⟨p', cap', gm', qs', vf, vs, rfl, hL', hLab', hgm', hf, hs, h8, h9⟩ := hpv
    obtain ⟨pf, cf, rfl⟩ := hf.shape
    obtain ⟨pS, cS, rfl⟩ := hs.shape
    simp only [h8, List.length_replicate] at hf hs
    rw [h8, List.length_replicate]
    have hba := below_a w2 (.cells #[.int .i64 r.org, .slice p' r.lines.length cap', .map (some gm'), .slice pf r.lines.length cf, .slice pS (r.lines.length + 1) cS] 67)
    have hbg := box_new w2 (.cells #[.int .i64 r.org, .slice p' r.lines.length cap', .map (some gm'), .slice pf r.lines.length cf, .slice pS (r.lines.length + 1) cS] 67)
    have hbw2 : base ≤ w2.heap.size := Nat.le_trans (Nat.le_trans hbw hBw1.size) hk2.size
    have HPa : Hid (PlanAt base (w2.alloc (.cells #[.int .i64 r.org, .slice p' r.lines.length cap', .map (some gm'), .slice pf r.lines.length cf, .slice pS (r.lines.length + 1) cS] 67)) w2.heap.size r (Strd.firstForms r.lines) (List.replicate (r.lines.length + 1) 0)) :=
      hide ⟨⟨p', cap', gm', qs', _, _, hbg, hL'.below hba, hLab'.below hba, hgm', hf.below hba, hs.below hba⟩, hbw2, h8, h9⟩
    have hkw : Kept base Tag2 w (w2.alloc (.cells #[.int .i64 r.org, .slice p' r.lines.length cap', .map (some gm'), .slice pf r.lines.length cf, .slice pS (r.lines.length + 1) cS] 67)) := ((Kept.of_below hBw1).trans (hk2.mono (Nat.le_refl _) fun o h => .inr h)).trans (.of_below hba)
    have Hx4 := hide (bbox hba (kboxE hk2 (unhide Hx3) (by decide)))
    have hwa : base ≤ (w2.alloc (.cells #[.int .i64 r.org, .slice p' r.lines.length cap', .map (some gm'), .slice pf r.lines.length cf, .slice pS (r.lines.length + 1) cS] 67)).heap.size := Nat.le_trans hbw2 hba.size
    clear hL' hLab' hf hs hbg hk2 HP1 HP0 Hx3 y0 y1 y2 h8 h9 hbw2
    go_upto_region 5 with fail
    generalize w2.alloc (.cells #[.int .i64 r.org, .slice p' r.lines.length cap', .map (some gm'), .slice pf r.lines.length cf, .slice pS (r.lines.length + 1) cS] 67) = w3 at *
    clear hba
    generalize w2.heap.size = g at *
    go_wp2_with fail
    refine (settle_c base g r _ _ w3 (2 * r.lines.length + 1) (unhide HPa) (unhide HW) hwa (fun f hf => ?_) (by have := first_pot r.lines (fun l hl => by have := (unhide HW).forms l hl; omega); unfold Strd.firstForms; omega)).mono ?_
    · unfold Strd.firstForms at hf
      obtain ⟨l, hl, rfl⟩ := List.mem_map.1 hf
      have := (unhide HW).forms l hl; omega
    rintro e w4 ⟨rfl, hP4, hk4⟩
    have HXl : Hid (Strd.settle r.org r.lines (2 * r.lines.length + 1) (Strd.firstForms r.lines) = Strd.layForms r.org r.lines) := hide rfl
    rw [unhide HXl] at hP4
    have hX2 := unhide HX
    rw [if_neg (by omega)] at hX2
    have hfl : (Strd.layForms r.org r.lines).length = r.lines.length := by unfold Strd.layForms; exact settle_len _ _ _ _ (by simp [Strd.firstForms])
    have hsm : ∀ a ∈ Strd.starts r.org r.lines (Strd.layForms r.org r.lines), -2^40 ≤ a ∧ a ≤ 2^40 := starts_mem r (unhide HW) _ hfl
    have hsl : (Strd.starts r.org r.lines (Strd.layForms r.org r.lines)).length = r.lines.length + 1 := starts_len _ _ _ hfl
    have hend := starts_small r (unhide HW) (Strd.layForms r.org r.lines) hfl r.lines.length (Nat.le_refl _)
    generalize Strd.layForms r.org r.lines = fs at *
    generalize Strd.starts r.org r.lines fs = st at *
    have hmi := firstMiss_idx r fs st hfl (by omega)
    have hoi := firstOver_idx r st
    have HX3 := hide hX2
    have Hsm := hide hsm
    have HP4 := hide hP4
    have hk4w := hkw.trans hk4
    have Hx5 := hide (kbox2 hk4 (unhide Hx4) (by decide) (by decide))
    clear hX2 hsm hP4 HX HXl Hx4 hkw HPa hk4
    have hold1 : ∀ k W, k < r.lines.length → Below w4.heap.size w4 W → Calls Tryz.prog 63 #[.pointer (some ⟨g, 0, none⟩), .int .i64 (k : Int)] W fun e w' => e = .returned (.bool (missK r fs st k)) ∧ Below W.heap.size W w' := fun k W hk hb => by
      have := misses_c base g r fs st k W ((unhide HP4).below hb) (unhide HW) (unhide Hsm) hk
      unfold missK
      rw [dif_pos hk]
      exact this
    have hold2 : ∀ k W, k < r.lines.length → Below w4.heap.size w4 W → Calls Tryz.prog 64 #[.pointer (some ⟨g, 0, none⟩), .int .i64 (k : Int)] W fun e w' => e = .returned (.bool (overK r st k)) ∧ Below W.heap.size W w' := fun k W hk hb => by
      have := overflows_c base g r fs st k W ((unhide HP4).below hb) (unhide HW) (unhide Hsm) hk
      unfold overK
      rw [dif_pos hk]
      exact this
    have H1 := hide hold1
    have H2 := hide hold2
    have Hmi := hide hmi
    have Hoi := hide hoi
    clear hold1 hold2 hmi hoi
    go_wp2_with fail
    refine (firstThat_63 base g r fs st (missK r fs st) w4 (unhide HP4) (unhide HW) (unhide H1)).mono ?_
    rintro e w5 ⟨rfl, hb5⟩
    rw [unhide Hmi]
    clear Hmi H1
    generalize hM : Strd.firstMiss r.lines st 0 r.lines fs st = M at *
    have Hx6 := hide (bbox hb5 (unhide Hx5))
    have hk5w := hk4w.trans (.of_below hb5)
    by_cases hM0 : 0 < M
    · have hMi : (0 : Int) < (M : Int) := by omega
      have Hfin : Hid (X = (([], []), M, 6)) := hide (by rw [← unhide HX3, if_pos hM0])
      clear hM
      go_wp2_with (refine wpList_store_row rfl 67 (.tmp 2) (.tmp 22) rfl (w.heap.size + 1) #[.int .i64 0, .slice none 0 0, .map none, .slice none 0 0, .slice none 0 0] rfl rfl 67 #[.int .i64 0, .slice none 0 0, .map none, .slice none 0 0, .slice none 0 0] (by exact unhide Hx6) (by kernel_rfl) rfl (plan_one _ _ _ _ _ _ _ _ _ _ _) ?_)
      refine bodyPost_ret (v := .tuple #[.agg #[.int .i64 0, .slice none 0 0, .map none, .slice none 0 0, .slice none 0 0], .int .i64 (M : Int), .int .i64 6]) (by exact results_cell_tmp2 Tryz.results38 _ _ (w.heap.size + 1) 67 _ _ _ rfl (by exact row_at (unhide Hx6)) Tryz.underlying67 rfl (by kernel_rfl)) rfl ?_
      exact ⟨_, by rw [unhide Hfin], ⟨_, _, _, _, _, _, _, _, _, _, _, rfl⟩, fun h => (by rw [unhide Hfin] at h; cases h), hk5w.row (by omega) _⟩
    · obtain rfl : M = 0 := by omega
      clear hM
      have HP5 := hide ((unhide HP4).below hb5)
      go_wp2_with fail
      refine (firstThat_64 base g r fs st (overK r st) w5 (unhide HP5) (unhide HW) (fun k W hk hb => unhide H2 k W hk (below_t hb5 hb))).mono ?_
      rintro e w6 ⟨rfl, hb6⟩
      rw [unhide Hoi]
      clear Hoi H2
      generalize hO : Strd.firstOver r.lines st = O at *
      have Hx7 := hide (bbox hb6 (unhide Hx6))
      have hk6w := hk5w.trans (.of_below hb6)
      by_cases hO0 : 0 < O
      · have hOi : (0 : Int) < (O : Int) := by omega
        have Hfin : Hid (X = (([], []), O, 4)) := hide (by rw [← unhide HX3, if_neg (by omega), if_pos hO0])
        clear hO
        go_wp2_with (refine wpList_store_row rfl 67 (.tmp 2) (.tmp 28) rfl (w.heap.size + 1) #[.int .i64 0, .slice none 0 0, .map none, .slice none 0 0, .slice none 0 0] rfl rfl 67 #[.int .i64 0, .slice none 0 0, .map none, .slice none 0 0, .slice none 0 0] (by exact unhide Hx7) (by kernel_rfl) rfl (plan_one _ _ _ _ _ _ _ _ _ _ _) ?_)
        refine bodyPost_ret (v := .tuple #[.agg #[.int .i64 0, .slice none 0 0, .map none, .slice none 0 0, .slice none 0 0], .int .i64 (O : Int), .int .i64 4]) (by exact results_cell_tmp2 Tryz.results38 _ _ (w.heap.size + 1) 67 _ _ _ rfl (by exact row_at (unhide Hx7)) Tryz.underlying67 rfl (by kernel_rfl)) rfl ?_
        exact ⟨_, by rw [unhide Hfin], ⟨_, _, _, _, _, _, _, _, _, _, _, rfl⟩, fun h => (by rw [unhide Hfin] at h; cases h), hk6w.row (by omega) _⟩
      · obtain rfl : O = 0 := by omega
        clear hO
        have HP6 := hide ((unhide HP5).below hb6)
        go_wp2_with fail
        refine (end_c base g r fs st w6 (unhide HP6) (unhide HW)).mono ?_
        rintro e w7 ⟨rfl, hb7⟩
        have Hx8 := hide (bbox hb7 (unhide Hx7))
        have hk7w := hk6w.trans (.of_below hb7)
        have HP7 := hide ((unhide HP6).below hb7)
        generalize hE : st.getD r.lines.length 0 = E at *
        have ew : IntKind.i64.wrap (E - 1) = E - 1 := IntWalk.i64_in _ (by omega)
        by_cases hE0 : E - 1 > 16777214
        · have Hfin : Hid (X = (([], []), 0, 7)) := hide (by rw [← unhide HX3, if_neg (by omega), if_neg (by omega), if_pos hE0])
          have hE1 : 16777214 < E - 1 := hE0
          clear hE
          go_wp2_with (refine wpList_store_row rfl 67 (.tmp 2) (.tmp 33) rfl (w.heap.size + 1) #[.int .i64 0, .slice none 0 0, .map none, .slice none 0 0, .slice none 0 0] rfl rfl 67 #[.int .i64 0, .slice none 0 0, .map none, .slice none 0 0, .slice none 0 0] (by exact unhide Hx8) (by kernel_rfl) rfl (plan_one _ _ _ _ _ _ _ _ _ _ _) ?_)
          refine bodyPost_ret (v := .tuple #[.agg #[.int .i64 0, .slice none 0 0, .map none, .slice none 0 0, .slice none 0 0], .int .i64 0, .int .i64 7]) (by exact results_cell_tmp2 Tryz.results38 _ _ (w.heap.size + 1) 67 _ _ _ rfl (by exact row_at (unhide Hx8)) Tryz.underlying67 rfl (by kernel_rfl)) rfl ?_
          exact ⟨_, by rw [unhide Hfin]; rfl, ⟨_, _, _, _, _, _, _, _, _, _, _, rfl⟩, fun h => (by rw [unhide Hfin] at h; cases h), hk7w.row (by omega) _⟩
        · have Hfin : Hid (X = ((fs, st), 0, 0)) := hide (by rw [← unhide HX3, if_neg (by omega), if_neg (by omega), if_neg hE0])
          have hE1 : E - 1 ≤ 16777214 := by omega
          obtain ⟨⟨p7, cap7, gm7, qs7, vf7, vs7, hbx, hL7, hLab7, hgm7, hf7, hs7⟩, _, h8, h9⟩ := unhide HP7
          obtain ⟨pf7, cf7, rfl⟩ := hf7.shape
          obtain ⟨pS7, cS7, rfl⟩ := hs7.shape
          rw [h8] at hf7 hbx
          rw [h9] at hs7 hbx
          have z0 := box_cell hbx 0
          have z1 := box_cell hbx 1
          have z2 := box_cell hbx 2
          have z3 := box_cell hbx 3
          have z4 := box_cell hbx 4
          simp only [List.getElem?_toArray, List.getElem?_cons_zero, List.getElem?_cons_succ] at z0 z1 z2 z3 z4
          have hlz := lt_of_box hbx
          have HL7 := hide hL7
          have HLab7 := hide hLab7
          have Hf7 := hide hf7
          have Hs7 := hide hs7
          have H8 := hide h8
          have H9 := hide h9
          clear hE hL7 hLab7 hf7 hs7 hbx h8 h9 hfl hsl
          go_wp2_with (refine wpList_store_row rfl 67 (.tmp 2) (.tmp 34) rfl (w.heap.size + 1) #[.int .i64 r.org, .slice p7 r.lines.length cap7, .map (some gm7), .slice pf7 r.lines.length cf7, .slice pS7 (r.lines.length + 1) cS7] rfl rfl 67 #[.int .i64 0, .slice none 0 0, .map none, .slice none 0 0, .slice none 0 0] (by exact unhide Hx8) (by kernel_rfl) rfl (plan_one _ _ _ _ _ _ _ _ _ _ _) ?_)
          refine bodyPost_ret (v := .tuple #[.agg #[.int .i64 r.org, .slice p7 r.lines.length cap7, .map (some gm7), .slice pf7 r.lines.length cf7, .slice pS7 (r.lines.length + 1) cS7], .int .i64 0, .int .i64 0]) (by exact results_cell_tmp2 Tryz.results38 _ _ (w.heap.size + 1) 67 _ _ _ rfl (by exact row_at (unhide Hx8)) Tryz.underlying67 rfl (by kernel_rfl)) rfl ?_
          refine ⟨_, by rw [unhide Hfin]; rfl, ⟨_, _, _, _, _, _, _, _, _, _, _, rfl⟩, fun _ => ?_, hk7w.row (by omega) _⟩
          rw [unhide Hfin]
          exact planval_row (unhide Hx8) (unhide HL7) (unhide HLab7) hgm7 (unhide Hf7) (unhide Hs7) (unhide H8) (unhide H9)
end Go.Proofs.YtegiloiojloaoaaGreatDoor
