/- The contracts of strider.layOut and strider.Assemble. -/
import Derived.Test.YtegiloiojloaoaaGreatDoorCImg
import Derived.Test.YtegiloiojloaoaaGreatDoorCMakeP
set_option linter.unusedVariables false
set_option linter.unusedSimpArgs false
namespace Go.Proofs.YtegiloiojloaoaaGreatDoor
open Go.RowKit Go.Shelf Go.Sort Go.Maps

theorem plan_shape {base : Nat} {w : World} {ps : Array Value} {r : Strd.Rd} {fs st : List Int} (h : PlanVal base w ps r fs st) : ∃ o p n c m p2 n2 c2 p3 n3 c3, ps = #[Value.int .i64 o, .slice p n c, .map m, .slice p2 n2 c2, .slice p3 n3 c3] := by
  obtain ⟨p, cap, gm, qs, vf, vs, rfl, _, _, _, hf, hs, _, _⟩ := h
  obtain ⟨pf, cf, rfl⟩ := hf.shape
  obtain ⟨pS, cS, rfl⟩ := hs.shape
  exact ⟨_, _, _, _, _, _, _, _, _, _, _, rfl⟩
theorem PlanVal.kept {base : Nat} {w : World} {ps : Array Value} {r : Strd.Rd} {fs st : List Int} (h : PlanVal base w ps r fs st) {g : Nat} {cur cs : Array Value} (hg : w.heap[g]? = some (.cells cur 67 (0, 0))) : PlanVal base (w.setRow g cs) ps r fs st := by
  obtain ⟨p, cap, gm, qs, vf, vs, rfl, h1, h2, h3, h4, h5, h6, h7⟩ := h
  exact planval_row hg h1 h2 h3 h4 h5 h6 h7
theorem prog_shape {base : Nat} {w : World} {cs : Array Value} {r : Strd.Rd} (h : ProgAt base w cs r) : ∃ o p n c m, cs = #[Value.int .i64 o, .slice p n c, .map m] := by
  obtain ⟨p, cap, gm, qs, rfl, _⟩ := h
  exact ⟨_, _, _, _, _, rfl⟩
/-- What layOut answers. -/
def layOutOf (s : Strd.Bs) : (List Int × List Int) × Nat × Int := if (Strd.readSource s).2.2 ≠ 0 then (([], []), (Strd.readSource s).2.1, (Strd.readSource s).2.2) else Strd.lay (Strd.readSource s).1.org (Strd.readSource s).1.lines
set_option maxRecDepth 1000000 in
set_option maxHeartbeats 4000000 in
theorem layOut_c (s : ByteArray) (w : World) (hs : s.size ≤ 2 ^ 20) (h11 : 11 ≤ w.heap.size) (hT : Tabs w) :
    Calls Tryz.prog 25 #[.string s] w fun e w' => ∃ ps, e = .returned (.tuple #[.agg ps, .int .i64 (layOutOf s.data.toList).2.1, .int .i64 (layOutOf s.data.toList).2.2]) ∧ (∃ o p n c m p2 n2 c2 p3 n3 c3, ps = #[Value.int .i64 o, .slice p n c, .map m, .slice p2 n2 c2, .slice p3 n3 c3]) ∧ ((layOutOf s.data.toList).2.2 = 0 → ∃ base, w.heap.size ≤ base ∧ base ≤ w'.heap.size ∧ PlanVal base w' ps (Strd.readSource s.data.toList).1 (layOutOf s.data.toList).1.1 (layOutOf s.data.toList).1.2) ∧ Below w.heap.size w w' := by
  generalize hY : layOutOf s.data.toList = Y
  unfold layOutOf at hY
  have hWr := source_wfR s.data.toList
  have HY := hide hY
  have HT := hide hT
  clear hY hT
  have hb0 := below_a w (.cells #[.int .i64 0, .slice none 0 0, .map none, .slice none 0 0, .slice none 0 0] 67)
  have Hx0 := hide (box_new w (.cells #[.int .i64 0, .slice none 0 0, .map none, .slice none 0 0, .slice none 0 0] 67))
  go_enter Tryz.func25, Tryz.ntmps25
  go_upto_region 1 with fail
  have HT0 := hide ((unhide HT).below hb0)
  have h12 : 11 ≤ (w.alloc (.cells #[.int .i64 0, .slice none 0 0, .map none, .slice none 0 0, .slice none 0 0] 67)).heap.size := Nat.le_trans h11 hb0.size
  generalize w.alloc (.cells #[.int .i64 0, .slice none 0 0, .map none, .slice none 0 0, .slice none 0 0] 67) = w0 at *
  go_wp2_with fail
  refine (Source_c s w0 hs h12 (unhide HT0)).mono ?_
  rintro e w1 ⟨cs, rfl, ⟨o, p, n, c, m, rfl⟩, hPc, hb1⟩
  generalize hR : Strd.readSource s.data.toList = R at *
  obtain ⟨r, ln, er⟩ := R
  have HR := hide hR
  clear hR
  simp only at hPc hWr HY ⊢
  have hb2 := below_a w1 (.cells #[.int .i64 o, .slice p n c, .map m] 64)
  have Hy := hide (box_new w1 (.cells #[.int .i64 o, .slice p n c, .map m] 64))
  have Hx2 := hide (bbox hb2 (bbox hb1 (unhide Hx0)))
  have hB2 := below_t hb0 (below_t hb1 hb2)
  have HPc := hide (fun h => (hPc h).below hb2)
  have hb02 := below_t hb1 hb2
  clear hPc
  go_upto_region 2 with fail
  generalize w1.alloc (.cells #[.int .i64 o, .slice p n c, .map m] 64) = w2 at *
  generalize w1.heap.size = g at *
  clear hb1 hb2
  by_cases her : er = 0
  · subst her
    have HYl : Hid (Y = Strd.lay r.org r.lines) := hide (by rw [← unhide HY, if_neg (by simp)])
    have hP := unhide HPc rfl
    have y0 := box_cell (unhide Hy) 0
    have y1 := box_cell (unhide Hy) 1
    have y2 := box_cell (unhide Hy) 2
    simp only [List.getElem?_toArray, List.getElem?_cons_zero, List.getElem?_cons_succ] at y0 y1 y2
    have hly := lt_of_box (unhide Hy)
    have HP := hide hP
    clear hP HPc
    go_wp2_with fail
    refine (Make_c w0.heap.size r _ w2 (unhide HP) hWr hb02.size).mono ?_
    rintro e w3 ⟨ps, rfl, ⟨o3, p3, n3, c3, m3, p4, n4, c4, p5, n5, c5, rfl⟩, hpv, hk3⟩
    have Hx3 := hide (kbox2 hk3 (unhide Hx2) (by decide) (by decide))
    have Hpv := hide hpv
    have hB3 : Below w.heap.size w w3 := by
      have h1 := hk3.below hb02.size
      exact hB2.trans ⟨h1.os, h1.tape, h1.output, h1.size, fun k hk => h1.block k (by have := hb0.size; omega)⟩
    have hsz := hk3.size
    clear hpv y0 y1 y2
    generalize Strd.lay r.org r.lines = Z at *
    obtain ⟨⟨zf, zs⟩, zl, ze⟩ := Z
    simp only at Hpv ⊢
    go_wp2_with (refine wpList_store_row rfl 67 (.tmp 2) (.tmp 21) rfl w.heap.size #[.int .i64 o3, .slice p3 n3 c3, .map m3, .slice p4 n4 c4, .slice p5 n5 c5] rfl rfl 67 #[.int .i64 0, .slice none 0 0, .map none, .slice none 0 0, .slice none 0 0] (by exact unhide Hx3) (by kernel_rfl) rfl (plan_one _ _ _ _ _ _ _ _ _ _ _) ?_)
    refine bodyPost_ret (v := .tuple #[.agg #[.int .i64 o3, .slice p3 n3 c3, .map m3, .slice p4 n4 c4, .slice p5 n5 c5], .int .i64 (zl : Int), .int .i64 ze]) (by exact results_cell_tmp2 Tryz.results25 _ _ w.heap.size 67 _ _ _ rfl (by exact row_at (unhide Hx3)) Tryz.underlying67 rfl (by kernel_rfl)) rfl ?_
    refine ⟨_, by rw [unhide HYl], ⟨_, _, _, _, _, _, _, _, _, _, _, rfl⟩, fun h => ?_, below_row hB3 (Nat.le_refl _) _⟩
    rw [unhide HYl] at h
    rw [unhide HYl, unhide HR]
    exact ⟨w0.heap.size, hb0.size, Nat.le_trans hb02.size (Nat.le_trans hsz (by simp [World.setRow])), (unhide Hpv h).kept (unhide Hx3)⟩
  · have HYl : Hid (Y = (([], []), ln, er)) := hide (by rw [← unhide HY, if_pos her])
    go_wp2_with (refine wpList_store_row rfl 67 (.tmp 2) (.tmp 16) rfl w.heap.size #[.int .i64 0, .slice none 0 0, .map none, .slice none 0 0, .slice none 0 0] rfl rfl 67 #[.int .i64 0, .slice none 0 0, .map none, .slice none 0 0, .slice none 0 0] (by exact unhide Hx2) (by kernel_rfl) rfl (plan_one _ _ _ _ _ _ _ _ _ _ _) ?_)
    refine bodyPost_ret (v := .tuple #[.agg #[.int .i64 0, .slice none 0 0, .map none, .slice none 0 0, .slice none 0 0], .int .i64 (ln : Int), .int .i64 er]) (by exact results_cell_tmp2 Tryz.results25 _ _ w.heap.size 67 _ _ _ rfl (by exact row_at (unhide Hx2)) Tryz.underlying67 rfl (by kernel_rfl)) rfl ?_
    exact ⟨_, by rw [unhide HYl], ⟨_, _, _, _, _, _, _, _, _, _, _, rfl⟩, fun h => absurd (by rw [unhide HYl] at h; exact h) her, below_row hB2 (Nat.le_refl _) _⟩

theorem img_one (o : Int) (s : ByteArray) : (#[Value.int .i64 o, .string s]).all (·.oneCell') = true := by simp [Value.oneCell']
theorem lay_ok (org : Int) (lines : List Strd.Line) (h : (Strd.lay org lines).2.2 = 0) : (Strd.lay org lines) = ((Strd.layForms org lines, Strd.starts org lines (Strd.layForms org lines)), 0, 0) := by
  unfold Strd.lay at h ⊢
  simp only at h ⊢
  split
  · rename_i h1; rw [if_pos h1] at h; cases h
  · rename_i h1
    rw [if_neg h1] at h
    split
    · rename_i h2; rw [if_pos h2] at h; cases h
    · rename_i h2
      rw [if_neg h2] at h
      split
      · rename_i h3; rw [if_pos h3] at h; cases h
      · rename_i h3
        rw [if_neg h3] at h
        split
        · rename_i h4; rw [if_pos h4] at h; cases h
        · rfl
theorem asm_eq (s : Strd.Bs) : Strd.assemble s = if (layOutOf s).2.2 ≠ 0 then ((0, []), (layOutOf s).2.1, (layOutOf s).2.2) else (((Strd.readSource s).1.org, Strd.image (Strd.readSource s).1.lines (layOutOf s).1.2 (Strd.readSource s).1.lines (layOutOf s).1.1 (layOutOf s).1.2), 0, 0) := by
  unfold Strd.assemble layOutOf
  simp only
  by_cases h : (Strd.readSource s).2.2 = 0
  · simp only [h, ne_eq, not_true, if_false]
  · simp only [ne_eq, h, not_false_eq_true, if_true]
theorem layOut_ok (s : Strd.Bs) (h : (layOutOf s).2.2 = 0) : (layOutOf s) = ((Strd.layForms (Strd.readSource s).1.org (Strd.readSource s).1.lines, Strd.starts (Strd.readSource s).1.org (Strd.readSource s).1.lines (Strd.layForms (Strd.readSource s).1.org (Strd.readSource s).1.lines)), 0, 0) := by
  unfold layOutOf at h ⊢
  by_cases e : (Strd.readSource s).2.2 = 0
  · simp only [ne_eq, e, not_true, if_false] at h ⊢
    exact lay_ok _ _ h
  · simp only [ne_eq, e, not_false_eq_true, if_true] at h
theorem start_ge (r : Strd.Rd) (hW : WfR r) (fs : List Int) (hf : fs.length = r.lines.length) : ∀ k, k ≤ r.lines.length → r.org ≤ (Strd.starts r.org r.lines fs).getD k 0
  | 0, _ => by rw [starts_zero]; exact Int.le_refl _
  | k + 1, h => by
    have ih := start_ge r hW fs hf k (by omega)
    rw [starts_step r.org r.lines fs k (by omega) (by omega)]
    have := size_small r hW r.lines[k] (List.getElem_mem _) fs[k] ((Strd.starts r.org r.lines fs).getD k 0)
    omega
set_option maxRecDepth 1000000 in
set_option maxHeartbeats 4000000 in
theorem Assemble_c (s : ByteArray) (w : World) (hs : s.size ≤ 2 ^ 20) (h11 : 11 ≤ w.heap.size) (hT : Tabs w) :
    Calls Tryz.prog 10 #[.string s] w fun e w' => e = .returned (.tuple #[.agg #[.int .i64 (Strd.assemble s.data.toList).1.1, .string (bstr (Strd.assemble s.data.toList).1.2)], .int .i64 (Strd.assemble s.data.toList).2.1, .int .i64 (Strd.assemble s.data.toList).2.2]) ∧ Below w.heap.size w w' := by
  have hA := asm_eq s.data.toList
  have hok := layOut_ok s.data.toList
  have hWr := source_wfR s.data.toList
  have hQr := source_wfQ s.data.toList
  generalize Strd.assemble s.data.toList = A at *
  have HA := hide hA
  have Hok := hide hok
  have HT := hide hT
  clear hA hT hok
  have hb0 := below_a w (.cells #[.int .i64 0, .string ⟨#[]⟩] 23)
  have Hx0 := hide (box_new w (.cells #[.int .i64 0, .string ⟨#[]⟩] 23))
  go_enter Tryz.func10, Tryz.ntmps10
  go_upto_region 1 with fail
  have HT0 := hide ((unhide HT).below hb0)
  have h12 : 11 ≤ (w.alloc (.cells #[.int .i64 0, .string ⟨#[]⟩] 23)).heap.size := Nat.le_trans h11 hb0.size
  generalize w.alloc (.cells #[.int .i64 0, .string ⟨#[]⟩] 23) = w0 at *
  go_wp2_with fail
  refine (layOut_c s w0 hs h12 (unhide HT0)).mono ?_
  rintro e w1 ⟨ps, rfl, ⟨o3, p3, n3, c3, m3, p4, n4, c4, p5, n5, c5, rfl⟩, hpv, hb1⟩
  generalize layOutOf s.data.toList = Y at *
  generalize (Strd.readSource s.data.toList).1 = r at *
  obtain ⟨⟨fs, st⟩, ln, er⟩ := Y
  simp only at hpv HA Hok ⊢
  have hb2 := below_a w1 (.cells #[.int .i64 o3, .slice p3 n3 c3, .map m3, .slice p4 n4 c4, .slice p5 n5 c5] 67)
  have Hg := hide (box_new w1 (.cells #[.int .i64 o3, .slice p3 n3 c3, .map m3, .slice p4 n4 c4, .slice p5 n5 c5] 67))
  have Hx2 := hide (bbox hb2 (bbox hb1 (unhide Hx0)))
  have hB2 := below_t hb0 (below_t hb1 hb2)
  have HPl : Hid (er = 0 → ∃ base, PlanAt base (w1.alloc (.cells #[.int .i64 o3, .slice p3 n3 c3, .map m3, .slice p4 n4 c4, .slice p5 n5 c5] 67)) w1.heap.size r fs st) := hide fun h => by
    obtain ⟨base, _, h2, p, cap, gm, qs, vf, vs, e, hL, hLab, hgm, hf, hs', h8, h9⟩ := hpv h
    rw [e] at hb2 Hg ⊢
    exact ⟨base, ⟨p, cap, gm, qs, vf, vs, unhide Hg, hL.below hb2, hLab.below hb2, hgm, hf.below hb2, hs'.below hb2⟩, h2, h8, h9⟩
  clear hpv
  go_upto_region 2 with fail
  generalize w1.alloc (.cells #[.int .i64 o3, .slice p3 n3 c3, .map m3, .slice p4 n4 c4, .slice p5 n5 c5] 67) = w2 at *
  generalize w1.heap.size = g at *
  clear hb1 hb2 Hg
  by_cases her : er = 0
  · subst her
    obtain ⟨base, hPl⟩ := unhide HPl rfl
    have hk := unhide Hok rfl
    simp only [Prod.mk.injEq] at hk
    obtain ⟨⟨rfl, rfl⟩, _, _⟩ := hk
    have hfl : (Strd.layForms r.org r.lines).length = r.lines.length := by unfold Strd.layForms; exact settle_len _ _ _ _ (by simp [Strd.firstForms])
    have hA2 : A = ((r.org, Strd.image r.lines (Strd.starts r.org r.lines (Strd.layForms r.org r.lines)) r.lines (Strd.layForms r.org r.lines) (Strd.starts r.org r.lines (Strd.layForms r.org r.lines))), 0, 0) := by rw [unhide HA, if_neg (by simp)]
    have HA2 := hide hA2
    have hst : ∀ a ∈ Strd.starts r.org r.lines (Strd.layForms r.org r.lines), 0 ≤ a ∧ a ≤ 2 ^ 31 := by
      intro a ha
      obtain ⟨k, hk, rfl⟩ := List.getElem_of_mem ha
      rw [starts_len _ _ _ hfl] at hk
      have h1 := starts_small r hWr (Strd.layForms r.org r.lines) hfl k (by omega)
      rw [List.getD_eq_getElem?_getD, List.getElem?_eq_getElem (by rw [starts_len _ _ _ hfl]; exact hk)] at h1
      simp only [Option.getD_some] at h1
      have := hWr.len
      omega
    have hend := start_ge r hWr (Strd.layForms r.org r.lines) hfl r.lines.length (Nat.le_refl _)
    have cI := Image_c base g r _ _ w2 hPl hWr hQr hst hend
    generalize Strd.image r.lines (Strd.starts r.org r.lines (Strd.layForms r.org r.lines)) r.lines (Strd.layForms r.org r.lines) (Strd.starts r.org r.lines (Strd.layForms r.org r.lines)) = I at *
    have CI := hide cI
    clear hA2 HA Hok hst hend hPl HPl cI
    go_wp2_with fail
    refine (unhide CI).mono ?_
    rintro e w3 ⟨rfl, hb3⟩
    have Hx3 := hide (bbox hb3 (unhide Hx2))
    go_wp2_with (refine wpList_store_row rfl 23 (.tmp 2) (.tmp 19) rfl w.heap.size #[.int .i64 r.org, .string (bstr I)] rfl rfl 23 #[.int .i64 0, .string ⟨#[]⟩] (by exact unhide Hx3) (by kernel_rfl) rfl (img_one _ _) ?_)
    refine bodyPost_ret (v := .tuple #[.agg #[.int .i64 r.org, .string (bstr I)], .int .i64 0, .int .i64 0]) (by exact results_cell_tmp2 Tryz.results10 _ _ w.heap.size 23 _ _ _ rfl (by exact row_at (unhide Hx3)) Tryz.underlying23 rfl (by kernel_rfl)) rfl ?_
    exact ⟨by rw [unhide HA2]; rfl, below_row (below_t hB2 hb3) (Nat.le_refl _) _⟩
  · have HA2 : Hid (A = ((0, []), ln, er)) := hide (by rw [unhide HA, if_pos her])
    go_wp2_with (refine wpList_store_row rfl 23 (.tmp 2) (.tmp 16) rfl w.heap.size #[.int .i64 0, .string ⟨#[]⟩] rfl rfl 23 #[.int .i64 0, .string ⟨#[]⟩] (by exact unhide Hx2) (by kernel_rfl) rfl (img_one _ _) ?_)
    refine bodyPost_ret (v := .tuple #[.agg #[.int .i64 0, .string ⟨#[]⟩], .int .i64 (ln : Int), .int .i64 er]) (by exact results_cell_tmp2 Tryz.results10 _ _ w.heap.size 23 _ _ _ rfl (by exact row_at (unhide Hx2)) Tryz.underlying23 rfl (by kernel_rfl)) rfl ?_
    exact ⟨by rw [unhide HA2], below_row hB2 (Nat.le_refl _) _⟩
end Go.Proofs.YtegiloiojloaoaaGreatDoor
