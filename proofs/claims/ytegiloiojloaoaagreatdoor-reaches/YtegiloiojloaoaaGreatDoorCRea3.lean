/- The contract of striderkeep.Reaches. -/
import Derived.Test.YtegiloiojloaoaaGreatDoorCRea1
import Derived.Test.YtegiloiojloaoaaGreatDoorCKeep2
set_option linter.unusedVariables false
set_option linter.unusedSimpArgs false
namespace Go.Proofs.YtegiloiojloaoaaGreatDoor
open Go.RowKit Go.Shelf Go.Sort Go.Maps

theorem jIdx_end (ms : List Strd.ML) : Strd.jIdx ms ms.length = Strd.jumpsIn ms := by unfold Strd.jIdx Strd.jumpsIn; rw [List.take_length]
set_option maxRecDepth 1000000 in
set_option maxHeartbeats 4000000 in
theorem Reaches_c (v : Value) (xs : List Strd.Item) (w : World) (hI : ItemsAt w v xs) (hx : xs.length ≤ 9223372036854775807) (h11 : 11 ≤ w.heap.size) (hT : Tabs w) :
    Calls Tryz.prog 6 #[v] w fun e w' => e = .returned (.bool true) ∧ Below w.heap.size w w' := by
  have HT := hide hT
  have HI := hide hI
  obtain ⟨pv, cv, rfl⟩ := hI.shape
  clear hT hI
  go_enter Tryz.func6, Tryz.ntmps6
  go_wp2_with fail
  refine (awake_c w h11 (unhide HT)).mono ?_
  rintro e w1 ⟨rfl, hb1⟩
  go_wp2_with fail
  refine (made_c _ xs w1 ((unhide HI).below hb1) hx).mono ?_
  rintro e w2 ⟨cs, rfl, hV, hb2⟩
  obtain ⟨vr, vl, vw, vt, rfl, hr, hl, hw, ht⟩ := hV
  have hM := Strd.made_msEven xs
  generalize hms : Strd.made xs = ms at *
  have hMlen := hM.ok.len
  obtain ⟨pr, cr, rfl⟩ := own_shape hr
  obtain ⟨pl, cl, rfl⟩ := own_shape hl
  obtain ⟨pw, cw, rfl⟩ := own_shape hw
  obtain ⟨pt, ct, rfl⟩ := own_shape ht
  simp only [List.length_map] at hr hl hw ht ⊢
  have hb3 := below_a w2 (.cells #[.slice pr ms.length cr, .slice pl ms.length cl, .slice pw ms.length cw, .slice pt ms.length ct, .int .i64 6] 44)
  have Hbx := hide (box_new w2 (.cells #[.slice pr ms.length cr, .slice pl ms.length cl, .slice pw ms.length cw, .slice pt ms.length ct, .int .i64 6] 44))
  have HM := hide hM
  have Hr := hide (hr.below hb3)
  have Hl := hide (hl.below hb3)
  have Hw := hide (hw.below hb3)
  have Ht := hide (ht.below hb3)
  clear hr hl hw ht hms hM
  go_upto_region 5 with fail
  have hB3 := below_t hb1 (below_t hb2 hb3)
  generalize w2.alloc (.cells #[.slice pr ms.length cr, .slice pl ms.length cl, .slice pw ms.length cw, .slice pt ms.length ct, .int .i64 6] 44) = w3 at *
  generalize w2.heap.size = g at *
  clear hb1 hb2 hb3
  have HWi : Hid (∀ i, i < ms.length → ∃ br bl bw bt, pr = some ⟨br, 0, none⟩ ∧ pl = some ⟨bl, 0, none⟩ ∧ pw = some ⟨bw, 0, none⟩ ∧ pt = some ⟨bt, 0, none⟩ ∧ ∀ W, Below w3.heap.size w3 W → (W.cell? ⟨g, 0, none⟩ = some (.slice (some ⟨br, 0, none⟩) ms.length cr) ∧ W.cell? ⟨g, 1, none⟩ = some (.slice (some ⟨bl, 0, none⟩) ms.length cl) ∧ W.cell? ⟨g, 2, none⟩ = some (.slice (some ⟨bw, 0, none⟩) ms.length cw) ∧ W.cell? ⟨g, 3, none⟩ = some (.slice (some ⟨bt, 0, none⟩) ms.length ct)) ∧ (∀ h : i < ms.length, W.cell? ⟨br, i, none⟩ = some (.string (bstr ms[i].rest.body.text)) ∧ W.cell? ⟨bl, i, none⟩ = some (.int .i64 ms[i].label) ∧ W.cell? ⟨bw, i, none⟩ = some (.int .i64 ms[i].word) ∧ W.cell? ⟨bt, i, none⟩ = some (.int .i64 ms[i].to)) ∧ g < W.heap.size ∧ br < W.heap.size ∧ bl < W.heap.size ∧ bw < W.heap.size ∧ bt < W.heap.size) := hide (fun i hlt => by
    obtain ⟨br, hpr, -, -, -⟩ := ((unhide Hr)).at i (by simpa using hlt)
    obtain ⟨bl, hpl', -, -, -⟩ := ((unhide Hl)).at i (by simpa using hlt)
    obtain ⟨bw, hpw, -, -, -⟩ := ((unhide Hw)).at i (by simpa using hlt)
    obtain ⟨bt, hpt, -, -, -⟩ := ((unhide Ht)).at i (by simpa using hlt)
    subst hpr hpl' hpw hpt
    refine ⟨br, bl, bw, bt, rfl, rfl, rfl, rfl, fun W hb => ?_⟩
    obtain ⟨b1, e1, -, l1, k1⟩ := ((unhide Hr).below hb).at i (by simpa using hlt)
    obtain ⟨b2, e2, -, l2, k2⟩ := ((unhide Hl).below hb).at i (by simpa using hlt)
    obtain ⟨b3, e3, -, l3, k3⟩ := ((unhide Hw).below hb).at i (by simpa using hlt)
    obtain ⟨b4, e4, -, l4, k4⟩ := ((unhide Ht).below hb).at i (by simpa using hlt)
    cases e1
    cases e2
    cases e3
    cases e4
    simp only [List.getElem_map] at k1 k2 k3 k4
    have hbx := bbox hb (unhide Hbx)
    have z0 := box_cell hbx 0
    have z1 := box_cell hbx 1
    have z2 := box_cell hbx 2
    have z3 := box_cell hbx 3
    simp only [List.getElem?_toArray, List.getElem?_cons_zero, List.getElem?_cons_succ] at z0 z1 z2 z3
    exact ⟨⟨z0, z1, z2, z3⟩, fun _ => ⟨k1, k2, k3, k4⟩, lt_of_box hbx, l1, l2, l3, l4⟩)
  have HWl : Hid (∀ W, Below w3.heap.size w3 W → W.cell? ⟨g, 0, none⟩ = some (.slice pr ms.length cr) ∧ g < W.heap.size) := hide (fun W hb => by
    have hbx := bbox hb (unhide Hbx)
    have z0 := box_cell hbx 0
    simp only [List.getElem?_toArray, List.getElem?_cons_zero] at z0
    exact ⟨z0, lt_of_box hbx⟩)
  have Hsh := hide (rsrc_short (unhide HM))
  clear Hr Hl Hw Ht
  go_wp2_with fail
  go_loopw [5, 6, 7] (fun c5 c6 c7 wr => ∃ i : Nat, i ≤ ms.length ∧ c5 = .string (bstr (Strd.rSrc (ms.take i))) ∧ c6 = .int .i64 (Strd.jIdx ms i) ∧ c7 = .int .i64 i ∧ Below w3.heap.size w3 wr) (fun _ _ c _ => ms.length - (intOf c).toNat)
  case atStart => exact ⟨0, by omega, rfl, rfl, rfl, Below.refl _ _⟩
  case round =>
    obtain ⟨i, hi, rfl, rfl, rfl, hbl⟩ := hrel
    have hSl := unhide Hsh i
    have hji := jIdx_le ms i
    by_cases hlt : i < ms.length
    · have hltI : (i : Int) < (ms.length : Int) := by omega
      obtain ⟨br, bl, bw, bt, hpr, hpl, hpw, hpt, hW⟩ := unhide HWi i hlt
      subst hpr hpl hpw hpt
      have hmo := (unhide HM).ok.ok _ (List.getElem_mem hlt)
      have hst := Strd.rSrc_snoc ms i hlt
      have hjs := jIdx_succ ms i hlt
      have hj40 : Strd.jIdx ms i < 40 := by omega
      have h32 := (Strd.r1_len (Strd.jIdx ms i) ms[i] hmo hj40).1
      have hW' : ∀ W, Below w3.heap.size w3 W → (W.cell? ⟨g, 0, none⟩ = some (.slice (some ⟨br, 0, none⟩) ms.length cr) ∧ W.cell? ⟨g, 1, none⟩ = some (.slice (some ⟨bl, 0, none⟩) ms.length cl) ∧ W.cell? ⟨g, 2, none⟩ = some (.slice (some ⟨bw, 0, none⟩) ms.length cw) ∧ W.cell? ⟨g, 3, none⟩ = some (.slice (some ⟨bt, 0, none⟩) ms.length ct)) ∧ (W.cell? ⟨br, i, none⟩ = some (.string (bstr ms[i].rest.body.text)) ∧ W.cell? ⟨bl, i, none⟩ = some (.int .i64 ms[i].label) ∧ W.cell? ⟨bw, i, none⟩ = some (.int .i64 ms[i].word) ∧ W.cell? ⟨bt, i, none⟩ = some (.int .i64 ms[i].to)) ∧ g < W.heap.size ∧ br < W.heap.size ∧ bl < W.heap.size ∧ bw < W.heap.size ∧ bt < W.heap.size := fun W hb => by
        obtain ⟨a1, a2, a3⟩ := hW W hb
        exact ⟨a1, a2 hlt, a3⟩
      have m1 := hmo.label
      have m2 := hmo.word
      have m3 := hmo.to
      unfold Strd.rTexts1 Strd.ML.name at hst h32
      rw [Strd.linesText_app] at hst h32
      have Hst := hide hst
      have Hjs := hide hjs
      have HW := hide hW'
      clear hst hjs hW hW' hmo
      generalize ms[i].label = lb at *
      generalize ms[i].word = wd at *
      generalize ms[i].to = tt at *
      generalize ms[i].rest.body.text = R at *
      generalize Strd.rSrc (ms.take i) = S at *
      generalize hS' : Strd.rSrc (ms.take (i + 1)) = S' at *
      have HS' := hide hS'
      clear hS'
      obtain ⟨⟨z0, z1, z2, z3⟩, ⟨k0, k1, k2, k3⟩, hz, hzr, hzl, hzw, hzt⟩ := unhide HW wr hbl
      generalize hLL : Strd.linesText (if lb < 0 then [] else [(if lb < 0 then [] else Strd.nameTexts.getD lb.toNat []) ++ [58]]) = LL at *
      have HLL := hide hLL
      rw [List.length_append] at h32
      have hLLl : LL.length ≤ 32 := by omega
      clear hLL
      go_upto_if 39 with fail
      go_cut [5] (fun c wc' => c = .string (bstr (S ++ LL)) ∧ Below wr.heap.size wr wc')
      case first =>
        by_cases hlb : lb < 0
        · have h0 : ¬ 0 ≤ lb := by omega
          have Hn : Hid (LL = []) := hide (by rw [← unhide HLL, if_pos hlb]; rfl)
          go_wp2
          go_meet
          exact ⟨by rw [unhide Hn, List.append_nil], Below.refl _ _⟩
        · have h0 : 0 ≤ lb := by omega
          obtain ⟨q, hq⟩ : ∃ q : Nat, lb = q := ⟨lb.toNat, by omega⟩
          have Hn : Hid (LL = Strd.nameTexts.getD q [] ++ [58, 10]) := hide (by rw [← unhide HLL, if_neg hlb, if_neg hlb, hq, Int.toNat_natCast]; simp [Strd.linesText])
          have hnl : (Strd.nameTexts.getD q []).length ≤ 32 := by
            have := congrArg List.length (unhide Hn)
            rw [List.length_append] at this; omega
          rw [hq] at k1 h0
          have cn := name_c q wr (by omega)
          generalize Strd.nameTexts.getD q [] = NN at *
          have Cn := hide cn
          have s1 : ¬ 9223372036854775807 < List.length S + List.length NN := by omega
          have s2 : ¬ 9223372036854775807 < List.length S + List.length NN + 2 := by omega
          clear cn hlb
          go_wp2_with fail
          refine (unhide Cn).mono ?_
          rintro e w4 ⟨rfl, hb4⟩
          go_wp2
          go_meet
          exact ⟨by rw [unhide Hn]; exact congrArg Value.string (bytes_ext (by simp)), hb4⟩
      case rest =>
        obtain ⟨rfl, hbc⟩ := hcut
        have hblc := below_t hbl hbc
        clear z0 z1 z2 z3 k0 k1 k2 k3 hz hzr hzl hzw hzt
        obtain ⟨⟨z0, z1, z2, z3⟩, ⟨k0, k1, k2, k3⟩, hz, hzr, hzl, hzw, hzt⟩ := unhide HW _ hblc
        have hwi : IntKind.i64.wrap ((i : Int) + 1) = (i : Int) + 1 := IntWalk.i64_in _ (by omega)
        by_cases hwd : wd < 0
        · have hwd0 : ¬ 0 ≤ wd := by omega
          have Hst2 : Hid (S' = S ++ LL ++ R ++ [10]) := hide (by rw [unhide Hst, if_pos hwd]; simp [Strd.linesText])
          have Hjs2 : Hid (Strd.jIdx ms (i + 1) = Strd.jIdx ms i) := hide (by rw [unhide Hjs, if_pos hwd]; rfl)
          have hRl : R.length ≤ 32 := by
            rw [if_pos hwd] at h32
            simp [Strd.linesText] at h32; omega
          have s1 : ¬ 9223372036854775807 < List.length S + List.length LL + List.length R := by omega
          have s2 : ¬ 9223372036854775807 < List.length S + List.length LL + List.length R + 1 := by omega
          clear h32
          go_wp2
          go_roundw
          case rel => exact ⟨i + 1, by omega, by rw [unhide HS', unhide Hst2]; exact congrArg Value.string (bytes_ext (by simp)), by rw [unhide Hjs2], by go_num, hblc⟩
          case measure => simp [intOf]; omega
        · have hwd0 : 0 ≤ wd := by omega
          obtain ⟨q, hq⟩ : ∃ q : Nat, wd = q := ⟨wd.toNat, by omega⟩
          obtain ⟨qt, hqt⟩ : ∃ q : Nat, tt = q := ⟨tt.toNat, by omega⟩
          have Hst2 : Hid (S' = S ++ LL ++ (106 :: Strd.dec (Strd.jIdx ms i) ++ 58 :: (Strd.jumpTexts.getD q [] ++ 32 :: Strd.nameTexts.getD qt []) ++ [10]) ++ (107 :: Strd.dec (Strd.jIdx ms i) ++ [58, 10])) := hide (by
            rw [unhide Hst, if_neg hwd, hq, hqt, Int.toNat_natCast, Int.toNat_natCast]; simp [Strd.linesText, Strd.jn, Strd.kn])
          have Hjs2 : Hid (Strd.jIdx ms (i + 1) = Strd.jIdx ms i + 1) := hide (by rw [unhide Hjs, if_neg hwd])
          rw [if_neg hwd, hq, hqt, Int.toNat_natCast, Int.toNat_natCast] at h32
          simp only [Strd.linesText, Strd.jn, Strd.kn, List.map_cons, List.map_nil, List.flatten_cons, List.flatten_nil, List.length_append, List.length_cons, List.length_nil] at h32
          have C19 := hide (fun W => decimal_c (Strd.jIdx ms i) W (by omega))
          have C20 := hide (fun W => jumps_c q W (by omega))
          have C18 := hide (fun W => name_c qt W (by omega))
          generalize Strd.dec (Strd.jIdx ms i) = DN at *
          generalize Strd.jumpTexts.getD q [] = JT at *
          generalize Strd.nameTexts.getD qt [] = NT at *
          generalize hn : Strd.jIdx ms i = n at *
          have ew : IntKind.i64.wrap ((n : Int) + 1) = (n : Int) + 1 := IntWalk.i64_in _ (by omega)
          rw [hq] at k2 hwd0
          rw [hqt] at k3
          subst hq hqt
          have s1 : ¬ 9223372036854775807 < List.length S + List.length LL + 1 := by omega
          have s2 : ¬ 9223372036854775807 < List.length S + List.length LL + 1 + List.length DN := by omega
          have s3 : ¬ 9223372036854775807 < List.length S + List.length LL + 1 + List.length DN + 1 := by omega
          have s4 : ¬ 9223372036854775807 < List.length S + List.length LL + 1 + List.length DN + 1 + List.length JT := by omega
          have s5 : ¬ 9223372036854775807 < List.length S + List.length LL + 1 + List.length DN + 1 + List.length JT + 1 := by omega
          have s6 : ¬ 9223372036854775807 < List.length S + List.length LL + 1 + List.length DN + 1 + List.length JT + 1 + List.length NT := by omega
          have s7 : ¬ 9223372036854775807 < List.length S + List.length LL + 1 + List.length DN + 1 + List.length JT + 1 + List.length NT + 2 := by omega
          have s8 : ¬ 9223372036854775807 < List.length S + List.length LL + 1 + List.length DN + 1 + List.length JT + 1 + List.length NT + 2 + List.length DN := by omega
          have s9 : ¬ 9223372036854775807 < List.length S + List.length LL + 1 + List.length DN + 1 + List.length JT + 1 + List.length NT + 2 + List.length DN + 2 := by omega
          have HWc : Hid (∀ W, Below wc.heap.size wc W → W.cell? ⟨g, 2, none⟩ = some (.slice (some ⟨bw, 0, none⟩) ms.length cw) ∧ W.cell? ⟨bw, i, none⟩ = some (.int .i64 (q : Int)) ∧ W.cell? ⟨g, 3, none⟩ = some (.slice (some ⟨bt, 0, none⟩) ms.length ct) ∧ W.cell? ⟨bt, i, none⟩ = some (.int .i64 (qt : Int))) := hide (fun W hb => by
            obtain ⟨⟨a0, a1, a2, a3⟩, ⟨c0, c1, c2, c3⟩, _⟩ := unhide HW W (below_t hblc hb)
            exact ⟨a2, c2, a3, c3⟩)
          clear h32
          go_wp2_with fail
          go_region_held3 (fun W => W.cell? ⟨g, 2, none⟩ = some (.slice (some ⟨bw, 0, none⟩) ms.length cw) ∧ W.cell? ⟨bw, i, none⟩ = some (.int .i64 (q : Int)) ∧ W.cell? ⟨g, 3, none⟩ = some (.slice (some ⟨bt, 0, none⟩) ms.length ct) ∧ W.cell? ⟨bt, i, none⟩ = some (.int .i64 (qt : Int))) (first
            | with_reducible exact unhide HWc _ (below_d (Below.refl _ _))
            | with_reducible exact unhide HWc _ hbJ
            | with_reducible exact unhide HWc _ hbN) (first
            | (go_at_call 19; refine (unhide C19 _).mono ?_; rintro e w' ⟨rfl, rfl⟩)
            | (go_at_call 20; refine (unhide C20 _).mono ?_; rintro e wJ ⟨rfl, hbJ0⟩; have hbJ : Below wc.heap.size wc wJ := below_t (below_d (Below.refl _ _)) hbJ0)
            | (go_at_call 18; refine (unhide C18 _).mono ?_; rintro e wN ⟨rfl, hbN0⟩; have hbN : Below wc.heap.size wc wN := below_t hbJ hbN0))
          go_wp2_with fail
          go_roundw
          case rel => exact ⟨i + 1, by omega, by rw [unhide HS', unhide Hst2]; exact congrArg Value.string (bytes_ext (by simp)), by rw [unhide Hjs2]; rfl, by go_num, below_t hblc hbN⟩
          case measure => simp [intOf]; omega
    · obtain rfl : i = ms.length := by omega
      have hltI : ¬ ((ms.length : Int) < (ms.length : Int)) := by omega
      obtain ⟨z0, hz⟩ := unhide HWl wr hbl
      obtain ⟨hlo, hna⟩ := r_layOut (unhide HM)
      have hasm := Strd.r_asm (unhide HM)
      rw [jIdx_end, List.take_length] at *
      have hBr := below_t hB3 hbl
      have HA := hide (Assemble_c (bstr (Strd.rSrc ms)) wr (by rw [bstr_size]; omega) (Nat.le_trans h11 hBr.size) ((unhide HT).below hBr))
      rw [bstr_list, hasm] at HA
      have HN := hide (fun W hb => Names_c (bstr (Strd.rSrc ms)) W (by rw [bstr_size]; omega) (Nat.le_trans h11 (below_t hBr hb).size) ((unhide HT).below (below_t hBr hb)))
      rw [bstr_list, hlo, hna] at HN
      have hnl : (namesOf (Strd.RL ms) (Strd.starts 0 (Strd.RL ms) (Strd.RF ms))).length = 2 * Strd.jumpsIn ms + 6 := by rw [names_len, r_labels_len (unhide HM)]
      have hJ40 : Strd.jumpsIn ms ≤ 40 := Nat.le_trans List.countP_le_length hMlen
      have HRN : Hid (rNames ms = namesOf (Strd.RL ms) (Strd.starts 0 (Strd.RL ms) (Strd.RF ms))) := hide rfl
      generalize namesOf (Strd.RL ms) (Strd.starts 0 (Strd.RL ms) (Strd.RF ms)) = NM at *
      have Hil := hide (r_img_len (unhide HM))
      have Hreach := hide (fun i hi hw => Strd.reaches (unhide HM) i hi hw)
      generalize Strd.imgOf (Strd.RL ms) (Strd.RF ms) = IB at *
      generalize hSS : Strd.rSrc ms = S at *
      clear hasm hlo hna hSl hji hSS
      generalize hJ : Strd.jumpsIn ms = J at *
      go_wp2_with fail
      refine (unhide HA).mono ?_
      rintro e w4 ⟨rfl, hb4⟩
      have hb5 := below_a w4 (.cells #[.int .i64 0, .string (bstr IB)] 23)
      have Hib := hide (box_new w4 (.cells #[.int .i64 0, .string (bstr IB)] 23))
      go_upto_region 17 with fail
      have hb45 := below_t hb4 hb5
      generalize w4.alloc (.cells #[.int .i64 0, .string (bstr IB)] 23) = w5 at *
      generalize w4.heap.size = q at *
      clear hb4 hb5 z0 hz
      go_wp2_with fail
      refine (unhide HN w5 hb45).mono ?_
      rintro e w6 ⟨vn, rfl, hNm, -, hb6⟩
      obtain ⟨pn, cn, rfl⟩ := own_shape hNm
      have HNm := hide hNm
      clear hNm
      have h56 := below_t hb45 hb6
      have Hib6 := hide (bbox hb6 (unhide Hib))
      have hB6 := below_t hBr h56
      have h36 := below_t hbl h56
      rw [hnl]
      rw [hnl] at HNm
      have hnI : ((2 * J + 6 : Nat) : Int) = 2 * (J : Int) + 6 := by omega
      have w1' : IntKind.i64.wrap (2 * (J : Int)) = 2 * (J : Int) := IntWalk.i64_in _ (by omega)
      have w2' : IntKind.i64.wrap (2 * (J : Int) + 6) = 2 * (J : Int) + 6 := IntWalk.i64_in _ (by omega)
      clear hb45 hb6
      go_wp2_with fail
      go_loopw [6, 14] (fun c6 c14 wr => ∃ i : Nat, i ≤ ms.length ∧ c6 = .int .i64 (Strd.jIdx ms i) ∧ c14 = .int .i64 i ∧ Below w6.heap.size w6 wr) (fun _ c _ => ms.length - (intOf c).toNat)
      case atStart => exact ⟨0, by omega, rfl, rfl, Below.refl _ _⟩
      case round =>
        obtain ⟨i, hi, rfl, rfl, hbr⟩ := hrel
        have h3r := below_t h36 hbr
        have hji := jIdx_le ms i
        by_cases hlt : i < ms.length
        · have hltI' : (i : Int) < (ms.length : Int) := by omega
          obtain ⟨br, bl, bw, bt, hpr, hpl, hpw, hpt, hW⟩ := unhide HWi i hlt
          subst hpr hpl hpw hpt
          obtain ⟨⟨z0, z1, z2, z3⟩, hk, hz, hzr, hzl, hzw, hzt⟩ := hW wr h3r
          obtain ⟨k0, k1, k2, k3⟩ := hk hlt
          have hjs := jIdx_succ ms i hlt
          have hmo := (unhide HM).ok.ok _ (List.getElem_mem hlt)
          have m2 := hmo.word
          have m3 := hmo.to
          have hwi : IntKind.i64.wrap ((i : Int) + 1) = (i : Int) + 1 := IntWalk.i64_in _ (by omega)
          have Hjs := hide hjs
          by_cases hwd : ms[i].word < 0
          · have Hjs2 : Hid (Strd.jIdx ms (i + 1) = Strd.jIdx ms i) := hide (by rw [unhide Hjs, if_pos hwd]; rfl)
            clear hjs hmo k0 k1 k3 hk hW
            generalize ms[i].word = wd at *
            go_wp2
            go_roundw
            case rel => exact ⟨i + 1, by omega, by rw [unhide Hjs2], by go_num, hbr⟩
            case measure => simp [intOf]; omega
          · obtain ⟨hlead, hmj, hmk⟩ := unhide Hreach i hlt (by omega)
            obtain ⟨qt, hqt⟩ : ∃ q : Nat, ms[i].to = q := ⟨ms[i].to.toNat, by omega⟩
            rw [hqt, Int.toNat_natCast] at hlead
            have hmt := Strd.label_mem (unhide HM) qt (by omega)
            have hnt := (Strd.names_ok qt (by omega)).2.2.1
            have fj := r_find (Strd.jn (Strd.jIdx ms i)) (by simp [Strd.jn]) hmj
            have fk := r_find (Strd.kn (Strd.jIdx ms i)) (by simp [Strd.kn]) hmk
            have ft := r_find (Strd.nameTexts.getD qt []) hnt hmt
            have rj := r_place_rng (unhide HM) _ hmj
            have rk := r_place_rng (unhide HM) _ hmk
            have rt := r_place_rng (unhide HM) _ hmt
            rw [unhide HRN] at fj fk ft
            have Cfj := fun W hb => find_k NM (Strd.jn (Strd.jIdx ms i)) _ _ W ((unhide HNm).below hb) (by omega)
            have Cfk := fun W hb => find_k NM (Strd.kn (Strd.jIdx ms i)) _ _ W ((unhide HNm).below hb) (by omega)
            have Cft := fun W hb => find_k NM (Strd.nameTexts.getD qt []) _ _ W ((unhide HNm).below hb) (by omega)
            rw [fj] at Cfj
            rw [fk] at Cfk
            rw [ft] at Cft
            simp only [Option.getD_some, Option.isSome_some] at Cfj Cfk Cft
            have CFJ := hide Cfj
            have CFK := hide Cfk
            have CFT := hide Cft
            have C19 := hide (fun W => decimal_c (Strd.jIdx ms i) W (by omega))
            have C18 := hide (fun W => name_c qt W (by omega))
            have Hjs2 : Hid (Strd.jIdx ms (i + 1) = Strd.jIdx ms i + 1) := hide (by rw [unhide Hjs, if_neg hwd])
            have CL := hide (fun W => leads_c IB (Strd.rPlace ms (Strd.jn (Strd.jIdx ms i))) (Strd.rPlace ms (Strd.kn (Strd.jIdx ms i)) - Strd.rPlace ms (Strd.jn (Strd.jIdx ms i))) W (unhide Hil) (by rw [hlead]; omega))
            rw [hlead] at CL
            rw [hqt] at k3
            have hdl : (Strd.dec (Strd.jIdx ms i)).length ≤ 3 := by have := Strd.dec_len (Strd.jIdx ms i) 2 (by omega); omega
            have ej : (⟨#[106]⟩ : ByteArray) ++ bstr (Strd.dec (Strd.jIdx ms i)) = bstr (Strd.jn (Strd.jIdx ms i)) := bytes_ext (by simp [Strd.jn])
            have ek : (⟨#[107]⟩ : ByteArray) ++ bstr (Strd.dec (Strd.jIdx ms i)) = bstr (Strd.kn (Strd.jIdx ms i)) := bytes_ext (by simp [Strd.kn])
            clear fj fk ft Cfj Cfk Cft hlead hmj hmk hmt hnt hjs hmo k0 k1 hk hW Hreach
            generalize Strd.rPlace ms (Strd.jn (Strd.jIdx ms i)) = pj at *
            generalize Strd.rPlace ms (Strd.kn (Strd.jIdx ms i)) = pk at *
            generalize Strd.rPlace ms (Strd.nameTexts.getD qt []) = pt' at *
            generalize Strd.jn (Strd.jIdx ms i) = NJ at *
            generalize Strd.kn (Strd.jIdx ms i) = NK at *
            generalize Strd.nameTexts.getD qt [] = NT at *
            generalize Strd.dec (Strd.jIdx ms i) = DN at *
            generalize hn : Strd.jIdx ms i = n at *
            generalize ms[i].word = wd at *
            have hwd' : ¬ wd < 0 := hwd
            have s1 : ¬ 9223372036854775807 < 1 + List.length DN := by omega
            have hsub : IntKind.i64.wrap (pk - pj) = pk - pj := IntWalk.i64_in _ (by omega)
            have hwn : IntKind.i64.wrap ((n : Int) + 1) = (n : Int) + 1 := IntWalk.i64_in _ (by omega)
            have Hz := hide (And.intro z3 (And.intro k3 (And.intro hz hzt)))
            go_wp2_with fail
            refine (unhide C19 _).mono ?_
            rintro e w7 ⟨rfl, hw7⟩
            rw [hw7]
            clear hw7
            go_wp2_with fail
            refine (unhide CFJ wr hbr).mono ?_
            rintro e w8 ⟨rfl, hw8⟩
            rw [hw8]
            clear hw8
            go_wp2_with fail
            refine (unhide C19 _).mono ?_
            rintro e w7 ⟨rfl, hw7⟩
            rw [hw7]
            clear hw7
            go_wp2_with fail
            refine (unhide CFK wr hbr).mono ?_
            rintro e w8 ⟨rfl, hw8⟩
            rw [hw8]
            clear hw8
            go_wp2_with fail
            refine (unhide C18 _).mono ?_
            rintro e w7 ⟨rfl, hb7⟩
            have h67 := below_t hbr hb7
            go_wp2_with fail
            refine (unhide CFT w7 h67).mono ?_
            rintro e w8 ⟨rfl, hw8⟩
            rw [hw8]
            clear hw8
            have y1 := box_cell (bbox h67 (unhide Hib6)) 1
            simp only [List.getElem?_toArray, List.getElem?_cons_zero, List.getElem?_cons_succ] at y1
            have hlq := lt_of_box (bbox h67 (unhide Hib6))
            go_wp2_with fail
            refine (unhide CL w7).mono ?_
            rintro e w9 ⟨rfl, hb9⟩
            have h69 := below_t h67 hb9
            go_wp2
            go_roundw
            case rel => exact ⟨i + 1, by omega, by rw [unhide Hjs2]; rfl, by go_num, h69⟩
            case measure => simp [intOf]; omega
        · have hltI' : ¬ (i : Int) < (ms.length : Int) := by omega
          obtain ⟨z0, hz⟩ := unhide HWl wr h3r
          obtain rfl : i = ms.length := by omega
          go_wp2
          go_ret
          exact ⟨rfl, below_t hB6 hbr⟩
end Go.Proofs.YtegiloiojloaoaaGreatDoor
