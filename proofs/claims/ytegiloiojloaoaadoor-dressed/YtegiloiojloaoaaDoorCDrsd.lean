/- The contract of striderkeep.Dressed. -/
import Derived.Test.YtegiloiojloaoaaDoorCLaw1
set_option linter.unusedVariables false
set_option linter.unusedSimpArgs false
namespace Go.Proofs.YtegiloiojloaoaaDoor
open Go.RowKit Go.Shelf Go.Sort Go.Maps

/-- What the raw numbers choose. -/
def rawCs (zs : List Int) : List Nat := zs.map fun z => (Strd.pick z 6).toNat
theorem rawCs_small (zs : List Int) : Strd.Small (rawCs zs) := fun c hc => by
  obtain ⟨z, _, rfl⟩ := List.mem_map.1 hc
  have := Strd.pick_range z 6 (by omega)
  omega
theorem rawCs_at (zs : List Int) (n : Nat) (h : n < zs.length) : (((rawCs zs).drop n).headD 0 : Int) = Strd.pick zs[n] 6 := by
  have := Strd.pick_range zs[n] 6 (by omega)
  unfold rawCs
  rw [List.headD_eq_head?_getD, List.head?_drop, List.getElem?_map, List.getElem?_eq_getElem h]
  simp
  omega
theorem rawCs_out (zs : List Int) (n : Nat) (h : ¬ n < zs.length) : ((rawCs zs).drop n).headD 0 = 0 := by
  unfold rawCs
  rw [List.headD_eq_head?_getD, List.head?_drop, List.getElem?_map, List.getElem?_eq_none (by omega)]
  rfl
def endRow : Array Value := #[.string ⟨#[10]⟩, .string ⟨#[32, 10]⟩, .string ⟨#[9, 59, 97, 58, 32, 98, 10]⟩, .string ⟨#[10, 10]⟩, .string ⟨#[59, 255, 59, 10]⟩, .string ⟨#[10, 32, 9, 32, 10]⟩]
def blankRow : Array Value := #[.string ⟨#[32]⟩, .string ⟨#[32, 32]⟩, .string ⟨#[9]⟩, .string ⟨#[32, 9, 32]⟩, .string ⟨#[32]⟩, .string ⟨#[9, 9]⟩]
def commaRow : Array Value := #[.string ⟨#[44]⟩, .string ⟨#[32, 44]⟩, .string ⟨#[44, 32]⟩, .string ⟨#[9, 44, 9]⟩, .string ⟨#[44]⟩, .string ⟨#[44]⟩]
theorem six_of {c : Nat} (h : c < 6) : c = 0 ∨ c = 1 ∨ c = 2 ∨ c = 3 ∨ c = 4 ∨ c = 5 := by omega
theorem endRow_at (c : Nat) (h : c < 6) : endRow[c]? = some (.string (bstr (Strd.endsL.getD c []))) := by
  rcases six_of h with rfl | rfl | rfl | rfl | rfl | rfl <;> rfl
theorem blankRow_at (c : Nat) (h : c < 6) : blankRow[c]? = some (.string (bstr (Strd.blankL.getD c []))) := by
  rcases six_of h with rfl | rfl | rfl | rfl | rfl | rfl <;> rfl
theorem commaRow_at (c : Nat) (h : c < 6) : commaRow[c]? = some (.string (bstr (Strd.commaL.getD c []))) := by
  rcases six_of h with rfl | rfl | rfl | rfl | rfl | rfl <;> rfl
theorem row_get {A : Array Value} {c : Nat} {v : Value} (h : A[c]? = some v) : ∀ h' : c < A.toList.length, A.toList[c]'h' = v := fun h' => by
  have := (Array.getElem?_eq_some_iff.1 h).2
  rw [← this, Array.getElem_toList]
theorem one_short : ∀ c, c < 6 → (Strd.endsL.getD c []).length ≤ 7 ∧ (Strd.blankL.getD c []).length ≤ 7 ∧ (Strd.commaL.getD c []).length ≤ 7 := by decide
theorem one_len (c : Nat) (b : UInt8) (h : c < 6) : (Strd.dressOne c b).length ≤ 7 := by
  have := one_short c h
  unfold Strd.dressOne
  split
  · omega
  · split
    · omega
    · split
      · omega
      · simp
theorem one_ne {b d : UInt8} (h : ¬ b = d) : bstr [b] ≠ (⟨#[d]⟩ : ByteArray) := fun e => h (by
  have := congrArg (fun x : ByteArray => x.data.toList) e
  simpa using this)
theorem cnt_le (s : Strd.Bs) : Strd.cnt s ≤ s.length := List.countP_le_length
theorem sub_one (S : Strd.Bs) (i : Nat) (h : i < S.length) : (bstr S).extract i (i + 1) = bstr [S[i]] := bytes_ext (by
  rw [toList_extract, bstr_list, bstr_list, List.take_succ_eq_append_getElem h, List.drop_append_of_le_length (by rw [List.length_take]; omega), List.drop_eq_nil_of_le (by rw [List.length_take]; omega)]
  rfl)
set_option maxRecDepth 1000000 in
set_option maxHeartbeats 4000000 in
theorem Dressed_c (v v1 : Value) (xs : List Strd.Item) (zs : List Int) (w : World) (hI : ItemsAt w v xs) (hx : xs.length ≤ 9223372036854775807) (hR : RawAt w v1 zs) (hz : zs.length ≤ 9223372036854775807) (h11 : 8 ≤ w.heap.size) (hT : Tabs w) :
    Calls Tryd.prog 3 #[v, v1] w fun e w' => e = .returned (.bool true) ∧ Below w.heap.size w w' := by
  have HT := hide hT
  have HI := hide hI
  have HR := hide hR
  obtain ⟨pv, cv, rfl⟩ := hI.shape
  obtain ⟨pz, cz, rfl⟩ := hR.shape
  clear hT hI hR
  go_enter Tryd.func3, Tryd.ntmps3
  go_wp2_with fail
  refine (awake_c w h11 (unhide HT)).mono ?_
  rintro e w1 ⟨rfl, hb1⟩
  go_wp2_with fail
  refine (made_c _ xs w1 ((unhide HI).below hb1) hx).mono ?_
  rintro e w2 ⟨cs, rfl, hV, hb2⟩
  have HV := hide hV
  obtain ⟨pr, cr, pl, cl, pw, cw, pt, ct, rfl⟩ := hV.shape
  have hM := Strd.made_msEven xs
  have hMlen := hM.ok.len
  generalize hms : Strd.made xs = ms at *
  have hb3 := below_a w2 (.cells #[.slice pr ms.length cr, .slice pl ms.length cl, .slice pw ms.length cw, .slice pt ms.length ct, .int .i64 6] 27)
  have Hbx := hide (box_new w2 (.cells #[.slice pr ms.length cr, .slice pl ms.length cl, .slice pw ms.length cw, .slice pt ms.length ct, .int .i64 6] 27))
  have HM := hide hM
  clear hV hms hM
  go_upto_region 5 with fail
  have HV3 := hide ((unhide HV).below hb3)
  have hB3 := below_t hb1 (below_t hb2 hb3)
  generalize w2.alloc (.cells #[.slice pr ms.length cr, .slice pl ms.length cl, .slice pw ms.length cw, .slice pt ms.length ct, .int .i64 6] 27) = w3 at *
  generalize w2.heap.size = g at *
  have x0 := box_cell (unhide Hbx) 0
  have x1 := box_cell (unhide Hbx) 1
  have x2 := box_cell (unhide Hbx) 2
  have x3 := box_cell (unhide Hbx) 3
  have x4 := box_cell (unhide Hbx) 4
  simp only [List.getElem?_toArray, List.getElem?_cons_zero, List.getElem?_cons_succ] at x0 x1 x2 x3 x4
  have hlb := lt_of_box (unhide Hbx)
  clear hb2 hb3
  go_wp2_with fail
  refine (source_c ms (unhide HM).ok.ok hMlen [] (fun f hf => by cases hf) _ _ _ w3 (unhide HV3) (FormsAt.nil _) (by simp)).mono ?_
  rintro e w4 ⟨rfl, hb4⟩
  have hB4 := below_t hB3 hb4
  have HA := hide (fun W (hb : Below w.heap.size w W) => asm_plain (unhide HM) W (Nat.le_trans h11 hb.size) ((unhide HT).below hb))
  have HD := hide (Strd.dressed_asm (unhide HM))
  rw [Strd.plain_asm (unhide HM)] at HD
  have hSl := src_short (unhide HM) []
  generalize hIB : Strd.imgOf (Strd.Lp ms []) (Strd.F0 ms) = IB at *
  generalize hSS : Strd.srcOf (Strd.pairs ms []) = S at *
  clear x0 x1 x2 x3 x4
  go_wp2_with fail
  refine (unhide HA w4 hB4).mono ?_
  rintro e w5 ⟨rfl, hb5⟩
  have hb6 := below_a w5 (.cells #[.int .i64 0, .string (bstr IB)] 30)
  have Hib := hide (box_new w5 (.cells #[.int .i64 0, .string (bstr IB)] 30))
  go_upto_region 6 with fail
  have hb36 := below_t hb4 (below_t hb5 hb6)
  have HV6 := hide ((unhide HV3).below hb36)
  have Hbx6 := hide (bbox hb36 (unhide Hbx))
  have hB6 := below_t hB4 (below_t hb5 hb6)
  have hli := lt_of_box (unhide Hib)
  generalize w5.alloc (.cells #[.int .i64 0, .string (bstr IB)] 30) = w6 at *
  generalize w5.heap.size = q at *
  have x0 := box_cell (unhide Hbx6) 0
  have x1 := box_cell (unhide Hbx6) 1
  have x2 := box_cell (unhide Hbx6) 2
  have x3 := box_cell (unhide Hbx6) 3
  have x4 := box_cell (unhide Hbx6) 4
  simp only [List.getElem?_toArray, List.getElem?_cons_zero, List.getElem?_cons_succ] at x0 x1 x2 x3 x4
  have hlb6 := lt_of_box (unhide Hbx6)
  clear hb4 hb5 hb6 hb36 hlb hb1
  go_wp2_with fail
  refine (source_c ms (unhide HM).ok.ok hMlen [] (fun f hf => by cases hf) _ _ _ w6 (unhide HV6) (FormsAt.nil _) (by simp)).mono ?_
  rintro e w7 ⟨rfl, hb7⟩
  rw [hSS]
  have hB7 := below_t hB6 hb7
  have Hib7 := hide (bbox hb7 (unhide Hib))
  have HR7 := hide ((unhide HR).below hB7)
  have HcS := hide (rawCs_small zs)
  have Hcat := hide (rawCs_at zs)
  have Hcout := hide (rawCs_out zs)
  clear x0 x1 x2 x3 x4 hb7 hlb6 hli
  generalize rawCs zs = cs at *
  go_wp2_with fail
  go_loopw [11, 12, 13] (fun c11 c12 c13 wr => ∃ i : Nat, i ≤ S.length ∧ c11 = .string (bstr (Strd.dress cs (S.take i))) ∧ c12 = .int .i64 (Strd.cnt (S.take i)) ∧ c13 = .int .i64 i ∧ Below w7.heap.size w7 wr) (fun _ _ c _ => S.length - (intOf c).toNat)
  case atStart => exact ⟨0, by omega, rfl, rfl, rfl, Below.refl _ _⟩
  case round =>
    obtain ⟨i, hi, rfl, rfl, rfl, hbr⟩ := hrel
    have hn : Strd.cnt (S.take i) ≤ i := Nat.le_trans (cnt_le _) (by rw [List.length_take]; omega)
    by_cases hlt : i < S.length
    · have hltI : (i : Int) < (S.length : Int) := by omega
      have Hsn := hide (Strd.dress_snoc cs S i hlt)
      have Hcn := hide (Strd.cnt_snoc S i hlt)
      have Hone := hide (sub_one S i hlt)
      generalize hb : S[i] = b at *
      clear hb
      generalize hDn : Strd.dress cs (S.take (i + 1)) = Dn at *
      generalize hNn : Strd.cnt (S.take (i + 1)) = Nn at *
      generalize Strd.dress cs (S.take i) = D at *
      generalize Strd.cnt (S.take i) = n at *
      have HDn := hide hDn
      have HNn := hide hNn
      clear hDn hNn
      by_cases h39 : D.length < 3900
      · have h39i : (D.length : Int) < 3900 := by omega
        obtain ⟨c, hc⟩ : ∃ c, (cs.drop n).headD 0 = c := ⟨_, rfl⟩
        have hc6 : c < 6 := by rw [← hc]; exact Strd.small_head (Strd.small_drop (unhide HcS) n)
        go_upto_if 46 with fail
        go_cut [14] (fun c14 wc => c14 = .int .i64 (c : Int) ∧ wc = wr)
        case first =>
          by_cases hnz : n < zs.length
          · have hnzi : (n : Int) < (zs.length : Int) := by omega
            obtain ⟨bz, oz, hpz, hbz, kz, rz⟩ := ((unhide HR7).below hbr).at n hnz
            subst hpz
            have hca := unhide Hcat n hnz
            rw [hc] at hca
            generalize zs[n] = z at *
            have Hca := hide hca
            clear hca
            go_wp2_with fail
            refine (pick_c z 6 _ rz (by omega)).mono ?_
            rintro e w8 ⟨rfl, hw8⟩
            rw [hw8, ← unhide Hca]
            go_wp2
            go_meet
            exact ⟨rfl, rfl⟩
          · have hnzi : ¬ (n : Int) < (zs.length : Int) := by omega
            have Hc0 : Hid (c = 0) := hide (by rw [← hc]; exact unhide Hcout n hnz)
            go_wp2
            go_meet
            exact ⟨by rw [unhide Hc0]; rfl, rfl⟩
        case rest =>
          obtain ⟨rfl, hwc⟩ := hcut
          have hwc' := hwc.symm
          subst hwc'
          rw [hc] at Hsn
          have Hc := hide hc
          clear hc
          have hone := unhide Hone
          have hwi : IntKind.i64.wrap ((i : Int) + 1) = (i : Int) + 1 := IntWalk.i64_in _ (by omega)
          have hwn : IntKind.i64.wrap ((n : Int) + 1) = (n : Int) + 1 := IntWalk.i64_in _ (by omega)
          have hi1 : (i : Int) + 1 ≤ (S.length : Int) := by omega
          go_upto_block 2 with fail
          go_cut [11, 12] (fun c11 c12 wd => c11 = .string (bstr Dn) ∧ c12 = .int .i64 (Nn : Int) ∧ Below wr.heap.size wr wd)
          case first =>
            by_cases e10 : b = 10
            · subst e10
              obtain ⟨hsl, -, -⟩ := one_short c hc6
              have Hd : Hid (Dn = D ++ Strd.endsL.getD c []) := hide (unhide Hsn)
              have Hnn : Hid (Nn = n + 1) := hide (unhide Hcn)
              have hcell : (wr.alloc (.cells endRow 9)).cell? ⟨wr.heap.size, c, none⟩ = some (.string (bstr (Strd.endsL.getD c []))) := (box_cell (box_new wr (.cells endRow 9)) c).trans (endRow_at c hc6)
              have hget := row_get (endRow_at c hc6)
              unfold endRow at hcell hget
              dsimp only at hget
              generalize Strd.endsL.getD c [] = X at *
              have s1 : ¬ 9223372036854775807 < List.length D + List.length X := by omega
              have hc6i : (c : Int) < 6 := by omega
              go_wp2
              go_meet
              exact ⟨by rw [unhide Hd]; exact congrArg Value.string (bytes_ext (by simp)), by rw [unhide Hnn]; rfl, below_a _ _⟩
            · have f10 : ([b] == [(10 : UInt8)]) = false := by simpa using e10
              by_cases e32 : b = 32
              · subst e32
                obtain ⟨-, hsl, -⟩ := one_short c hc6
                have Hd : Hid (Dn = D ++ Strd.blankL.getD c []) := hide (unhide Hsn)
                have Hnn : Hid (Nn = n + 1) := hide (unhide Hcn)
                have hcell : (wr.alloc (.cells blankRow 9)).cell? ⟨wr.heap.size, c, none⟩ = some (.string (bstr (Strd.blankL.getD c []))) := (box_cell (box_new wr (.cells blankRow 9)) c).trans (blankRow_at c hc6)
                have hget := row_get (blankRow_at c hc6)
                unfold blankRow at hcell hget
                dsimp only at hget
                generalize Strd.blankL.getD c [] = X at *
                have s1 : ¬ 9223372036854775807 < List.length D + List.length X := by omega
                have hc6i : (c : Int) < 6 := by omega
                go_wp2
                go_meet
                exact ⟨by rw [unhide Hd]; exact congrArg Value.string (bytes_ext (by simp)), by rw [unhide Hnn]; rfl, below_a _ _⟩
              · have f32 : ([b] == [(32 : UInt8)]) = false := by simpa using e32
                by_cases e44 : b = 44
                · subst e44
                  obtain ⟨-, -, hsl⟩ := one_short c hc6
                  have Hd : Hid (Dn = D ++ Strd.commaL.getD c []) := hide (unhide Hsn)
                  have Hnn : Hid (Nn = n + 1) := hide (unhide Hcn)
                  have hcell : (wr.alloc (.cells commaRow 9)).cell? ⟨wr.heap.size, c, none⟩ = some (.string (bstr (Strd.commaL.getD c []))) := (box_cell (box_new wr (.cells commaRow 9)) c).trans (commaRow_at c hc6)
                  have hget := row_get (commaRow_at c hc6)
                  unfold commaRow at hcell hget
                  dsimp only at hget
                  generalize Strd.commaL.getD c [] = X at *
                  have s1 : ¬ 9223372036854775807 < List.length D + List.length X := by omega
                  have hc6i : (c : Int) < 6 := by omega
                  go_wp2
                  go_meet
                  exact ⟨by rw [unhide Hd]; exact congrArg Value.string (bytes_ext (by simp)), by rw [unhide Hnn]; rfl, below_a _ _⟩
                · have f44 : ([b] == [(44 : UInt8)]) = false := by simpa using e44
                  have hsp : Strd.special b = false := by simp [Strd.special, e10, e32, e44]
                  have Hd : Hid (Dn = D ++ [b]) := hide (by rw [unhide Hsn, hsp]; rfl)
                  have Hnn : Hid (Nn = n) := hide (by rw [unhide Hcn, hsp]; rfl)
                  have s1 : ¬ 9223372036854775807 < List.length D + 1 := by omega
                  go_wp2
                  go_meet
                  exact ⟨by rw [unhide Hd]; exact congrArg Value.string (bytes_ext (by simp)), by rw [unhide Hnn], Below.refl _ _⟩
          case rest =>
            obtain ⟨rfl, rfl, hbd⟩ := hcut
            have hbrd := below_t hbr hbd
            have hBd := below_t hB7 hbrd
            by_cases hlast : i + 1 = S.length
            · have hlI : ((i : Int) + 1 == (S.length : Int)) = true := by rw [beq_iff_eq]; omega
              have hDl : Dn.length ≤ 4000 := by
                rw [unhide Hsn, List.length_append]
                have := one_len c b hc6
                split <;> simp <;> omega
              have hDS : Dn = Strd.dress cs S := by rw [← unhide HDn, hlast, List.take_length]
              have hasm := Assemble_c (bstr Dn) wc (by rw [bstr_size]; omega) (Nat.le_trans h11 hBd.size) ((unhide HT).below hBd)
              rw [bstr_list, hDS, unhide HD cs (unhide HcS) (by rw [← hDS]; exact hDl), ← hDS] at hasm
              have Hasm := hide hasm
              clear hasm hDS hlast
              have Hi8 := hide (bbox hbrd (unhide Hib7))
              go_wp2_with fail
              refine (unhide Hasm).mono ?_
              rintro e w8 ⟨rfl, hb8⟩
              have y0 := box_cell (bbox hb8 (unhide Hi8)) 0
              have y1 := box_cell (bbox hb8 (unhide Hi8)) 1
              simp only [List.getElem?_toArray, List.getElem?_cons_zero, List.getElem?_cons_succ] at y0 y1
              have hlq := lt_of_box (bbox hb8 (unhide Hi8))
              have hfin := below_t hBd (below_t hb8 (below_a w8 (.cells #[.int .i64 0, .string (bstr IB)] 30)))
              go_wp2
              go_ret
              exact ⟨rfl, hfin⟩
            · have hlI : ((i : Int) + 1 == (S.length : Int)) = false := by rw [beq_eq_false_iff_ne]; omega
              go_wp2
              go_roundw
              case rel => exact ⟨i + 1, by omega, by rw [unhide HDn], by rw [unhide HNn], by go_num, hbrd⟩
              case measure => simp [intOf]; omega
      · have h39i : ¬ (D.length : Int) < 3900 := by omega
        go_wp2
        go_ret
        exact ⟨rfl, below_t hB7 hbr⟩
    · have hltI : ¬ (i : Int) < (S.length : Int) := by omega
      go_wp2
      go_ret
      exact ⟨rfl, below_t hB7 hbr⟩
end Go.Proofs.YtegiloiojloaoaaDoor
