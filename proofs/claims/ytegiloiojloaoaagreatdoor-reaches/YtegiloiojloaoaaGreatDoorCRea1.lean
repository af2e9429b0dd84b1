/- The contracts of striderkeep.word, leads and find. -/
import Derived.Test.YtegiloiojloaoaaGreatDoorCNms
import Derived.Test.YtegiloiojloaoaaGreatDoorCLaw1
set_option linter.unusedVariables false
set_option linter.unusedSimpArgs false
namespace Go.Proofs.YtegiloiojloaoaaGreatDoor
open Go.RowKit Go.Shelf Go.Sort Go.Maps

theorem wAt_rng (b : Strd.Bs) (k : Nat) : 0 ≤ Strd.wAt b k ∧ Strd.wAt b k ≤ 65535 := by
  unfold Strd.wAt
  have h1 := (b.getD k 0).toNat_lt
  have h2 := (b.getD (k + 1) 0).toNat_lt
  omega
set_option maxHeartbeats 1000000 in
theorem word_k (b : Strd.Bs) (a : Nat) (w : World) (hl : b.length ≤ 2 ^ 40) (h : a + 2 ≤ b.length) :
    Calls Tryz.prog 34 #[.string (bstr b), .int .i64 (a : Int)] w fun e w' => e = .returned (.int .i64 (Strd.wAt b a)) ∧ Below w.heap.size w w' := by
  generalize hX : Strd.wAt b a = X
  unfold Strd.wAt at hX
  have g0 : b[a]? = some (b.getD a 0) := by rw [List.getD_eq_getElem?_getD, List.getElem?_eq_getElem (by omega)]; rfl
  have g1 : b[a + 1]? = some (b.getD (a + 1) 0) := by rw [List.getD_eq_getElem?_getD, List.getElem?_eq_getElem (by omega)]; rfl
  have e0 := bstr_get g0
  have e1 := bstr_get g1
  have r0 := (b.getD a 0).toNat_lt
  have r1 := (b.getD (a + 1) 0).toNat_lt
  generalize b.getD a 0 = c0 at *
  generalize b.getD (a + 1) 0 = c1 at *
  have HX := hide hX
  have ha : (a : Int) < (b.length : Int) := by omega
  have ha1 : (a : Int) + 1 < (b.length : Int) := by omega
  have hw1 : IntKind.i64.wrap ((a : Int) + 1) = (a : Int) + 1 := IntWalk.i64_in _ (by omega)
  clear hX g0 g1
  go_enter Tryz.func34, Tryz.ntmps34
  go_wp2
  go_region
  all_goals go_wp2
  all_goals go_ret
  all_goals exact ⟨by rw [← unhide HX]; rfl, below_d (Below.refl _ _)⟩
theorem names_at {w : World} {base : Nat} {v : Value} {l : List (Strd.Bs × Int)} (h : NamesAt base w v l) (k : Nat) (hk : k < l.length) : ∃ g cap, v = .slice (some ⟨g, 0, none⟩) l.length cap ∧ g < w.heap.size ∧ w.cell? ⟨g, k * 2, none⟩ = some (.string (bstr l[k].1)) ∧ w.cell? ⟨g, k * 2 + 1, none⟩ = some (.int .i64 l[k].2) := by
  have key : ∀ (l : List (Strd.Bs × Int)) (k : Nat) (hk : k < l.length), (nameCells l)[k * 2]? = some (.string (bstr l[k].1)) ∧ (nameCells l)[k * 2 + 1]? = some (.int .i64 l[k].2) := by
    intro l
    induction l with
    | nil => intro k hk; cases hk
    | cons p l ih =>
      intro k hk
      cases k with
      | zero => exact ⟨rfl, rfl⟩
      | succ k =>
        have := ih k (by simpa using hk)
        have e : nameCells (p :: l) = [Value.string (bstr p.1), .int .i64 p.2] ++ nameCells l := rfl
        rw [e, List.getElem?_append_right (by simp; omega), List.getElem?_append_right (by simp; omega)]
        simpa [show (k + 1) * 2 - 2 = k * 2 by omega, show (k + 1) * 2 + 1 - 2 = k * 2 + 1 by omega] using this
  rcases h.2 with ⟨rfl, h0⟩ | ⟨g, cap, cur, rfl, hb, hx, h1, h2, h3, h4⟩
  · omega
  · refine ⟨g, cap, rfl, lt_of_box hx, ?_, ?_⟩
    · have h5 := (key l k hk).1
      rw [← h4, List.getElem?_take, if_pos (by omega), Array.getElem?_toList] at h5
      rw [box_cell hx]; exact h5
    · have h5 := (key l k hk).2
      rw [← h4, List.getElem?_take, if_pos (by omega), Array.getElem?_toList] at h5
      rw [box_cell hx]; exact h5
def findName (l : List (Strd.Bs × Int)) (n : Strd.Bs) : Option Int := (l.find? fun p => p.1 == n).map (·.2)
set_option maxHeartbeats 1000000 in
theorem find_k (l : List (Strd.Bs × Int)) (n : Strd.Bs) (base : Nat) (v : Value) (w : World) (hN : NamesAt base w v l) (hl : l.length ≤ 2 ^ 20) :
    Calls Tryz.prog 21 #[v, .string (bstr n)] w fun e w' => e = .returned (.tuple #[.int .i64 ((findName l n).getD 0), .bool (findName l n).isSome]) ∧ w' = w := by
  obtain ⟨p, cap, rfl⟩ := own_shape hN
  generalize hX : findName l n = X
  unfold findName at hX
  have HX := hide hX
  have HN := hide hN
  clear hX hN
  go_enter Tryz.func21, Tryz.ntmps21
  go_wp2
  go_loop [6] (fun c => ∃ k : Nat, k ≤ l.length ∧ c = .int .i64 k ∧ ∀ j (hj : j < k) (h : j < l.length), l[j].1 ≠ n) (fun c => l.length - (intOf c).toNat)
  case atStart => exact ⟨0, by omega, rfl, fun j hj => by omega⟩
  case round =>
    obtain ⟨k, hk, rfl, hno⟩ := hrel
    have Hno := hide hno
    clear hno
    by_cases hlt : k < l.length
    · have hltI : (k : Int) < (l.length : Int) := by omega
      obtain ⟨g, cap', hv, hg, c0, c1⟩ := names_at (unhide HN) k hlt
      simp only [Value.slice.injEq] at hv
      obtain ⟨hp, _, _⟩ := hv
      subst hp
      have Hk : Hid (l[k] = (l[k].1, l[k].2)) := hide rfl
      by_cases e : l[k].1 = n
      · have Hfin : Hid (X = some l[k].2) := hide (by
          rw [← unhide HX]
          have : l.find? (fun p => p.1 == n) = some l[k] := by
            rw [List.find?_eq_some_iff_getElem]
            exact ⟨by simpa using e, k, hlt, rfl, fun j hj => by simpa using unhide Hno j hj (by omega)⟩
          rw [this]; rfl)
        have hwb : (l[k].1 == n) = true := by simpa using e
        generalize l[k].2 = pl at *
        generalize l[k].1 = nm at *
        clear Hk e
        go_wp2
        refine bodyPost_ret (v := .tuple #[.int .i64 pl, .bool true]) (by simp [results, Tryz.results21]) rfl ?_
        exact ⟨by rw [unhide Hfin]; rfl, rfl⟩
      · have hwb : (l[k].1 == n) = false := by simpa using e
        have Hno' : Hid (∀ j (hj : j < k + 1) (h : j < l.length), l[j].1 ≠ n) := hide (fun j hj h => by
          by_cases ej : j = k
          · subst ej; exact e
          · exact unhide Hno j (by omega) h)
        generalize l[k].2 = pl at *
        generalize l[k].1 = nm at *
        clear Hk e
        go_wp2
        go_round
        case rel => exact ⟨k + 1, by omega, by go_num, unhide Hno'⟩
        case measure => simp [intOf]; omega
    · have hltI : ¬ (k : Int) < (l.length : Int) := by omega
      have Hfin : Hid (X = none) := hide (by
        rw [← unhide HX]
        have : l.find? (fun p => p.1 == n) = none := by
          rw [List.find?_eq_none]
          intro p hp
          obtain ⟨j, hj, rfl⟩ := List.getElem_of_mem hp
          simpa using unhide Hno j (by omega) hj
        rw [this]; rfl)
      go_wp2
      refine bodyPost_ret (v := .tuple #[.int .i64 0, .bool false]) (by simp [results, Tryz.results21]) rfl ?_
      exact ⟨by rw [unhide Hfin]; rfl, rfl⟩
end Go.Proofs.YtegiloiojloaoaaGreatDoor

set_option linter.unusedVariables false
set_option linter.unusedSimpArgs false
namespace Go.Proofs.YtegiloiojloaoaaGreatDoor
open Go.RowKit Go.Shelf Go.Sort Go.Maps

/-- What leads answers, by its cases. -/
def LeadCase (n w d w4 w6 a X : Int) : Prop :=
  (n = 2 ∧ w / 4096 = 6 ∧ d = w % 256 ∧ 127 < d ∧ X = a + 2 + d - 256) ∨
  (n = 2 ∧ w / 4096 = 6 ∧ d = w % 256 ∧ ¬ 127 < d ∧ 0 < d ∧ X = a + 2 + d) ∨
  (n = 4 ∧ (w = 0x4ef8 ∨ w = 0x4eb8) ∧ X = d) ∨
  (n = 4 ∧ w ≠ 0x4ef8 ∧ w ≠ 0x4eb8 ∧ w / 4096 = 6 ∧ w % 256 = 0 ∧ 32767 < d ∧ X = a + 2 + d - 65536) ∨
  (n = 4 ∧ w ≠ 0x4ef8 ∧ w ≠ 0x4eb8 ∧ w / 4096 = 6 ∧ w % 256 = 0 ∧ ¬ 32767 < d ∧ X = a + 2 + d) ∨
  (n = 6 ∧ (w = 0x4ef9 ∨ w = 0x4eb9) ∧ X = 65536 * d + w4) ∨
  (n = 8 ∧ w / 4096 = 6 ∧ w % 256 = 6 ∧ d = 0x4ef9 ∧ X = 65536 * w4 + w6)
theorem lead_case (b : Strd.Bs) (a n : Int) (h : Strd.leads b a n ≠ -1) : 0 ≤ a ∧ 2 ≤ n ∧ a + n ≤ b.length ∧ (n = 2 ∨ n = 4 ∨ n = 6 ∨ n = 8) ∧ LeadCase n (Strd.wAt b a.toNat) (if 4 ≤ n then Strd.wAt b (a.toNat + 2) else Strd.wAt b a.toNat % 256) (Strd.wAt b (a.toNat + 4)) (Strd.wAt b (a.toNat + 6)) a (Strd.leads b a n) := by
  generalize hX : Strd.leads b a n = X at *
  unfold Strd.leads at hX
  split at hX
  · exact (h hX.symm).elim
  rename_i hr
  simp only at hX
  have hr' : 0 ≤ a ∧ 2 ≤ n ∧ a + n ≤ b.length := by omega
  refine ⟨hr'.1, hr'.2.1, hr'.2.2, ?_⟩
  generalize hw : Strd.wAt b a.toNat = w at *
  generalize Strd.wAt b (a.toNat + 2) = w2 at *
  generalize Strd.wAt b (a.toNat + 4) = w4 at *
  generalize Strd.wAt b (a.toNat + 6) = w6 at *
  generalize hd : (if 4 ≤ n then w2 else w % 256) = d at *
  have hd2 : n = 2 → d = w % 256 := fun e => by rw [← hd, if_neg (by omega)]
  unfold LeadCase
  split at hX
  · rename_i c; have := hd2 c.1; exact ⟨by omega, .inl ⟨c.1, c.2.1, this, c.2.2, hX.symm⟩⟩
  split at hX
  · rename_i c1 c; have := hd2 c.1; exact ⟨by omega, .inr (.inl ⟨c.1, c.2.1, this, by omega, c.2.2, hX.symm⟩)⟩
  split at hX
  · rename_i c1 c2 c; exact ⟨by omega, .inr (.inr (.inl ⟨c.1, c.2, hX.symm⟩))⟩
  split at hX
  · rename_i c1 c2 c3 c; exact ⟨by omega, .inr (.inr (.inr (.inl ⟨c.1, by omega, by omega, c.2.1, c.2.2.1, c.2.2.2, hX.symm⟩)))⟩
  split at hX
  · rename_i c1 c2 c3 c4 c; exact ⟨by omega, .inr (.inr (.inr (.inr (.inl ⟨c.1, by omega, by omega, c.2.1, c.2.2, by omega, hX.symm⟩))))⟩
  split at hX
  · rename_i c; exact ⟨by omega, .inr (.inr (.inr (.inr (.inr (.inl ⟨c.1, c.2, hX.symm⟩)))))⟩
  split at hX
  · rename_i c; exact ⟨by omega, .inr (.inr (.inr (.inr (.inr (.inr ⟨c.1, c.2.1, c.2.2.1, c.2.2.2, hX.symm⟩)))))⟩
  exact (h hX.symm).elim
set_option maxRecDepth 100000 in
set_option maxHeartbeats 4000000 in
theorem leads_c (b : Strd.Bs) (a n : Int) (w : World) (hl : b.length ≤ 2 ^ 40) (h : Strd.leads b a n ≠ -1) :
    Calls Tryz.prog 22 #[.string (bstr b), .int .i64 a, .int .i64 n] w fun e w' => e = .returned (.int .i64 (Strd.leads b a n)) ∧ Below w.heap.size w w' := by
  obtain ⟨ha, hn2, hlen, hn, hc⟩ := lead_case b a n h
  generalize Strd.leads b a n = X at *
  obtain ⟨k, rfl⟩ : ∃ k : Nat, a = (k : Int) := ⟨a.toNat, by omega⟩
  rw [Int.toNat_natCast] at hc
  have hr0 := wAt_rng b k
  have hr2 := wAt_rng b (k + 2)
  have hr4 := wAt_rng b (k + 4)
  have hr6 := wAt_rng b (k + 6)
  have C0 := hide (fun W => word_k b k W hl)
  have C2 := hide (fun W => word_k b (k + 2) W hl)
  have C4 := hide (fun W => word_k b (k + 4) W hl)
  have C6 := hide (fun W => word_k b (k + 6) W hl)
  generalize Strd.wAt b k = w0 at *
  generalize Strd.wAt b (k + 2) = w2 at *
  generalize Strd.wAt b (k + 4) = w4 at *
  generalize Strd.wAt b (k + 6) = w6 at *
  have s1 : IntKind.i64.wrap ((k : Int) + 2) = (k : Int) + 2 := IntWalk.i64_in _ (by omega)
  have s2 : IntKind.i64.wrap ((k : Int) + 4) = (k : Int) + 4 := IntWalk.i64_in _ (by omega)
  have s3 : IntKind.i64.wrap ((k : Int) + 6) = (k : Int) + 6 := IntWalk.i64_in _ (by omega)
  have hnot : ¬ (k : Int) < 0 := by omega
  rcases hn with rfl | rfl | rfl | rfl
  · have hX : w0 / 4096 = 6 ∧ 0 < w0 % 256 ∧ X = (if 127 < w0 % 256 then (k : Int) + 2 + w0 % 256 - 256 else (k : Int) + 2 + w0 % 256) := by
      unfold LeadCase at hc
      simp at hc
      rcases hc with ⟨h1, h2, h3⟩ | ⟨h1, h2, h3, h4⟩
      · exact ⟨h1, by omega, by rw [if_pos h2]; exact h3⟩
      · exact ⟨h1, h3, by rw [if_neg (by omega)]; exact h4⟩
    obtain ⟨h6, hd0, hX⟩ := hX
    clear hc h
    have hgt : ¬ ((b.length : Int) < (k : Int) + 2) := by omega
    generalize hd : w0 % 256 = d at *
    have hdr : d ≤ 255 := by omega
    have t1 : IntKind.i64.wrap ((k : Int) + 2 + d) = (k : Int) + 2 + d := IntWalk.i64_in _ (by omega)
    have t2 : IntKind.i64.wrap ((k : Int) + 2 + d - 256) = (k : Int) + 2 + d - 256 := IntWalk.i64_in _ (by omega)
    by_cases h127 : 127 < d
    · rw [if_pos h127] at hX
      have HX := hide hX
      clear hX
      go_enter Tryz.func22, Tryz.ntmps22
      go_wp2_with fail
      refine (unhide C0 _ (by omega)).mono ?_
      rintro e w1 ⟨rfl, hb1⟩
      go_wp2
      go_ret
      exact ⟨by rw [unhide HX]; rfl, hb1⟩
    · rw [if_neg h127] at hX
      have HX := hide hX
      clear hX
      go_enter Tryz.func22, Tryz.ntmps22
      go_wp2_with fail
      refine (unhide C0 _ (by omega)).mono ?_
      rintro e w1 ⟨rfl, hb1⟩
      go_wp2
      go_ret
      exact ⟨by rw [unhide HX]; rfl, hb1⟩
  · have hgt : ¬ ((b.length : Int) < (k : Int) + 4) := by omega
    have key : ((w0 = 0x4ef8 ∨ w0 = 0x4eb8) ∧ X = w2) ∨ (w0 ≠ 0x4ef8 ∧ w0 ≠ 0x4eb8 ∧ w0 / 4096 = 6 ∧ w0 % 256 = 0 ∧ X = (if 32767 < w2 then (k : Int) + 2 + w2 - 65536 else (k : Int) + 2 + w2)) := by
      unfold LeadCase at hc
      simp at hc
      rcases hc with h1 | ⟨h1, h2, h3, h4, h5, h6⟩ | ⟨h1, h2, h3, h4, h5, h6⟩
      · exact .inl h1
      · exact .inr ⟨h1, h2, h3, h4, by rw [if_pos h5]; exact h6⟩
      · exact .inr ⟨h1, h2, h3, h4, by rw [if_neg (by omega)]; exact h6⟩
    clear hc h
    have t1 : IntKind.i64.wrap ((k : Int) + 2 + w2) = (k : Int) + 2 + w2 := IntWalk.i64_in _ (by omega)
    have t2 : IntKind.i64.wrap ((k : Int) + 2 + w2 - 65536) = (k : Int) + 2 + w2 - 65536 := IntWalk.i64_in _ (by omega)
    rcases key with ⟨hw, hX⟩ | ⟨n1, n2, h6, h0, hX⟩
    · have HX := hide hX
      clear hX
      rcases hw with rfl | rfl
      all_goals
        go_enter Tryz.func22, Tryz.ntmps22
        go_wp2_with fail
        refine (unhide C0 _ (by omega)).mono ?_
        rintro e w1 ⟨rfl, hb1⟩
        go_wp2_with fail
        refine (unhide C2 _ (by omega)).mono ?_
        rintro e w3 ⟨rfl, hb3⟩
        have hB3 := below_t hb1 hb3
        go_wp2
        go_ret
        exact ⟨by rw [unhide HX]; rfl, hB3⟩
    · have b1 : (w0 == 20216) = false := by rw [beq_eq_false_iff_ne]; exact n1
      have b2 : (w0 == 20152) = false := by rw [beq_eq_false_iff_ne]; exact n2
      have b3 : ¬ w0 = 20216 := n1
      have b4 : ¬ w0 = 20152 := n2
      clear n1 n2
      by_cases h3 : 32767 < w2
      · rw [if_pos h3] at hX
        have HX := hide hX
        clear hX
        go_enter Tryz.func22, Tryz.ntmps22
        go_wp2_with fail
        refine (unhide C0 _ (by omega)).mono ?_
        rintro e w1 ⟨rfl, hb1⟩
        go_wp2_with fail
        refine (unhide C2 _ (by omega)).mono ?_
        rintro e w3 ⟨rfl, hb3⟩
        have hB3 := below_t hb1 hb3
        go_wp2
        go_ret
        exact ⟨by rw [unhide HX]; rfl, hB3⟩
      · rw [if_neg h3] at hX
        have HX := hide hX
        clear hX
        go_enter Tryz.func22, Tryz.ntmps22
        go_wp2_with fail
        refine (unhide C0 _ (by omega)).mono ?_
        rintro e w1 ⟨rfl, hb1⟩
        go_wp2_with fail
        refine (unhide C2 _ (by omega)).mono ?_
        rintro e w3 ⟨rfl, hb3⟩
        have hB3 := below_t hb1 hb3
        go_wp2
        go_ret
        exact ⟨by rw [unhide HX]; rfl, hB3⟩
  · have hgt : ¬ ((b.length : Int) < (k : Int) + 6) := by omega
    have key : (w0 = 0x4ef9 ∨ w0 = 0x4eb9) ∧ X = 65536 * w2 + w4 := by
      unfold LeadCase at hc
      simpa using hc
    clear hc h
    obtain ⟨hw, hX⟩ := key
    have t1 : IntKind.i64.wrap (65536 * w2) = 65536 * w2 := IntWalk.i64_in _ (by omega)
    have t2 : IntKind.i64.wrap (65536 * w2 + w4) = 65536 * w2 + w4 := IntWalk.i64_in _ (by omega)
    have HX := hide hX
    clear hX
    rcases hw with rfl | rfl
    all_goals
      go_enter Tryz.func22, Tryz.ntmps22
      go_wp2_with fail
      refine (unhide C0 _ (by omega)).mono ?_
      rintro e w1 ⟨rfl, hb1⟩
      go_wp2_with fail
      refine (unhide C2 _ (by omega)).mono ?_
      rintro e w3 ⟨rfl, hb3⟩
      have hB3 := below_t hb1 hb3
      go_wp2_with fail
      refine (unhide C4 _ (by omega)).mono ?_
      rintro e w5 ⟨rfl, hb5⟩
      have hB5 := below_t hB3 hb5
      go_wp2
      go_ret
      exact ⟨by rw [unhide HX]; rfl, hB5⟩
  · have hgt : ¬ ((b.length : Int) < (k : Int) + 8) := by omega
    have key : w0 / 4096 = 6 ∧ w0 % 256 = 6 ∧ w2 = 0x4ef9 ∧ X = 65536 * w4 + w6 := by
      unfold LeadCase at hc
      simpa using hc
    clear hc h
    obtain ⟨h6, h7, rfl, hX⟩ := key
    have t1 : IntKind.i64.wrap (65536 * w4) = 65536 * w4 := IntWalk.i64_in _ (by omega)
    have t2 : IntKind.i64.wrap (65536 * w4 + w6) = 65536 * w4 + w6 := IntWalk.i64_in _ (by omega)
    have HX := hide hX
    clear hX
    go_enter Tryz.func22, Tryz.ntmps22
    go_wp2_with fail
    refine (unhide C0 _ (by omega)).mono ?_
    rintro e w1 ⟨rfl, hb1⟩
    go_wp2_with fail
    refine (unhide C2 _ (by omega)).mono ?_
    rintro e w3 ⟨rfl, hb3⟩
    have hB3 := below_t hb1 hb3
    go_wp2_with fail
    refine (unhide C4 _ (by omega)).mono ?_
    rintro e w5 ⟨rfl, hb5⟩
    have hB5 := below_t hB3 hb5
    go_wp2_with fail
    refine (unhide C6 _ (by omega)).mono ?_
    rintro e w7 ⟨rfl, hb7⟩
    have hB7 := below_t hB5 hb7
    go_wp2
    go_ret
    exact ⟨by rw [unhide HX]; rfl, hB7⟩
end Go.Proofs.YtegiloiojloaoaaGreatDoor

set_option linter.unusedVariables false
set_option linter.unusedSimpArgs false
namespace Go.Proofs.YtegiloiojloaoaaGreatDoor
open Go.RowKit Go.Shelf Go.Sort Go.Maps

theorem names_len (lines : List Strd.Line) (st : List Int) : (namesOf lines st).length = (labelsOf lines).length := by
  unfold namesOf
  rw [List.length_map, (List.mergeSort_perm _ _).length_eq]
theorem names_find (lines : List Strd.Line) (st : List Int) (n : Strd.Bs) (h : n ∈ labelsOf lines) : findName (namesOf lines st) n = some (Strd.placeOf lines st n) := by
  unfold findName
  have hm : (n, Strd.placeOf lines st n) ∈ namesOf lines st := by
    unfold namesOf
    exact List.mem_map.2 ⟨n, (List.mergeSort_perm _ _).mem_iff.2 h, rfl⟩
  cases e : (namesOf lines st).find? (fun p => p.1 == n) with
  | none =>
    have := List.find?_eq_none.1 e _ hm
    simp at this
  | some p =>
    have h1 := List.find?_some e
    have h2 := List.mem_of_find?_eq_some e
    unfold namesOf at h2
    obtain ⟨x, _, rfl⟩ := List.mem_map.1 h2
    have : x = n := by simpa using h1
    subst this
    rfl
theorem labels_app (a b : List Strd.Line) : labelsOf (a ++ b) = labelsOf a ++ labelsOf b := by simp [labelsOf]
theorem six_labels {ms : List Strd.ML} (h : Strd.MsOk ms) : ms.countP (fun m => decide (0 ≤ m.label)) = 6 := by
  rw [List.countP_eq_length_filter]
  have hp : ((ms.filter fun m => decide (0 ≤ m.label)).map (·.label)).Perm ((List.range 6).map fun (j : Nat) => (j : Int)) := by
    refine (List.perm_ext_iff_of_nodup ?_ ?_).2 fun x => ?_
    · rw [List.Nodup, List.pairwise_map, List.pairwise_filter]
      refine h.fresh.imp fun {a b} hab ha hb e => ?_
      have ha' : 0 ≤ a.label := by simpa using ha
      have hb' : 0 ≤ b.label := by simpa using hb
      have := hab ha' hb'
      omega
    · decide
    · rw [List.mem_map, List.mem_map]
      constructor
      · rintro ⟨m, hm, rfl⟩
        rw [List.mem_filter] at hm
        have h1 := (h.ok m hm.1).label
        have h2 : 0 ≤ m.label := by simpa using hm.2
        exact ⟨m.label.toNat, by rw [List.mem_range]; omega, by omega⟩
      · rintro ⟨j, hj, rfl⟩
        rw [List.mem_range] at hj
        obtain ⟨m, hm, e⟩ := h.all j hj
        exact ⟨m, by rw [List.mem_filter]; exact ⟨hm, by simp [e]⟩, e⟩
  have := hp.length_eq
  rw [List.length_map, List.length_map, List.length_range] at this
  exact this
theorem labels_lines : ∀ (ms : List Strd.ML) (n : Nat), (∀ m ∈ ms, Strd.MLOk m) → (labelsOf (Strd.rLines n ms)).length = ms.countP (fun m => decide (0 ≤ m.label)) + 2 * Strd.jumpsIn ms
  | [], _, _ => rfl
  | m :: ms, n, h => by
    have ih := labels_lines ms (Strd.rNext n m) (fun x hx => h x (by simp [hx]))
    have hm := h m (by simp)
    unfold Strd.rLines
    rw [labels_app, List.length_append, ih]
    unfold Strd.jumpsIn at *
    rw [List.countP_cons, List.countP_cons]
    have h1 : (labelsOf (Strd.rLines1 n m)).length = (if decide (0 ≤ m.label) = true then 1 else 0) + 2 * (if decide (0 ≤ m.word) = true then 1 else 0) := by
      unfold Strd.rLines1
      rw [labels_app, List.length_append]
      by_cases hl : m.label < 0 <;> by_cases hw : m.word < 0
      · have a : ¬ 0 ≤ m.label := by omega
        have b : ¬ 0 ≤ m.word := by omega
        simp [hl, hw, a, b, labelsOf]
      · have a : ¬ 0 ≤ m.label := by omega
        have b : 0 ≤ m.word := by omega
        simp [hl, hw, a, b, labelsOf, Strd.jn, Strd.kn]
      · have a : 0 ≤ m.label := by omega
        have b : ¬ 0 ≤ m.word := by omega
        have hn := (Strd.label_name m hm hl).2.2.1
        simp [hl, hw, a, b, labelsOf, hn]
      · have a : 0 ≤ m.label := by omega
        have b : 0 ≤ m.word := by omega
        have hn := (Strd.label_name m hm hl).2.2.1
        simp [hl, hw, a, b, labelsOf, hn, Strd.jn, Strd.kn]
    omega
theorem r_labels_len {ms : List Strd.ML} (h : Strd.MsEven ms) : (labelsOf (Strd.RL ms)).length = 2 * Strd.jumpsIn ms + 6 := by
  unfold Strd.RL
  rw [labels_app, List.length_append, labels_lines ms 0 h.ok.ok, six_labels h.ok]
  have : labelsOf [Strd.emptyLine] = [] := rfl
  rw [this, List.length_nil]
  omega
theorem r_layOut {ms : List Strd.ML} (h : Strd.MsEven ms) : layOutOf (Strd.rSrc ms) = ((Strd.RF ms, Strd.starts 0 (Strd.RL ms) (Strd.RF ms)), 0, 0) ∧ namesAns (Strd.rSrc ms) = namesOf (Strd.RL ms) (Strd.starts 0 (Strd.RL ms) (Strd.RF ms)) := by
  obtain ⟨b, e⟩ := Strd.r_source ms h
  have h1 : layOutOf (Strd.rSrc ms) = ((Strd.RF ms, Strd.starts 0 (Strd.RL ms) (Strd.RF ms)), 0, 0) := by
    unfold layOutOf
    rw [e]
    simp only [ne_eq, not_true_eq_false, if_false]
    exact Strd.r_lay h
  refine ⟨h1, ?_⟩
  unfold namesAns
  rw [h1, e]
  simp
def rNames (ms : List Strd.ML) : List (Strd.Bs × Int) := namesOf (Strd.RL ms) (Strd.starts 0 (Strd.RL ms) (Strd.RF ms))
theorem r_find {ms : List Strd.ML} (n : Strd.Bs) (hn : n ≠ []) (h : ∃ l ∈ Strd.RL ms, l.label = n) : findName (rNames ms) n = some (Strd.rPlace ms n) :=
  names_find _ _ _ ((mem_labels _ _).2 ⟨hn, h⟩)
theorem r_place_rng {ms : List Strd.ML} (h : Strd.MsEven ms) (n : Strd.Bs) (hm : ∃ l ∈ Strd.RL ms, l.label = n) : 0 ≤ Strd.rPlace ms n ∧ Strd.rPlace ms n ≤ 4194304 := by
  obtain ⟨j, hj⟩ := Strd.labelAt_some hm
  have hS := (Strd.RL_simp ms h).1
  have hs := Strd.lay_settled hS
  have hlt := Strd.labelAt_lt' _ _ _ hj
  have := Strd.P_facts hS hs.len hs.rng j (by omega)
  have hl := hS.len
  unfold Strd.rPlace Strd.placeOf
  rw [hj]
  have e : (Strd.starts 0 (Strd.RL ms) (Strd.RF ms)).getD ((some j).getD 0) 0 = Strd.P (Strd.RL ms) (Strd.layForms 0 (Strd.RL ms)) j := rfl
  rw [e]
  have : (1024 : Int) * j ≤ 1024 * 4001 := by omega
  omega
theorem r_img_len {ms : List Strd.ML} (h : Strd.MsEven ms) : (Strd.imgOf (Strd.RL ms) (Strd.RF ms)).length ≤ 2 ^ 40 := by
  have hS := (Strd.RL_simp ms h).1
  have hs := Strd.lay_settled hS
  have h1 := Strd.image_len hS hs.len hs.rng (Strd.RF_far h)
  have h2 := Strd.P_facts hS hs.len hs.rng (Strd.RL ms).length (Nat.le_refl _)
  have hl := hS.len
  have h3 : ((Strd.imgOf (Strd.RL ms) (Strd.RF ms)).length : Int) = Strd.P (Strd.RL ms) (Strd.layForms 0 (Strd.RL ms)) (Strd.RL ms).length := h1
  have : (1024 : Int) * (Strd.RL ms).length ≤ 1024 * 4001 := by omega
  omega
theorem rsrc_short {ms : List Strd.ML} (h : Strd.MsEven ms) (i : Nat) : (Strd.rSrc (ms.take i)).length ≤ 1280 := by
  have h1 := (Strd.r_len (ms.take i) 0 ⟨fun m hm => h.ok.ok m (List.mem_of_mem_take hm), fun m hm => h.even m (List.mem_of_mem_take hm), by rw [List.length_take]; have := h.ok.len; omega⟩).1
  have h2 : (ms.take i).length ≤ 40 := by rw [List.length_take]; have := h.ok.len; omega
  unfold Strd.rSrc
  omega
end Go.Proofs.YtegiloiojloaoaaGreatDoor
