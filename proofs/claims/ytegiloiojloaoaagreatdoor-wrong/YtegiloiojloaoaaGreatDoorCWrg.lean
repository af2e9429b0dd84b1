/- Where lines begin in a made source; Names at an error. -/
import Derived.Test.YtegiloiojloaoaaGreatDoorCSrce
set_option linter.unusedVariables false
set_option linter.unusedSimpArgs false
namespace Go.Proofs.YtegiloiojloaoaaGreatDoor
open Go.RowKit Go.Shelf Go.Sort Go.Maps

def posOf (ps : List (Strd.ML × Nat)) (k : Nat) : Nat := (Strd.srcOf (ps.take k)).length
theorem posOf_zero (ps : List (Strd.ML × Nat)) : posOf ps 0 = 0 := rfl
theorem posOf_end (ps : List (Strd.ML × Nat)) : posOf ps ps.length = (Strd.srcOf ps).length := by unfold posOf; rw [List.take_length]
theorem posOf_succ (ps : List (Strd.ML × Nat)) (n : Nat) (h : n < ps.length) : posOf ps (n + 1) = posOf ps n + ((ps[n].1.text ps[n].2).length + 1) := by
  unfold posOf
  rw [src_take ps n h]
  simp
theorem src_cut (ps : List (Strd.ML × Nat)) (k : Nat) : Strd.srcOf ps = Strd.srcOf (ps.take k) ++ Strd.srcOf (ps.drop k) := by
  rw [← Strd.src_app, List.take_append_drop]
theorem posOf_le (ps : List (Strd.ML × Nat)) (k : Nat) : posOf ps k ≤ (Strd.srcOf ps).length := by
  rw [src_cut ps k, List.length_append]; unfold posOf; omega
theorem src_at (ps : List (Strd.ML × Nat)) (ho : ∀ p ∈ ps, Strd.PairOk p) (n : Nat) (hn : n < ps.length) (i : Nat) (h1 : posOf ps n ≤ i) (h2 : i < posOf ps (n + 1)) : ∃ c, (Strd.srcOf ps)[i]? = some c ∧ (c = 10 ↔ i + 1 = posOf ps (n + 1)) := by
  have hp := posOf_succ ps n hn
  have h10 := Strd.ml_no10 ps[n].1 (ho _ (List.getElem_mem hn)).1 ps[n].2 (ho _ (List.getElem_mem hn)).2
  have e : Strd.srcOf ps = Strd.srcOf (ps.take n) ++ ((ps[n].1.text ps[n].2 ++ [10]) ++ Strd.srcOf (ps.drop (n + 1))) := by
    rw [src_cut ps (n + 1), src_take ps n hn, List.append_assoc]
  generalize ps[n].1.text ps[n].2 = T at *
  have hj : i - posOf ps n < (T ++ [10]).length := by rw [List.length_append, List.length_singleton]; omega
  have e2 : (Strd.srcOf ps)[i]? = (T ++ [10])[i - posOf ps n]? := by
    rw [e, List.getElem?_append_right (by exact h1), List.getElem?_append_left (by exact hj)]
    rfl
  rw [e2]
  by_cases hlt : i - posOf ps n < T.length
  · refine ⟨T[i - posOf ps n], by rw [List.getElem?_append_left hlt, List.getElem?_eq_getElem hlt], ?_⟩
    have := h10 _ (List.getElem_mem hlt)
    exact ⟨fun h => absurd h this, fun h => by omega⟩
  · have hq : i - posOf ps n = T.length := by rw [List.length_append, List.length_singleton] at hj; omega
    refine ⟨10, by rw [hq, List.getElem?_append_right (Nat.le_refl _), Nat.sub_self]; rfl, ?_⟩
    exact ⟨fun _ => by omega, fun _ => rfl⟩

set_option maxRecDepth 1000000 in
set_option maxHeartbeats 4000000 in
theorem Names_err (s : ByteArray) (w : World) (hs : s.size ≤ 2 ^ 20) (h11 : 11 ≤ w.heap.size) (hT : Tabs w) (he : (Strd.readSource s.data.toList).2.2 ≠ 0) :
    Calls Tryz.prog 13 #[.string s] w fun e w' => e = .returned (.tuple #[.slice none 0 0, .int .i64 (Strd.readSource s.data.toList).2.1, .int .i64 (Strd.readSource s.data.toList).2.2]) ∧ Below w.heap.size w w' := by
  have hA : layOutOf s.data.toList = (([], []), (Strd.readSource s.data.toList).2.1, (Strd.readSource s.data.toList).2.2) := by unfold layOutOf; rw [if_pos he]
  have cL := layOut_c s w hs h11 hT
  rw [hA] at cL
  generalize (Strd.readSource s.data.toList).2.1 = ln at *
  generalize (Strd.readSource s.data.toList).2.2 = er at *
  have CL := hide cL
  clear cL hA
  go_enter Tryz.func13, Tryz.ntmps13
  go_wp2_with fail
  refine (unhide CL).mono ?_
  rintro e w1 ⟨ps, rfl, ⟨o3, p3, n3, c3, m3, p4, n4, c4, p5, n5, c5, rfl⟩, -, hb1⟩
  have hb2 := below_a w1 (.cells #[.int .i64 o3, .slice p3 n3 c3, .map m3, .slice p4 n4 c4, .slice p5 n5 c5] 67)
  go_wp2
  refine bodyPost_ret (v := .tuple #[.slice none 0 0, .int .i64 (ln : Int), .int .i64 er]) (by simp [results, Tryz.results13]) rfl ?_
  exact ⟨rfl, below_t hb1 hb2⟩
end Go.Proofs.YtegiloiojloaoaaGreatDoor

set_option linter.unusedVariables false
set_option linter.unusedSimpArgs false
namespace Go.Proofs.YtegiloiojloaoaaGreatDoor
open Go.RowKit Go.Shelf Go.Sort Go.Maps

theorem bstr_get {S : Strd.Bs} {i : Nat} {c : UInt8} (h : S[i]? = some c) : ∀ h' : i < (bstr S).size, (bstr S)[i]'h' = c := fun h' => by
  have h2 : i < S.length := by rw [bstr_size] at h'; exact h'
  rw [List.getElem?_eq_getElem h2] at h
  have := Option.some.inj h
  rw [← this]
  rfl
theorem ten_eq (c : UInt8) : ((c.toNat : Int) == 10) = decide (c = 10) := by
  by_cases h : c = 10
  · subst h; rfl
  · have : c.toNat ≠ 10 := fun e => h (UInt8.toNat_inj.1 e)
    simp [h]
    omega
def badRow : Array Value := #[.string ⟨#[110, 111, 112, 112]⟩, .string ⟨#[110, 111, 112, 32, 49]⟩, .string ⟨#[109, 111, 118, 101, 113, 32, 100, 49]⟩, .string ⟨#[98, 114, 97]⟩, .string ⟨#[98, 114, 97, 46, 120, 32, 97]⟩, .string ⟨#[106, 109, 112, 46, 115, 32, 97]⟩, .string ⟨#[97, 32, 98, 58]⟩, .string ⟨#[49, 97, 58, 32, 110, 111, 112]⟩, .string ⟨#[109, 111, 118, 101, 32, 100, 49, 44, 100, 50, 50]⟩, .string ⟨#[100, 99, 46, 119, 32, 49, 44, 44, 50]⟩, .string ⟨#[100, 115, 32, 36, 103]⟩, .string ⟨#[255, 58, 32, 110, 111, 112]⟩, .string ⟨#[110, 111, 112, 58, 110, 111, 112, 58]⟩, .string ⟨#[109, 111, 118, 101, 113, 32, 49, 44, 100, 49]⟩, .string ⟨#[98, 114, 97, 32, 49, 50, 51, 52, 53, 54, 55, 56, 57]⟩]
theorem badRow_at : ∀ k, k < 15 → badRow[k]? = some (.string (bstr (Strd.badTexts.getD k []))) := by
  intro k hk
  have : k = 0 ∨ k = 1 ∨ k = 2 ∨ k = 3 ∨ k = 4 ∨ k = 5 ∨ k = 6 ∨ k = 7 ∨ k = 8 ∨ k = 9 ∨ k = 10 ∨ k = 11 ∨ k = 12 ∨ k = 13 ∨ k = 14 := by omega
  rcases this with rfl | rfl | rfl | rfl | rfl | rfl | rfl | rfl | rfl | rfl | rfl | rfl | rfl | rfl | rfl <;> rfl
theorem asm_err (s : Strd.Bs) (l : Nat) (e : Int) (h : (Strd.readSource s).2 = (l, e)) (he : e ≠ 0) : Strd.assemble s = ((0, []), l, e) := by
  have h1 : (Strd.readSource s).2.2 = e := by rw [h]
  have h2 : (Strd.readSource s).2.1 = l := by rw [h]
  unfold Strd.assemble
  simp only [h1, h2, ne_eq, he, not_false_eq_true, if_true]
theorem ItemsAt.below {w w' : World} {v : Value} {xs : List Strd.Item} (h : ItemsAt w v xs) (hb : Below w.heap.size w w') : ItemsAt w' v xs := by
  rcases h with h | ⟨b, off, cap, rfl, hbl, h⟩
  · exact .inl h
  · refine .inr ⟨b, off, cap, rfl, Nat.lt_of_lt_of_le hbl hb.size, fun i hi => ?_⟩
    obtain ⟨⟨c0, c1, c2, c3⟩, hr⟩ := h i hi
    exact ⟨⟨(hb.cell (p := ⟨b, off + i * 4, none⟩) hbl).trans c0, (hb.cell (p := ⟨b, off + i * 4 + 1, none⟩) hbl).trans c1, (hb.cell (p := ⟨b, off + i * 4 + 2, none⟩) hbl).trans c2, (hb.cell (p := ⟨b, off + i * 4 + 3, none⟩) hbl).trans c3⟩, hr⟩
/-- awake, made, source: what the laws begin with. -/
theorem MadeV.shape {base : Nat} {w : World} {cs : Array Value} {ms : List Strd.ML} (h : MadeV base w cs ms) : ∃ pr cr pl cl pw cw pt ct, cs = #[.slice pr ms.length cr, .slice pl ms.length cl, .slice pw ms.length cw, .slice pt ms.length ct, .int .i64 6] := by
  obtain ⟨vr, vl, vw, vt, rfl, hr, hl, hw, ht⟩ := h
  obtain ⟨pr, cr, rfl⟩ := own_shape hr
  obtain ⟨pl, cl, rfl⟩ := own_shape hl
  obtain ⟨pw, cw, rfl⟩ := own_shape hw
  obtain ⟨pt, ct, rfl⟩ := own_shape ht
  simp only [List.length_map]
  exact ⟨_, _, _, _, _, _, _, _, rfl⟩
theorem MadeV.below {base : Nat} {w w' : World} {cs : Array Value} {ms : List Strd.ML} (h : MadeV base w cs ms) (hb : Below w.heap.size w w') : MadeV base w' cs ms := by
  obtain ⟨vr, vl, vw, vt, rfl, hr, hl, hw, ht⟩ := h
  exact ⟨vr, vl, vw, vt, rfl, hr.below hb, hl.below hb, hw.below hb, ht.below hb⟩
set_option maxRecDepth 1000000 in
set_option maxHeartbeats 4000000 in
theorem Wrong_c (v : Value) (xs : List Strd.Item) (at' which : Int) (w : World) (hI : ItemsAt w v xs) (hx : xs.length ≤ 9223372036854775807) (ha : I64 at') (hwh : I64 which) (h11 : 11 ≤ w.heap.size) (hT : Tabs w) :
    Calls Tryz.prog 5 #[v, .int .i64 at', .int .i64 which] w fun e w' => e = .returned (.bool true) ∧ Below w.heap.size w w' := by
  have HT := hide hT
  have HI := hide hI
  obtain ⟨pv, cv, rfl⟩ := hI.shape
  clear hT hI
  go_enter Tryz.func5, Tryz.ntmps5
  go_wp2_with fail
  refine (awake_c w h11 (unhide HT)).mono ?_
  rintro e w1 ⟨rfl, hb1⟩
  go_wp2_with fail
  refine (made_c _ xs w1 ((unhide HI).below hb1) hx).mono ?_
  rintro e w2 ⟨cs, rfl, hV, hb2⟩
  have HV := hide hV
  obtain ⟨pr, cr, pl, cl, pw, cw, pt, ct, rfl⟩ := hV.shape
  have hM := Strd.made_msEven xs
  have hMlen := hM.ok.len
  generalize hms : Strd.made xs = ms at *
  have hb3 := below_a w2 (.cells #[.slice pr ms.length cr, .slice pl ms.length cl, .slice pw ms.length cw, .slice pt ms.length ct, .int .i64 6] 44)
  have Hbx := hide (box_new w2 (.cells #[.slice pr ms.length cr, .slice pl ms.length cl, .slice pw ms.length cw, .slice pt ms.length ct, .int .i64 6] 44))
  have Hms := hide hms
  have HM := hide hM
  clear hV hms hM
  go_upto_region 5 with fail
  have HV3 := hide ((unhide HV).below hb3)
  have hB3 := below_t hb1 (below_t hb2 hb3)
  generalize w2.alloc (.cells #[.slice pr ms.length cr, .slice pl ms.length cl, .slice pw ms.length cw, .slice pt ms.length ct, .int .i64 6] 44) = w3 at *
  generalize w2.heap.size = g at *
  have x0 := box_cell (unhide Hbx) 0
  have x1 := box_cell (unhide Hbx) 1
  have x2 := box_cell (unhide Hbx) 2
  have x3 := box_cell (unhide Hbx) 3
  have x4 := box_cell (unhide Hbx) 4
  simp only [List.getElem?_toArray, List.getElem?_cons_zero, List.getElem?_cons_succ] at x0 x1 x2 x3 x4
  have hlb := lt_of_box (unhide Hbx)
  clear hb2 hb3
  go_wp2_with fail
  refine (source_c ms (unhide HM).ok.ok hMlen [] (fun f hf => by cases hf) _ _ _ w3 (unhide HV3) (FormsAt.nil _) (by simp)).mono ?_
  rintro e w4 ⟨rfl, hb4⟩
  have Hps : Hid (Strd.pairs ms [] = Strd.plainPairs xs) := hide (by unfold Strd.plainPairs; rw [unhide Hms])
  rw [unhide Hps]
  have hpo := Strd.plain_ok xs
  have hpl : (Strd.plainPairs xs).length ≤ 40 := Strd.plain_len xs
  have hsl := Strd.src_len (Strd.plainPairs xs) (fun p hp => (hpo p hp).1)
  have Hwr := hide (Strd.wrong_read xs)
  have Htw := hide (Strd.twice_read xs)
  generalize hps : Strd.plainPairs xs = ps at *
  have Hat := hide (src_at ps hpo)
  have hend := posOf_end ps
  have Hle := hide (posOf_le ps)
  have Hcut := hide (src_cut ps)
  have Hpos : Hid (∀ k, posOf ps k = (Strd.srcOf (ps.take k)).length) := hide fun _ => rfl
  generalize Strd.srcOf ps = S at *
  have hSl : S.length ≤ 960 := by omega
  have hB4 := below_t hB3 hb4
  have Hend := hide hend
  clear hpo hsl x0 x1 x2 x3 x4 hps hend
  go_wp2_with fail
  go_loopw [10, 11] (fun c10 c11 wr => ∃ n i : Nat, n ≤ ps.length ∧ i ≤ S.length ∧ c10 = .int .i64 n ∧ c11 = .int .i64 i ∧ posOf ps n ≤ i ∧ (n < ps.length → i < posOf ps (n + 1)) ∧ wr = w4) (fun _ c _ => S.length - (intOf c).toNat)
  case atStart =>
    refine ⟨0, 0, by omega, by omega, rfl, rfl, by rw [posOf_zero]; omega, fun h => ?_, rfl⟩
    rw [posOf_succ ps 0 h]; omega
  case round =>
    obtain ⟨n, i, hn, hi, rfl, rfl, hp1, hp2, hwr⟩ := hrel
    by_cases hlt : i < S.length
    · have hnL : n < ps.length := by
        rcases Nat.lt_or_ge n ps.length with h | h
        · exact h
        · have : n = ps.length := by omega
          rw [this, unhide Hend] at hp1; omega
      obtain ⟨c, hc, hc10⟩ := unhide Hat n hnL i hp1 (hp2 hnL)
      have hltI : (i : Int) < (S.length : Int) := by omega
      have Hp2 := hide hp2
      have hget := bstr_get hc
      have hwi : IntKind.i64.wrap ((i : Int) + 1) = (i : Int) + 1 := IntWalk.i64_in _ (by omega)
      have hwn : IntKind.i64.wrap ((n : Int) + 1) = (n : Int) + 1 := IntWalk.i64_in _ (by omega)
      have Hc10 := hide hc10
      clear hp2 hc hc10
      by_cases hten : c = 10
      · have hcb : ((c.toNat : Int) == 10) = true := by rw [ten_eq]; simp [hten]
        have hpe := (unhide Hc10).1 hten
        have Hx : Hid (n + 1 < ps.length → i + 1 < posOf ps (n + 1 + 1)) := hide fun h => by rw [posOf_succ ps (n + 1) h]; omega
        clear hten
        go_wp2
        go_roundw
        case rel => exact ⟨n + 1, i + 1, by omega, by omega, by go_num, by go_num, by omega, unhide Hx, by first | exact hwr | trivial⟩
        case measure => simp [intOf]; omega
      · have hcb : ((c.toNat : Int) == 10) = false := by rw [ten_eq]; simp [hten]
        have hpe : ¬ i + 1 = posOf ps (n + 1) := fun h => hten ((unhide Hc10).2 h)
        have Hx : Hid (n < ps.length → i + 1 < posOf ps (n + 1)) := hide fun h => by have := unhide Hp2 h; omega
        clear hten
        go_wp2
        go_roundw
        case rel => exact ⟨n, i + 1, by omega, by omega, by go_num, by go_num, by omega, unhide Hx, by first | exact hwr | trivial⟩
        case measure => simp [intOf]; omega
    · obtain rfl : i = S.length := by omega
      obtain rfl : n = ps.length := by
        rcases Nat.lt_or_ge n ps.length with h | h
        · have h1 := hp2 h
          have h2 := unhide Hle (n + 1)
          omega
        · omega
      clear hp1 hp2
      obtain ⟨kk, hkk⟩ : ∃ q : Nat, Strd.pick at' ((ps.length : Int) + 1) = q := ⟨(Strd.pick at' ((ps.length : Int) + 1)).toNat, by have := Strd.pick_range at' ((ps.length : Int) + 1) (by omega); omega⟩
      have hkr := Strd.pick_range at' ((ps.length : Int) + 1) (by omega)
      rw [hkk] at hkr
      have hwl : IntKind.i64.wrap ((ps.length : Int) + 1) = (ps.length : Int) + 1 := IntWalk.i64_in _ (by omega)
      go_wp2_with fail
      refine (pick_c at' ((ps.length : Int) + 1) _ ha (by omega)).mono ?_
      rintro e w5 ⟨rfl, hw5⟩
      rw [hkk, hw5]
      clear hw5 w5 hkk hwr
      go_wp2_with fail
      go_loopw [13, 14] (fun c13 c14 wq => ∃ n i : Nat, n ≤ kk ∧ c13 = .int .i64 n ∧ c14 = .int .i64 i ∧ posOf ps n ≤ i ∧ (n < ps.length → i < posOf ps (n + 1)) ∧ (n < kk ∨ i = posOf ps n) ∧ wq = w4) (fun _ c _ => S.length - (intOf c).toNat)
      case atStart =>
        refine ⟨0, 0, by omega, rfl, rfl, by rw [posOf_zero]; omega, fun h => ?_, .inr (by rw [posOf_zero]), rfl⟩
        rw [posOf_succ ps 0 h]; omega
      case round =>
        obtain ⟨n, i, hn', rfl, rfl, hp1, hp2, hp3, hwq⟩ := hrel
        by_cases hlt2 : n < kk
        · have hnL : n < ps.length := by omega
          have hiS : i < S.length := by have h1 := hp2 hnL; have h2 := unhide Hle (n + 1); omega
          obtain ⟨c, hc, hc10⟩ := unhide Hat n hnL i hp1 (hp2 hnL)
          have hltI : (n : Int) < (kk : Int) := by omega
          have hltS : (i : Int) < (S.length : Int) := by omega
          have hget := bstr_get hc
          have hwi : IntKind.i64.wrap ((i : Int) + 1) = (i : Int) + 1 := IntWalk.i64_in _ (by omega)
          have hwn : IntKind.i64.wrap ((n : Int) + 1) = (n : Int) + 1 := IntWalk.i64_in _ (by omega)
          have Hc10 := hide hc10
          have Hp2 := hide hp2
          clear hp2 hc hc10 hp3
          by_cases hten : c = 10
          · have hcb : ((c.toNat : Int) == 10) = true := by rw [ten_eq]; simp [hten]
            have hpe := (unhide Hc10).1 hten
            have Hx : Hid (n + 1 < ps.length → i + 1 < posOf ps (n + 1 + 1)) := hide fun h => by rw [posOf_succ ps (n + 1) h]; omega
            clear hten
            go_wp2
            go_roundw
            case rel => exact ⟨n + 1, i + 1, by omega, by go_num, by go_num, by omega, unhide Hx, .inr (by omega), by first | exact hwq | trivial⟩
            case measure => simp [intOf]; omega
          · have hcb : ((c.toNat : Int) == 10) = false := by rw [ten_eq]; simp [hten]
            have hpe : ¬ i + 1 = posOf ps (n + 1) := fun h => hten ((unhide Hc10).2 h)
            have Hx : Hid (n < ps.length → i + 1 < posOf ps (n + 1)) := hide fun h => by have := unhide Hp2 h; omega
            clear hten
            go_wp2
            go_roundw
            case rel => exact ⟨n, i + 1, by omega, by go_num, by go_num, by omega, unhide Hx, .inl hlt2, by first | exact hwq | trivial⟩
            case measure => simp [intOf]; omega
        · obtain rfl : n = kk := by omega
          have hik : i = posOf ps n := by rcases hp3 with h | h <;> omega
          clear hp1 hp2 hp3 hlt2
          have hSS := unhide Hcut n
          have hA : S.take i = Strd.srcOf (ps.take n) := by
            conv => lhs; rw [hSS]
            rw [hik, unhide Hpos, List.take_left']
            rfl
          have hBq : S.drop i = Strd.srcOf (ps.drop n) := by
            conv => lhs; rw [hSS]
            rw [hik, unhide Hpos, List.drop_left']
            rfl
          have hiS : i ≤ S.length := by rw [hik]; exact unhide Hle n
          obtain ⟨j, hj⟩ : ∃ q : Nat, Strd.pick which 15 = q := ⟨(Strd.pick which 15).toNat, by have := Strd.pick_range which 15 (by omega); omega⟩
          have hjr := Strd.pick_range which 15 (by omega)
          rw [hj] at hjr
          have hj15 : j < 15 := by omega
          obtain ⟨hbad1, hbad2, hbad3⟩ := Strd.bad_read j hj15
          have hwrong := fun u hu => unhide Hwr n (Strd.badTexts.getD j []) u (by omega) hbad1 (fun c hc => by simpa using List.all_eq_true.1 hbad2 c hc) hu
          have hcell : (w4.alloc (.cells badRow 9)).cell? ⟨w4.heap.size, j, none⟩ = some (.string (bstr (Strd.badTexts.getD j []))) := (box_cell (box_new w4 (.cells badRow 9)) j).trans (badRow_at j hj15)
          unfold badRow at hcell
          rw [← hA] at hwrong
          have hE0 : (bstr S).extract 0 i = bstr (S.take i) := bytes_ext (by rw [toList_extract]; simp)
          have hE1 : (bstr S).extract i (List.length S) = bstr (S.drop i) := bytes_ext (by rw [toList_extract, bstr_list, bstr_list, List.take_length])
          have hAl : (S.take i).length ≤ 960 := by rw [List.length_take]; omega
          have hBl : (S.drop i).length ≤ 960 := by rw [List.length_drop]; omega
          generalize S.take i = A at *
          generalize S.drop i = Bq at *
          generalize Strd.badTexts.getD j [] = BT at *
          have htw := unhide Htw
          subst hwq
          have hj15i : (j : Int) < 15 := by omega
          have hiSI : (i : Int) ≤ (S.length : Int) := by omega
          have hwk : IntKind.i64.wrap ((n : Int) + 1) = (n : Int) + 1 := IntWalk.i64_in _ (by omega)
          have hwl2 : IntKind.i64.wrap ((ps.length : Int) + 1) = (ps.length : Int) + 1 := IntWalk.i64_in _ (by omega)
          have Hwrong := hide hwrong
          have HtwN := hide htw
          clear hwrong htw hA hBq hSS hbad1 hbad2 hik
          go_wp2_with fail
          refine (pick_c which 15 _ hwh (by omega)).mono ?_
          rintro e w5 ⟨rfl, hw5⟩
          rw [hj, hw5]
          clear hw5 w5 hj
          go_upto_region 21 with fail
          have hb6 := below_a wr (.cells #[.string ⟨#[110, 111, 112, 112]⟩, .string ⟨#[110, 111, 112, 32, 49]⟩, .string ⟨#[109, 111, 118, 101, 113, 32, 100, 49]⟩, .string ⟨#[98, 114, 97]⟩, .string ⟨#[98, 114, 97, 46, 120, 32, 97]⟩, .string ⟨#[106, 109, 112, 46, 115, 32, 97]⟩, .string ⟨#[97, 32, 98, 58]⟩, .string ⟨#[49, 97, 58, 32, 110, 111, 112]⟩, .string ⟨#[109, 111, 118, 101, 32, 100, 49, 44, 100, 50, 50]⟩, .string ⟨#[100, 99, 46, 119, 32, 49, 44, 44, 50]⟩, .string ⟨#[100, 115, 32, 36, 103]⟩, .string ⟨#[255, 58, 32, 110, 111, 112]⟩, .string ⟨#[110, 111, 112, 58, 110, 111, 112, 58]⟩, .string ⟨#[109, 111, 118, 101, 113, 32, 49, 44, 100, 49]⟩, .string ⟨#[98, 114, 97, 32, 49, 50, 51, 52, 53, 54, 55, 56, 57]⟩] 9)
          clear hcell
          generalize wr.alloc (.cells #[.string ⟨#[110, 111, 112, 112]⟩, .string ⟨#[110, 111, 112, 32, 49]⟩, .string ⟨#[109, 111, 118, 101, 113, 32, 100, 49]⟩, .string ⟨#[98, 114, 97]⟩, .string ⟨#[98, 114, 97, 46, 120, 32, 97]⟩, .string ⟨#[106, 109, 112, 46, 115, 32, 97]⟩, .string ⟨#[97, 32, 98, 58]⟩, .string ⟨#[49, 97, 58, 32, 110, 111, 112]⟩, .string ⟨#[109, 111, 118, 101, 32, 100, 49, 44, 100, 50, 50]⟩, .string ⟨#[100, 99, 46, 119, 32, 49, 44, 44, 50]⟩, .string ⟨#[100, 115, 32, 36, 103]⟩, .string ⟨#[255, 58, 32, 110, 111, 112]⟩, .string ⟨#[110, 111, 112, 58, 110, 111, 112, 58]⟩, .string ⟨#[109, 111, 118, 101, 113, 32, 49, 44, 100, 49]⟩, .string ⟨#[98, 114, 97, 32, 49, 50, 51, 52, 53, 54, 55, 56, 57]⟩] 9) = w6 at *
          have hB6 := below_t hB4 hb6
          have cA : ∀ W, Below w6.heap.size w6 W → Calls Tryz.prog 10 #[.string (bstr A ++ bstr BT ++ ⟨#[10]⟩ ++ bstr Bq ++ ⟨#[122, 122, 122, 32, 122, 122, 122, 10]⟩)] W fun e w' => e = .returned (.tuple #[.agg #[.int .i64 0, .string ⟨#[]⟩], .int .i64 ((n : Int) + 1), .int .i64 1]) ∧ Below W.heap.size W w' := fun W hb => by
            have hBW := below_t hB6 hb
            have hz : (bstr A ++ bstr BT ++ ⟨#[10]⟩ ++ bstr Bq ++ ⟨#[122, 122, 122, 32, 122, 122, 122, 10]⟩ : ByteArray).data.toList = A ++ (BT ++ 10 :: (Bq ++ [122, 122, 122, 32, 122, 122, 122, 10])) := by simp
            have h1 := Assemble_c (bstr A ++ bstr BT ++ ⟨#[10]⟩ ++ bstr Bq ++ ⟨#[122, 122, 122, 32, 122, 122, 122, 10]⟩) W (by rw [size_list, hz]; simp; omega) (Nat.le_trans h11 hBW.size) ((unhide HT).below hBW)
            rw [hz, asm_err _ (n + 1) 1 (unhide Hwrong _ (by simp; omega)) (by decide)] at h1
            exact h1
          have a1 : ¬ 9223372036854775807 < List.length A + List.length BT := by omega
          have a2 : ¬ 9223372036854775807 < List.length A + List.length BT + 1 := by omega
          have a3 : ¬ 9223372036854775807 < List.length A + List.length BT + 1 + List.length Bq := by omega
          have a4 : ¬ 9223372036854775807 < List.length A + List.length BT + 1 + List.length Bq + 8 := by omega
          have CA := hide cA
          clear cA
          go_cut [17, 18, 19] (fun c17 c18 c19 wx => ∃ b, c17 = .pointer (some ⟨b, 0, none⟩) ∧ wx.heap[b]? = some (.cells #[.int .i64 0, .string ⟨#[]⟩] 23 (0, 0)) ∧ c18 = .int .i64 ((n : Int) + 1) ∧ c19 = .int .i64 1 ∧ Below w6.heap.size w6 wx)
          case first =>
            go_region_held3 (fun _ => True) (trivial) (first
              | (go_at_call 10; refine (unhide CA _ ?_).mono ?_; (first | exact below_d (Below.refl _ _) | exact below_t (below_d (Below.refl _ _)) (below_a _ _)); rintro e w7 ⟨rfl, hb7⟩; have hB7 : Below w6.heap.size w6 w7 := (by first | exact below_t (below_d (Below.refl _ _)) hb7 | exact below_t (below_t (below_d (Below.refl _ _)) (below_a _ _)) hb7); obtain ⟨hc7, hf7⟩ := bcell hb7; have hl7 := hB7.size; (first | (have hx7 : w6.heap.size < w7.heap.size := (by have hq := hb7.size; simp at hq; omega)) | skip)))
            all_goals go_wp2_with fail
            all_goals go_meet
            · exact ⟨w7.heap.size, rfl, box_new _ _, rfl, rfl, below_t hB7 (below_a _ _)⟩
            · exact ⟨w6.heap.size, rfl, box_two (bbox hb7 (box_new_d w6 _)), rfl, rfl, below_two hB7 (Nat.le_refl _) _ _⟩
          case rest =>
            obtain ⟨bI, rfl, hbI, rfl, rfl, hbx⟩ := hcut
            have hBx := below_t hB6 hbx
            have HbI := hide hbI
            have hz : (bstr A ++ bstr BT ++ ⟨#[10, 98, 114, 97, 32, 110, 111, 119, 104, 101, 114, 101, 10]⟩ ++ bstr Bq : ByteArray).data.toList = A ++ (BT ++ 10 :: ([98, 114, 97, 32, 110, 111, 119, 104, 101, 114, 101, 10] ++ Bq)) := by simp
            have hrs := unhide Hwrong ([98, 114, 97, 32, 110, 111, 119, 104, 101, 114, 101, 10] ++ Bq) (by simp; omega)
            have cN : ∀ d os, Calls Tryz.prog 13 #[.string (bstr A ++ bstr BT ++ ⟨#[10, 98, 114, 97, 32, 110, 111, 119, 104, 101, 114, 101, 10]⟩ ++ bstr Bq)] (grow (redrawn wc d) os) fun e w'' => e = .returned (.tuple #[.slice none 0 0, .int .i64 ((n : Int) + 1), .int .i64 1]) ∧ ∃ p : Regrown, w'' = grow (redrawn wc p.d) p.os := fun d os => Calls.regrown_of (by
              have hBW := below_t hBx (below_regrown wc d os)
              have h1 := Names_err (bstr A ++ bstr BT ++ ⟨#[10, 98, 114, 97, 32, 110, 111, 119, 104, 101, 114, 101, 10]⟩ ++ bstr Bq) _ (by rw [size_list, hz]; simp; omega) (Nat.le_trans h11 hBW.size) ((unhide HT).below hBW) (by rw [hz, hrs]; simp)
              rw [hz, hrs] at h1
              exact h1)
            have n2 : ¬ 9223372036854775807 < List.length A + List.length BT + 13 := by omega
            have n3 : ¬ 9223372036854775807 < List.length A + List.length BT + 13 + List.length Bq := by omega
            clear hrs hz hbI
            go_upto_region 22 with fail
            refine wp_region_quiet_below (by kernel_rfl) (by kernel_rfl) ?_
            repeat (go_big_quiet_step (exact cN _ _))
            refine wpQuiet_nil ?_
            intro _ hw'
            obtain ⟨⟨dq, osq⟩, hw''⟩ := hw'
            subst hw''
            have hbq := below_regrown wc dq osq
            have HbI2 := hide (bbox hbq (unhide HbI))
            have hBq := below_t hBx hbq
            have hz2 : (bstr S ++ ⟨#[97, 58, 32, 110, 111, 112, 10, 114, 116, 115, 32, 114, 116, 115]⟩ : ByteArray).data.toList = S ++ ([97, 58, 32, 110, 111, 112] ++ 10 :: [114, 116, 115, 32, 114, 116, 115]) := by simp
            have cT := Assemble_c (bstr S ++ ⟨#[97, 58, 32, 110, 111, 112, 10, 114, 116, 115, 32, 114, 116, 115]⟩) (grow (redrawn wc dq) osq) (by rw [size_list, hz2]; simp; omega) (Nat.le_trans h11 hBq.size) ((unhide HT).below hBq)
            rw [hz2, asm_err _ (ps.length + 1) 3 (unhide HtwN _ (by decide)) (by decide)] at cT
            have CT := hide cT
            clear cT hz2 cN
            generalize grow (redrawn wc dq) osq = w8 at *
            have t1 : ¬ 9223372036854775807 < List.length S + 14 := by omega
            go_wp2_with fail
            refine (unhide CT).mono ?_
            rintro e w9 ⟨rfl, hb9⟩
            have HbI3 := hide (bbox hb9 (unhide HbI2))
            have hb10 := below_a w9 (.cells #[.int .i64 0, .string (bstr [])] 23)
            have HbI4 := hide (bbox hb10 (unhide HbI3))
            go_upto_region 24 with fail
            have hB10 := below_t hBq (below_t hb9 hb10)
            generalize w9.alloc (.cells #[.int .i64 0, .string (bstr [])] 23) = w10 at *
            have i0 := box_cell (unhide HbI4) 0
            have i1 := box_cell (unhide HbI4) 1
            simp only [List.getElem?_toArray, List.getElem?_cons_zero, List.getElem?_cons_succ] at i0 i1
            have hlI := lt_of_box (unhide HbI4)
            go_wp2
            go_ret
            exact ⟨rfl, hB10⟩
end Go.Proofs.YtegiloiojloaoaaGreatDoor
