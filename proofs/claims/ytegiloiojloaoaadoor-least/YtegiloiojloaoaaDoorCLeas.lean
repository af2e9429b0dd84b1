/- The contract of striderkeep.Least (the door alone has it). -/
import Derived.Test.YtegiloiojloaoaaDoorCLaw1
import Derived.Test.YtegiloiojloaoaaDoorCCnt
set_option linter.unusedVariables false
set_option linter.unusedSimpArgs false
namespace Go.Proofs.YtegiloiojloaoaaDoor
open Go.RowKit Go.Shelf Go.Sort Go.Maps

/-- Is the image the same with the forms that a number speaks of? -/
def sameAt (ms : List Strd.ML) (n k : Nat) : Bool := decide ((Strd.assemble (Strd.srcOf (Strd.pairs ms (Strd.digs k n)))).2.2 = 0) && decide ((Strd.assemble (Strd.srcOf (Strd.pairs ms (Strd.digs k n)))).1 = (0, Strd.imgOf (Strd.Lp ms []) (Strd.F0 ms)))
def sameTo (ms : List Strd.ML) (n k : Nat) : Bool := (List.range k).any (sameAt ms n)
theorem sameTo_succ (ms : List Strd.ML) (n k : Nat) : sameTo ms n (k + 1) = (sameTo ms n k || sameAt ms n k) := by
  unfold sameTo
  rw [List.range_succ, List.any_append]
  simp
theorem sameTo_all {ms : List Strd.ML} (hM : Strd.MsEven ms) (n : Nat) (hn : n ≤ Strd.jumpsIn ms) : sameTo ms n (3 ^ n) = true := by
  obtain ⟨k, hk, h⟩ := Strd.least_same hM n hn
  unfold sameTo
  rw [List.any_eq_true]
  refine ⟨k, List.mem_range.2 hk, ?_⟩
  unfold sameAt
  rw [h, Strd.plain_asm hM]
  simp
theorem pow3_le (n : Nat) (h : n ≤ 4) : 3 ^ n ≤ 81 := by
  have : n = 0 ∨ n = 1 ∨ n = 2 ∨ n = 3 ∨ n = 4 := by omega
  rcases this with rfl | rfl | rfl | rfl | rfl <;> decide
set_option maxRecDepth 1000000 in
set_option maxHeartbeats 4000000 in
theorem Least_c (v : Value) (xs : List Strd.Item) (w : World) (hI : ItemsAt w v xs) (hx : xs.length ≤ 9223372036854775807) (h11 : 8 ≤ w.heap.size) (hT : Tabs w) :
    Calls Tryd.prog 4 #[v] w fun e w' => e = .returned (.bool true) ∧ Below w.heap.size w w' := by
  obtain ⟨i0, hi0, hz0, hz1, hz2⟩ := info_parts Tryd.info3
  have HT := hide hT
  have HI := hide hI
  obtain ⟨pv, cv, rfl⟩ := hI.shape
  clear hT hI
  go_enter Tryd.func4, Tryd.ntmps4
  go_wp2_with fail
  refine (awake_c w h11 (unhide HT)).mono ?_
  rintro e w1 ⟨rfl, hb1⟩
  go_wp2_with fail
  refine (made_c _ xs w1 ((unhide HI).below hb1) hx).mono ?_
  rintro e w2 ⟨cs, rfl, hV, hb2⟩
  have HV := hide hV
  obtain ⟨pr, cr, pl, cl, pw, cw, pt, ct, rfl⟩ := hV.shape
  have hM := Strd.made_msEven xs
  have hMlen := hM.ok.len
  generalize hms : Strd.made xs = ms at *
  have hb3 := below_a w2 (.cells #[.slice pr ms.length cr, .slice pl ms.length cl, .slice pw ms.length cw, .slice pt ms.length ct, .int .i64 6] 27)
  have Hbx := hide (box_new w2 (.cells #[.slice pr ms.length cr, .slice pl ms.length cl, .slice pw ms.length cw, .slice pt ms.length ct, .int .i64 6] 27))
  have HM := hide hM
  clear hV hms hM
  go_upto_region 5 with fail
  have HV3 := hide ((unhide HV).below hb3)
  have hB3 := below_t hb1 (below_t hb2 hb3)
  generalize w2.alloc (.cells #[.slice pr ms.length cr, .slice pl ms.length cl, .slice pw ms.length cw, .slice pt ms.length ct, .int .i64 6] 27) = w3 at *
  generalize w2.heap.size = g at *
  have x0 := box_cell (unhide Hbx) 0
  have x1 := box_cell (unhide Hbx) 1
  have x2 := box_cell (unhide Hbx) 2
  have x3 := box_cell (unhide Hbx) 3
  have x4 := box_cell (unhide Hbx) 4
  simp only [List.getElem?_toArray, List.getElem?_cons_zero, List.getElem?_cons_succ] at x0 x1 x2 x3 x4
  have hlb := lt_of_box (unhide Hbx)
  clear hb2 hb3
  go_wp2_with fail
  refine (source_c ms (unhide HM).ok.ok hMlen [] (fun f hf => by cases hf) _ _ _ w3 (unhide HV3) (FormsAt.nil _) (by simp)).mono ?_
  rintro e w4 ⟨rfl, hb4⟩
  have hB4 := below_t hB3 hb4
  have HA := hide (fun W (hb : Below w.heap.size w W) => asm_plain (unhide HM) W (Nat.le_trans h11 hb.size) ((unhide HT).below hb))
  have HAF := hide (fun fs W (hb : Below w.heap.size w W) => asm_src (unhide HM) fs W (Nat.le_trans h11 hb.size) ((unhide HT).below hb))
  have HL := hide (fun fs hf h0 => Strd.least_len (unhide HM) fs hf h0)
  have Hend := hide (fun n hn => sameTo_all (unhide HM) n hn)
  have Hsucc := hide (sameTo_succ ms)
  have Hat : Hid (∀ n k, sameAt ms n k = (decide ((Strd.assemble (Strd.srcOf (Strd.pairs ms (Strd.digs k n)))).2.2 = 0) && decide ((Strd.assemble (Strd.srcOf (Strd.pairs ms (Strd.digs k n)))).1 = (0, Strd.imgOf (Strd.Lp ms []) (Strd.F0 ms))))) := hide (fun n k => rfl)
  rw [Strd.plain_asm (unhide HM)] at HL
  generalize hIB : Strd.imgOf (Strd.Lp ms []) (Strd.F0 ms) = IB at *
  generalize hSS : Strd.srcOf (Strd.pairs ms []) = S at *
  clear x0 x1 x2 x3 x4
  go_wp2_with fail
  refine (unhide HA w4 hB4).mono ?_
  rintro e w5 ⟨rfl, hb5⟩
  have hb6 := below_a w5 (.cells #[.int .i64 0, .string (bstr IB)] 30)
  have Hib := hide (box_new w5 (.cells #[.int .i64 0, .string (bstr IB)] 30))
  go_upto_region 6 with fail
  have hb36 := below_t hb4 (below_t hb5 hb6)
  have HV6 := hide ((unhide HV3).below hb36)
  have Hbx6 := hide (bbox hb36 (unhide Hbx))
  have hB6 := below_t hB4 (below_t hb5 hb6)
  have hli := lt_of_box (unhide Hib)
  generalize w5.alloc (.cells #[.int .i64 0, .string (bstr IB)] 30) = w6 at *
  generalize w5.heap.size = q at *
  have x0 := box_cell (unhide Hbx6) 0
  have x1 := box_cell (unhide Hbx6) 1
  have x2 := box_cell (unhide Hbx6) 2
  have x3 := box_cell (unhide Hbx6) 3
  have x4 := box_cell (unhide Hbx6) 4
  simp only [List.getElem?_toArray, List.getElem?_cons_zero, List.getElem?_cons_succ] at x0 x1 x2 x3 x4
  have hlb6 := lt_of_box (unhide Hbx6)
  clear hb4 hb5 hb6 hb36 hlb hb1
  go_wp2_with fail
  refine (count_c ms hMlen _ _ w6 (unhide HV6)).mono ?_
  rintro e w7 ⟨rfl, hb7⟩
  have hB7 := below_t hB6 hb7
  have Hib7 := hide (bbox hb7 (unhide Hib))
  have HV7 := hide ((unhide HV6).below hb7)
  have Hbx7 := hide (bbox hb7 (unhide Hbx6))
  clear x0 x1 x2 x3 x4 hb7 hlb6 hli
  have hJ40 : Strd.jumpsIn ms ≤ 40 := Nat.le_trans List.countP_le_length hMlen
  generalize hJ : Strd.jumpsIn ms = J at *
  clear hJ
  obtain ⟨n, hn4, hnJ, hn⟩ : ∃ n : Nat, n ≤ 4 ∧ n ≤ J ∧ n = min J 4 := ⟨min J 4, by omega, by omega, rfl⟩
  have Hn := hide hn
  clear hn
  go_upto_if 36 with fail
  go_cut [8] (fun c8 wc => c8 = .int .i64 (n : Int) ∧ wc = w7)
  case first =>
    by_cases h4 : 4 < J
    · have h4i : (4 : Int) < (J : Int) := by omega
      have Hn4 : Hid (n = 4) := hide (by have := unhide Hn; omega)
      go_wp2
      go_meet
      exact ⟨by rw [unhide Hn4]; rfl, rfl⟩
    · have h4i : ¬ (4 : Int) < (J : Int) := by omega
      have Hn4 : Hid (n = J) := hide (by have := unhide Hn; omega)
      go_wp2
      go_meet
      exact ⟨by rw [unhide Hn4], rfl⟩
  case rest =>
    obtain ⟨rfl, hwc⟩ := hcut
    have hwc' := hwc.symm
    subst hwc'
    go_wp2_with fail
    go_loopw [9, 10] (fun c9 c10 wr => ∃ i : Nat, i ≤ n ∧ c9 = .int .i64 ((3 ^ i : Nat) : Int) ∧ c10 = .int .i64 i ∧ wr = w7) (fun _ c _ => n - (intOf c).toNat)
    case atStart => exact ⟨0, by omega, rfl, rfl, rfl⟩
    case round =>
      obtain ⟨i, hi, rfl, rfl, hwr⟩ := hrel
      have hwr' := hwr.symm
      subst hwr'
      have hp3 := pow3_le i (by omega)
      by_cases hlt : i < n
      · have hltI : (i : Int) < (n : Int) := by omega
        have Hps : Hid (3 ^ (i + 1) = 3 * 3 ^ i) := hide (by rw [Nat.pow_succ, Nat.mul_comm])
        generalize 3 ^ i = p3 at *
        have hwm : IntKind.i64.wrap (3 * (p3 : Int)) = 3 * (p3 : Int) := IntWalk.i64_in _ (by omega)
        have hwi : IntKind.i64.wrap ((i : Int) + 1) = (i : Int) + 1 := IntWalk.i64_in _ (by omega)
        go_wp2
        go_roundw
        case rel => exact ⟨i + 1, by omega, by rw [unhide Hps]; go_num, by go_num, by first | rfl | trivial⟩
        case measure => simp [intOf]; omega
      · have hltI : ¬ (i : Int) < (n : Int) := by omega
        obtain rfl : i = n := by omega
        generalize hp : 3 ^ i = p3 at *
        have Hp := hide hp
        clear hp
        go_wp2_with fail
        go_loopw [11, 12] (fun c11 c12 wr => ∃ k : Nat, k ≤ p3 ∧ c11 = .bool (sameTo ms i k) ∧ c12 = .int .i64 k ∧ Below w7.heap.size w7 wr) (fun _ c _ => p3 - (intOf c).toNat)
        case atStart => exact ⟨0, by omega, rfl, rfl, Below.refl _ _⟩
        case round =>
          obtain ⟨k, hk, rfl, rfl, hbr⟩ := hrel
          obtain ⟨wo, hwo⟩ : ∃ wo, wo = wr := ⟨_, rfl⟩
          subst hwo
          by_cases hltk : k < p3
          · have hltkI : (k : Int) < (p3 : Int) := by omega
            have HS1 := hide (unhide Hsucc i k)
            have HA1 := hide (unhide Hat i k)
            generalize hs1 : sameTo ms i (k + 1) = s1 at *
            have Hs1 := hide hs1
            clear hs1
            generalize sameTo ms i k = s0 at *
            generalize sameAt ms i k = sa at *
            go_wp2_with fail
            go_loopw [13, 14, 15] (fun c13 c14 c15 wi => ∃ j : Nat, j ≤ i ∧ IntsAt 3 wo.heap.size wi c13 ((Strd.digs k j).map fun (f : Nat) => (f : Int)) ∧ c14 = .int .i64 ((k / 3 ^ j : Nat) : Int) ∧ c15 = .int .i64 j ∧ Below wo.heap.size wo wi) (fun _ _ c _ => i - (intOf c).toNat)
            case atStart => exact ⟨0, by omega, World.ownsRow_nil _ _ _ _, by simp, rfl, Below.refl _ _⟩
            case round =>
              obtain ⟨j, hj, hrow, rfl, rfl, hbi⟩ := hrel
              have hkj : k / 3 ^ j ≤ k := Nat.div_le_self _ _
              have Hsn := hide (Strd.digs_snoc j k)
              have Hdv : Hid (k / 3 ^ (j + 1) = k / 3 ^ j / 3) := hide (by rw [Nat.pow_succ, Nat.div_div_eq_div_mul])
              have hdl := Strd.digs_len j k
              generalize k / 3 ^ j = q1 at *
              by_cases hltj : j < i
              · have hltjI : (j : Int) < (i : Int) := by omega
                have hwj : IntKind.i64.wrap ((j : Int) + 1) = (j : Int) + 1 := IntWalk.i64_in _ (by omega)
                have hrow0 := hide (show World.ownsRow wr wo.heap.size 3 1 _ _ _ from hrow)
                go_wp2_with (first | (at_builtin; refine wpList_append_own _ rfl _ _ 23 rfl wo.heap.size 3 i0 (.int .i64 0) 1 8 Tryd.underlying23 hi0 hz0 hz1 hz2 rfl (by decide) _ _ _ rfl ((unhide hrow0).alloc _) ⟨wr.heap.size, 0, none⟩ 1 1 [.int .i64 (1 + (q1 : Int) % 3)] ?cx rfl ?c1 ?c2 ?c3 ?c4 ?c5 ?_) | go_in)
                case cx => rfl
                case c1 => exact cell_one_new _ _ _
                case c2 => exact int_one _
                case c3 => unfold maxLen; rw [List.length_map, hdl]; omega
                case c4 => rw [List.length_map, hdl]; omega
                case c5 => rw [World.size_alloc]; have := hbi.size; omega
                intro v1 w2 hown hgrow _
                have hbl2 : Below wo.heap.size wo w2 := Below.grown (hbi.alloc hbi.size _) hgrow (by rw [World.size_alloc]; have := hbi.size; omega) (fun k e => by have := (hrow.lt _ e).1; omega)
                clear hgrow
                go_wp2
                go_roundw
                case rel =>
                  refine ⟨j + 1, by omega, ?_, by rw [unhide Hdv]; go_num, by go_num, hbl2⟩
                  show World.ownsRow _ _ _ _ _ _ _
                  rw [unhide Hsn]
                  simpa [hdl] using hown
                case measure => simp [intOf]; omega
              · have hltjI : ¬ (j : Int) < (i : Int) := by omega
                obtain rfl : j = i := by omega
                obtain ⟨wi, hwi⟩ : ∃ wi, wi = wr := ⟨_, rfl⟩
                subst hwi
                have h7i := below_t hbr hbi
                have hBi := below_t hB7 h7i
                have x0 := box_cell (bbox h7i (unhide Hbx7)) 0
                have x1 := box_cell (bbox h7i (unhide Hbx7)) 1
                have x2 := box_cell (bbox h7i (unhide Hbx7)) 2
                have x3 := box_cell (bbox h7i (unhide Hbx7)) 3
                have x4 := box_cell (bbox h7i (unhide Hbx7)) 4
                simp only [List.getElem?_toArray, List.getElem?_cons_zero, List.getElem?_cons_succ] at x0 x1 x2 x3 x4
                have hlg := lt_of_box (bbox h7i (unhide Hbx7))
                have hrng := Strd.digs_rng j k
                have Hrow := hide hrow
                clear hrow Hsn Hdv
                go_wp2_with fail
                refine (source_c ms (unhide HM).ok.ok hMlen (Strd.digs k j) (fun f hf => (hrng f hf).2) _ _ _ wi ((unhide HV7).below h7i) ⟨_, unhide Hrow⟩ (by rw [hdl]; omega)).mono ?_
                rintro e w8 ⟨rfl, hb8⟩
                have hB8 := below_t hBi hb8
                have hlen := unhide HL (Strd.digs k j) (fun f hf => (hrng f hf).2)
                have Hasm := hide (unhide HAF (Strd.digs k j) w8 hB8)
                generalize Strd.srcOf (Strd.pairs ms (Strd.digs k j)) = Sk at *
                generalize Strd.assemble Sk = Ak at *
                obtain ⟨⟨ao, ab⟩, al, ae⟩ := Ak
                simp only at hlen HA1 Hasm
                clear x0 x1 x2 x3 x4
                go_wp2_with fail
                refine (unhide Hasm).mono ?_
                rintro e w9 ⟨rfl, hb9⟩
                have h79 := below_t h7i (below_t hb8 hb9)
                have y0 := box_cell (bbox h79 (unhide Hib7)) 0
                have y1 := box_cell (bbox h79 (unhide Hib7)) 1
                simp only [List.getElem?_toArray, List.getElem?_cons_zero, List.getElem?_cons_succ] at y0 y1
                have hlq := lt_of_box (bbox h79 (unhide Hib7))
                have hfin := below_t h79 (below_a w9 (.cells #[.int .i64 ao, .string (bstr ab)] 30))
                have hwk : IntKind.i64.wrap ((k : Int) + 1) = (k : Int) + 1 := IntWalk.i64_in _ (by have := pow3_le j (by omega); have := unhide Hp; omega)
                by_cases hae : ae = 0
                · subst hae
                  have hlen' : ¬ (ab.length : Int) < (IB.length : Int) := by have := hlen rfl; omega
                  cases s0 with
                  | true =>
                    have Hs : Hid (s1 = true) := hide (by rw [unhide HS1]; rfl)
                    clear HA1 HS1 hlen
                    go_wp2
                    go_roundw
                    case rel => exact ⟨k + 1, by omega, by rw [unhide Hs1, unhide Hs], by go_num, hfin⟩
                    case measure => simp [intOf]; omega
                  | false =>
                    by_cases ho : ao = 0
                    · by_cases hb : ab = IB
                      · have Hs : Hid (s1 = true) := hide (by rw [unhide HS1, unhide HA1, ho, hb]; simp)
                        subst ho
                        subst hb
                        clear HA1 HS1 hlen
                        go_wp2
                        go_roundw
                        case rel => exact ⟨k + 1, by omega, by rw [unhide Hs1, unhide Hs], by go_num, hfin⟩
                        case measure => simp [intOf]; omega
                      · have Hs : Hid (s1 = false) := hide (by rw [unhide HS1, unhide HA1]; simp [hb])
                        subst ho
                        clear HA1 HS1 hlen
                        go_wp2
                        go_roundw
                        case rel => exact ⟨k + 1, by omega, by rw [unhide Hs1, unhide Hs], by go_num, hfin⟩
                        case measure => simp [intOf]; omega
                    · have Hs : Hid (s1 = false) := hide (by rw [unhide HS1, unhide HA1]; simp [ho])
                      clear HA1 HS1 hlen
                      go_wp2
                      go_roundw
                      case rel => exact ⟨k + 1, by omega, by rw [unhide Hs1, unhide Hs], by go_num, hfin⟩
                      case measure => simp [intOf]; omega
                · cases s0 with
                  | true =>
                    have Hs : Hid (s1 = true) := hide (by rw [unhide HS1]; rfl)
                    clear HA1 HS1 hlen
                    go_wp2
                    go_roundw
                    case rel => exact ⟨k + 1, by omega, by rw [unhide Hs1, unhide Hs], by go_num, hfin⟩
                    case measure => simp [intOf]; omega
                  | false =>
                    have Hs : Hid (s1 = false) := hide (by rw [unhide HS1, unhide HA1]; simp [hae])
                    clear HA1 HS1 hlen
                    go_wp2
                    go_roundw
                    case rel => exact ⟨k + 1, by omega, by rw [unhide Hs1, unhide Hs], by go_num, hfin⟩
                    case measure => simp [intOf]; omega
          · have hltkI : ¬ (k : Int) < (p3 : Int) := by omega
            obtain rfl : k = p3 := by omega
            have Hs : Hid (sameTo ms i k = true) := hide (by rw [← unhide Hp]; exact unhide Hend i hnJ)
            generalize sameTo ms i k = s0 at *
            go_wp2
            go_ret
            exact ⟨by rw [unhide Hs]; rfl, below_t hB7 hbr⟩
end Go.Proofs.YtegiloiojloaoaaDoor
