/- The reference's numbers. -/
import Derived.Test.YtegiloiojloaoaaGreatDoorCRef11
set_option linter.unusedVariables false
set_option linter.unusedSimpArgs false
namespace Go.Proofs.YtegiloiojloaoaaGreatDoor
open Go.RowKit Go.Shelf Go.Sort Go.Maps

namespace Rf
theorem numbers_bad (l : Line) (i : Nat) (h : i < l.texts.length) (hb : numbersT l.word l.texts[i] = false) : numbers l = false := by
  unfold numbers
  have : l.texts.all (numbersT l.word) = false := by
    rw [List.all_eq_false]
    exact ⟨l.texts[i], List.getElem_mem h, by rw [hb]; decide⟩
  rw [this, Bool.false_and]
theorem numbers_all (l : Line) (h : ∀ i, i < l.texts.length → numbersT l.word (l.texts.getD i []) = true) : numbers l = (match l.texts with | [] => true | t :: _ => lastNum l.word t) := by
  unfold numbers
  have : l.texts.all (numbersT l.word) = true := by
    rw [List.all_eq_true]
    intro t ht
    obtain ⟨i, hi, rfl⟩ := List.getElem_of_mem ht
    have := h i hi
    rwa [List.getD_eq_getElem?_getD, List.getElem?_eq_getElem hi] at this
  rw [this, Bool.true_and]
  cases l.texts <;> rfl
theorem tmod_beq (n : Int) : (n.tmod 2 == 0) = (n % 2 == 0) := by
  rw [Bool.eq_iff_iff, beq_iff_eq, beq_iff_eq]
  exact tmod_two n
end Rf
set_option maxRecDepth 1000000 in
set_option maxHeartbeats 8000000 in
theorem numbers_ref (l : Rf.Line) (p : Option Addr) (n c : Nat) (w : World) (hL : Rf.LineAt w p n c l) (hw : Rf.WfL l) (hn : l.texts.length ≤ 8) : Calls Tryz.prog 73 #[.agg (Rf.lineCells l p n c)] w fun e w' => e = .returned (.bool (Rf.numbers l)) ∧ Below w.heap.size w w' := by
  obtain ⟨rfl, hS⟩ := hL
  have hlw := hw.lens.2.1
  have hlt := hw.lens.2.2
  have Hall := hide (Rf.numbers_all l)
  have Hbad := hide (Rf.numbers_bad l)
  unfold Rf.lineCells
  generalize Rf.numbers l = X at *
  have hbw := below_a w (.cells #[.int .i64 l.no, .string (bstr l.label), .string (bstr l.word), .int .i64 l.form, .slice p l.texts.length c] 144)
  have Hx := hide (box_new w (.cells #[.int .i64 l.no, .string (bstr l.label), .string (bstr l.word), .int .i64 l.form, .slice p l.texts.length c] 144))
  have HS := hide (StrsAt.below hS hbw)
  have x2 := box_cell (unhide Hx) 2
  have x4 := box_cell (unhide Hx) 4
  simp only [List.getElem?_toArray, List.getElem?_cons_zero, List.getElem?_cons_succ] at x2 x4
  have hxl := lt_of_box (unhide Hx)
  have Hlt := hide hlt
  generalize hW : w.alloc (.cells #[.int .i64 l.no, .string (bstr l.label), .string (bstr l.word), .int .i64 l.form, .slice p l.texts.length c] 144) = W at *
  have HW := hide hW
  clear hS hlt hw
  have CT := hide (fun V => two_r l.word V)
  generalize hwd : l.word = wd at *
  generalize hT : l.texts = T at *
  have hrg : Rf.regsOp wd = (wd == [109, 111, 118, 101, 113] || wd == [97, 100, 100, 105] || decide (0 < Rf.two wd)) := rfl
  have HRG := hide hrg
  generalize hRG : Rf.regsOp wd = RG at *
  generalize hTW : Rf.two wd = tw at *
  have hdc : Rf.dcOp wd = (wd == [100, 99, 46, 119] || wd == [100, 99, 46, 98]) := rfl
  have HDC := hide hdc
  generalize hDC : Rf.dcOp wd = DC at *
  have HhRG := hide hRG
  have HhDC := hide hDC
  clear hrg hdc hTW hwd hT hW hRG hDC
  go_enter Tryz.func73, Tryz.ntmps73
  go_upto_region 1 with fail
  simp only [unhide HW]
  go_wp2
  go_loopw [3] (fun c3 wr => ∃ i : Nat, i ≤ T.length ∧ c3 = .int .i64 i ∧ (∀ j, j < i → Rf.numbersT wd (T.getD j []) = true) ∧ wr = W) (fun c _ => T.length - (intOf c).toNat)
  case atStart => exact ⟨0, by omega, rfl, fun j hj => by omega, rfl⟩
  case round =>
    obtain ⟨i, hi, rfl, hsofar, hwr⟩ := hrel
    have hwr' := hwr.symm
    subst hwr'
    have Hso := hide hsofar
    clear hsofar
    by_cases hlt : i < T.length
    ·
      as_aux_lemma =>
        obtain ⟨gp, rfl, _, hgl, hgc⟩ := (unhide HS).at i hlt
        have hgt : T.getD i [] = T[i] := by rw [List.getD_eq_getElem?_getD, List.getElem?_eq_getElem hlt]; rfl
        have htl := unhide Hlt T[i] (List.getElem_mem hlt)
        have CR := hide (fun V => register_ref T[i] V (by omega))
        have CN := hide (fun V => number_ref T[i] V (by omega))
        have Hb := hide (unhide Hbad i hlt)
        have Hn : Hid (Rf.numbersT wd T[i] = true → ∀ j, j < i + 1 → Rf.numbersT wd (T.getD j []) = true) := hide (fun h j hj => by
          by_cases e : j = i
          · subst e; rw [hgt]; exact h
          · exact unhide Hso j (by omega))
        have hdef : Rf.numbersT wd T[i] = (!(RG && (Rf.register T[i]).isSome && decide (7 < (Rf.register T[i]).getD 0)) && !(DC && (Strd.number T[i]).isSome && !Rf.holds wd ((Strd.number T[i]).getD 0))) := by
          rw [← unhide HhRG, ← unhide HhDC]; rfl
        generalize Rf.numbersT wd T[i] = NT at *
        generalize Rf.register T[i] = RR at *
        generalize Strd.number T[i] = NN at *
        generalize T[i] = tx at *
        have CH := hide (fun V => holds_ref wd (NN.getD 0) V)
        generalize Rf.holds wd (NN.getD 0) = HH at *
        have Hdef := hide hdef
        clear hdef hgt Hso Hall Hbad
        have hltI : (i : Int) < (T.length : Int) := by omega
        have hw1 : IntKind.i64.wrap ((i : Int) + 1) = (i : Int) + 1 := IntWalk.i64_in _ (by omega)
        go_upto_region 5 with (go_at_call 112; refine (unhide CR _).mono ?_; rintro e w1 ⟨rfl, hw1⟩; have hw1' := hw1.symm; subst hw1')
        go_cut [6] (fun c6 wq => c6 = .bool RG ∧ wq = W)
        case first =>
          clear Hdef
          cases q1 : (wd == [109, 111, 118, 101, 113]) with
          | true =>
            have HG : Hid (RG = true) := hide (by rw [unhide HRG, q1]; rfl)
            go_wp2
            go_meet
            exact ⟨by rw [unhide HG], rfl⟩
          | false =>
            cases q2 : (wd == [97, 100, 100, 105]) with
            | true =>
              have HG : Hid (RG = true) := hide (by rw [unhide HRG, q1, q2]; rfl)
              go_wp2
              go_meet
              exact ⟨by rw [unhide HG], rfl⟩
            | false =>
              have HG : Hid (RG = decide (0 < tw)) := hide (by rw [unhide HRG, q1, q2]; rfl)
              go_wp2_with (go_at_call 113; refine (unhide CT _).mono ?_; rintro e w1 ⟨rfl, hw1⟩; have hw1' := hw1.symm; subst hw1')
              go_meet
              exact ⟨by rw [unhide HG], rfl⟩
        case rest =>
          obtain ⟨rfl, hwq⟩ := hcut
          have hwq' := hwq.symm
          subst hwq'
          go_upto_region 6 with fail
          go_cut [51] (fun c51 wq => c51 = .bool (RG && RR.isSome && decide (7 < RR.getD 0)) ∧ wq = W)
          case first =>
            clear Hdef
            cases RG with
            | false =>
              go_wp2
              go_meet
              exact ⟨rfl, rfl⟩
            | true =>
              cases RR with
              | none =>
                go_wp2
                go_meet
                exact ⟨rfl, rfl⟩
              | some r =>
                go_wp2
                go_meet
                exact ⟨rfl, rfl⟩
          case rest =>
            obtain ⟨rfl, hwq⟩ := hcut
            have hwq' := hwq.symm
            subst hwq'
            generalize (RG && RR.isSome && decide (7 < RR.getD 0)) = B1 at *
            cases B1 with
            | true =>
              have HF : Hid (X = false) := hide (by rw [unhide Hb (by rw [unhide Hdef]; rfl)])
              go_wp2
              go_ret
              exact ⟨by rw [unhide HF]; rfl, hbw⟩
            | false =>
              go_upto_region 8 with fail
              go_cut [59] (fun c59 wq => c59 = .bool DC ∧ wq = W)
              case first =>
                clear Hdef
                cases q1 : (wd == [100, 99, 46, 119]) with
                | true =>
                  have HG : Hid (DC = true) := hide (by rw [unhide HDC, q1]; rfl)
                  go_wp2
                  go_meet
                  exact ⟨by rw [unhide HG], rfl⟩
                | false =>
                  have HG : Hid (DC = (wd == [100, 99, 46, 98])) := hide (by rw [unhide HDC, q1]; rfl)
                  go_wp2
                  go_meet
                  exact ⟨by rw [unhide HG], rfl⟩
              case rest =>
                obtain ⟨rfl, hwq⟩ := hcut
                have hwq' := hwq.symm
                subst hwq'
                cases DC with
                | false =>
                  have HN := hide (unhide Hn (by rw [unhide Hdef]; rfl))
                  go_wp2
                  go_roundw
                  case rel => exact ⟨i + 1, by omega, by go_num, unhide HN, trivial⟩
                  case measure => simp [intOf]; omega
                | true =>
                  cases NN with
                  | none =>
                    have HN := hide (unhide Hn (by rw [unhide Hdef]; rfl))
                    go_wp2_with (first
                      | (go_at_call 74; refine (unhide CN _).mono ?_; rintro e w1 ⟨rfl, hw1⟩; have hw1' := hw1.symm; subst hw1')
                      | (go_at_call 78; refine (unhide CH _).mono ?_; rintro e w1 ⟨rfl, hw1⟩; have hw1' := hw1.symm; subst hw1'))
                    go_roundw
                    case rel => exact ⟨i + 1, by omega, by go_num, unhide HN, trivial⟩
                    case measure => simp [intOf]; omega
                  | some v =>
                    cases HH with
                    | true =>
                      have HN := hide (unhide Hn (by rw [unhide Hdef]; rfl))
                      go_wp2_with (first
                        | (go_at_call 74; refine (unhide CN _).mono ?_; rintro e w1 ⟨rfl, hw1⟩; have hw1' := hw1.symm; subst hw1')
                        | (go_at_call 78; refine (unhide CH _).mono ?_; rintro e w1 ⟨rfl, hw1⟩; have hw1' := hw1.symm; subst hw1'))
                      go_roundw
                      case rel => exact ⟨i + 1, by omega, by go_num, unhide HN, trivial⟩
                      case measure => simp [intOf]; omega
                    | false =>
                      have HF : Hid (X = false) := hide (by rw [unhide Hb (by rw [unhide Hdef]; rfl)])
                      go_wp2_with (first
                        | (go_at_call 74; refine (unhide CN _).mono ?_; rintro e w1 ⟨rfl, hw1⟩; have hw1' := hw1.symm; subst hw1')
                        | (go_at_call 78; refine (unhide CH _).mono ?_; rintro e w1 ⟨rfl, hw1⟩; have hw1' := hw1.symm; subst hw1'))
                      go_ret
                      exact ⟨by rw [unhide HF]; rfl, hbw⟩
    · obtain rfl : i = T.length := by omega
      have hX := unhide Hall (fun j hj => unhide Hso j hj)
      clear Hall Hbad Hso hlt HRG HDC CT
      cases T with
      | nil =>
        as_aux_lemma =>
          have HF : Hid (true = X) := hide hX.symm
          clear hX
          go_wp2
          go_ret
          exact ⟨by rw [← unhide HF]; rfl, hbw⟩
      | cons t0 ts =>
        have hX2 : X = Rf.lastNum wd t0 := hX
        clear hX
        obtain ⟨gp, rfl, _, hgl, hgc⟩ := (unhide HS).at 0 (by simp)
        simp only [List.getElem_cons_zero] at hgc
        have htl := unhide Hlt t0 (by simp)
        have CV := hide (fun V => value_ref t0 V (by omega))
        have CN := hide (fun V => number_ref t0 V (by omega))
        have h0I : (0 : Int) < ((t0 :: ts).length : Int) := by simp only [List.length_cons]; omega
        have h0b : (((t0 :: ts).length : Int) == 0) = false := by simp only [beq_eq_false_iff_ne, List.length_cons]; omega
        have h0l : (t0 :: ts).length ≤ 8 := hn
        generalize (t0 :: ts).length = N at *
        unfold Rf.lastNum at hX2
        generalize Rf.value t0 = VV at *
        generalize Strd.number t0 = NN at *
        have C1 := hide (fun lo hi V => in_r (VV.getD 0) lo hi V)
        have C2 := hide (fun lo hi V => in_r (NN.getD 0) lo hi V)
        generalize VV.getD 0 = v at *
        generalize NN.getD 0 = m at *
        cases q1 : (wd == [109, 111, 118, 101, 113]) with
        | true =>
          as_aux_lemma =>
            have HF : Hid (X = Strd.within v (-0x80) 0x7f) := hide (by rw [hX2, if_pos (by simpa using q1)])
            clear hX2
            go_wp2_with (first
              | (go_at_call 114; refine (unhide CV _).mono ?_; rintro e w1 ⟨rfl, hw1⟩; have hw1' := hw1.symm; subst hw1')
              | (go_at_call 74; refine (unhide CN _).mono ?_; rintro e w1 ⟨rfl, hw1⟩; have hw1' := hw1.symm; subst hw1')
              | (go_at_call 115; refine (unhide C1 _ _ _).mono ?_; rintro e w1 ⟨rfl, hw1⟩; have hw1' := hw1.symm; subst hw1'))
            go_ret
            exact ⟨by rw [unhide HF]; rfl, hbw⟩
        | false =>
          rw [if_neg (by simpa using q1)] at hX2
          cases q2 : (wd == [97, 100, 100, 105]) with
          | true =>
            as_aux_lemma =>
              have HF : Hid (X = Strd.within v (-0x8000) 0xffff) := hide (by rw [hX2, if_pos (by simpa using q2)])
              clear hX2
              go_wp2_with (first
                | (go_at_call 114; refine (unhide CV _).mono ?_; rintro e w1 ⟨rfl, hw1⟩; have hw1' := hw1.symm; subst hw1')
                | (go_at_call 74; refine (unhide CN _).mono ?_; rintro e w1 ⟨rfl, hw1⟩; have hw1' := hw1.symm; subst hw1')
                | (go_at_call 115; refine (unhide C1 _ _ _).mono ?_; rintro e w1 ⟨rfl, hw1⟩; have hw1' := hw1.symm; subst hw1'))
              go_ret
              exact ⟨by rw [unhide HF]; rfl, hbw⟩
          | false =>
            rw [if_neg (by simpa using q2)] at hX2
            cases q3 : (wd == [100, 115]) with
            | true =>
              as_aux_lemma =>
                have HF : Hid (X = Strd.within m 0 0x400) := hide (by rw [hX2, if_pos (by simpa using q3)])
                clear hX2
                go_wp2_with (first
                  | (go_at_call 114; refine (unhide CV _).mono ?_; rintro e w1 ⟨rfl, hw1⟩; have hw1' := hw1.symm; subst hw1')
                  | (go_at_call 74; refine (unhide CN _).mono ?_; rintro e w1 ⟨rfl, hw1⟩; have hw1' := hw1.symm; subst hw1')
                  | (go_at_call 115; refine (unhide C2 _ _ _).mono ?_; rintro e w1 ⟨rfl, hw1⟩; have hw1' := hw1.symm; subst hw1'))
                go_ret
                exact ⟨by rw [unhide HF]; rfl, hbw⟩
            | false =>
              rw [if_neg (by simpa using q3)] at hX2
              cases q4 : (wd == [97, 108, 105, 103, 110]) with
              | true =>
                as_aux_lemma =>
                  rw [if_pos (by simpa using q4)] at hX2
                  unfold Strd.isPow at hX2
                  go_upto_region 25 with (first
                    | (go_at_call 114; refine (unhide CV _).mono ?_; rintro e w1 ⟨rfl, hw1⟩; have hw1' := hw1.symm; subst hw1')
                    | (go_at_call 74; refine (unhide CN _).mono ?_; rintro e w1 ⟨rfl, hw1⟩; have hw1' := hw1.symm; subst hw1'))
                  clear CV CN C1 C2
                  cases p2 : (m == 2) with
                  | true =>
                    have HF : Hid (X = true) := hide (by rw [hX2]; simp [*])
                    clear hX2
                    go_wp2
                    go_ret
                    exact ⟨by rw [unhide HF]; rfl, hbw⟩
                  | false =>
                    cases p4 : (m == 4) with
                    | true =>
                      have HF : Hid (X = true) := hide (by rw [hX2]; simp [*])
                      clear hX2
                      go_wp2
                      go_ret
                      exact ⟨by rw [unhide HF]; rfl, hbw⟩
                    | false =>
                      cases p8 : (m == 8) with
                      | true =>
                        have HF : Hid (X = true) := hide (by rw [hX2]; simp [*])
                        clear hX2
                        go_wp2
                        go_ret
                        exact ⟨by rw [unhide HF]; rfl, hbw⟩
                      | false =>
                        cases p16 : (m == 16) with
                        | true =>
                          have HF : Hid (X = true) := hide (by rw [hX2]; simp [*])
                          clear hX2
                          go_wp2
                          go_ret
                          exact ⟨by rw [unhide HF]; rfl, hbw⟩
                        | false =>
                          cases p32 : (m == 32) with
                          | true =>
                            have HF : Hid (X = true) := hide (by rw [hX2]; simp [*])
                            clear hX2
                            go_wp2
                            go_ret
                            exact ⟨by rw [unhide HF]; rfl, hbw⟩
                          | false =>
                            cases p64 : (m == 64) with
                            | true =>
                              have HF : Hid (X = true) := hide (by rw [hX2]; simp [*])
                              clear hX2
                              go_wp2
                              go_ret
                              exact ⟨by rw [unhide HF]; rfl, hbw⟩
                            | false =>
                              cases p128 : (m == 128) with
                              | true =>
                                have HF : Hid (X = true) := hide (by rw [hX2]; simp [*])
                                clear hX2
                                go_wp2
                                go_ret
                                exact ⟨by rw [unhide HF]; rfl, hbw⟩
                              | false =>
                                cases p256 : (m == 256) with
                                | true =>
                                  have HF : Hid (X = true) := hide (by rw [hX2]; simp [*])
                                  clear hX2
                                  go_wp2
                                  go_ret
                                  exact ⟨by rw [unhide HF]; rfl, hbw⟩
                                | false =>
                                  have HF : Hid (X = false) := hide (by rw [hX2]; simp [*])
                                  clear hX2
                                  go_wp2
                                  go_ret
                                  exact ⟨by rw [unhide HF] <;> first | rfl | simp, hbw⟩
              | false =>
                rw [if_neg (by simpa using q4)] at hX2
                cases q5 : (wd == [111, 114, 103]) with
                | true =>
                  as_aux_lemma =>
                    rw [if_pos (by simpa using q5)] at hX2
                    have C3 := hide (fun V => unhide C2 0 16777214 V)
                    generalize Strd.within m 0 16777214 = IN at *
                    cases IN with
                    | true =>
                      have HF : Hid (X = (m.tmod 2 == 0)) := hide (by rw [hX2, Rf.tmod_beq]; rfl)
                      clear hX2
                      go_wp2_with (first
                        | (go_at_call 114; refine (unhide CV _).mono ?_; rintro e w1 ⟨rfl, hw1⟩; have hw1' := hw1.symm; subst hw1')
                        | (go_at_call 74; refine (unhide CN _).mono ?_; rintro e w1 ⟨rfl, hw1⟩; have hw1' := hw1.symm; subst hw1')
                        | (go_at_call 115; refine (unhide C3 _).mono ?_; rintro e w1 ⟨rfl, hw1⟩; have hw1' := hw1.symm; subst hw1'))
                      go_ret
                      exact ⟨by rw [unhide HF] <;> first | rfl | simp, hbw⟩
                    | false =>
                      have HF : Hid (X = false) := hide (by rw [hX2]; rfl)
                      clear hX2
                      go_wp2_with (first
                        | (go_at_call 114; refine (unhide CV _).mono ?_; rintro e w1 ⟨rfl, hw1⟩; have hw1' := hw1.symm; subst hw1')
                        | (go_at_call 74; refine (unhide CN _).mono ?_; rintro e w1 ⟨rfl, hw1⟩; have hw1' := hw1.symm; subst hw1')
                        | (go_at_call 115; refine (unhide C3 _).mono ?_; rintro e w1 ⟨rfl, hw1⟩; have hw1' := hw1.symm; subst hw1'))
                      go_ret
                      exact ⟨by rw [unhide HF]; rfl, hbw⟩
                | false =>
                  as_aux_lemma =>
                    have HF : Hid (X = true) := hide (by rw [hX2, if_neg (by simpa using q5)])
                    clear hX2
                    go_wp2_with (first
                      | (go_at_call 114; refine (unhide CV _).mono ?_; rintro e w1 ⟨rfl, hw1⟩; have hw1' := hw1.symm; subst hw1')
                      | (go_at_call 74; refine (unhide CN _).mono ?_; rintro e w1 ⟨rfl, hw1⟩; have hw1' := hw1.symm; subst hw1'))
                    go_ret
                    exact ⟨by rw [unhide HF]; rfl, hbw⟩
end Go.Proofs.YtegiloiojloaoaaGreatDoor
