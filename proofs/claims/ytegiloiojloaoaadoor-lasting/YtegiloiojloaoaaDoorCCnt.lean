/- The contract of (Made).count (the door alone has it). -/
import Derived.Test.YtegiloiojloaoaaDoorCSrce
set_option linter.unusedVariables false
set_option linter.unusedSimpArgs false
namespace Go.Proofs.YtegiloiojloaoaaDoor
open Go.RowKit Go.Shelf Go.Sort Go.Maps

theorem jIdx_all (ms : List Strd.ML) : Strd.jIdx ms ms.length = Strd.jumpsIn ms := by unfold Strd.jIdx Strd.jumpsIn; rw [List.take_length]
set_option maxRecDepth 1000000 in
set_option maxHeartbeats 4000000 in
theorem count_c (ms : List Strd.ML) (hlen : ms.length ≤ 40) (base : Nat) (cs : Array Value) (w : World) (hV : MadeV base w cs ms) :
    Calls Tryd.prog 11 #[.agg cs] w fun e w' => e = .returned (.int .i64 (Strd.jumpsIn ms)) ∧ Below w.heap.size w w' := by
  obtain ⟨vr, vl, vw, vt, rfl, hr, hl, hw, ht⟩ := hV
  obtain ⟨pr, cr, rfl⟩ := own_shape hr
  obtain ⟨pl, cl, rfl⟩ := own_shape hl
  obtain ⟨pw, cw, rfl⟩ := own_shape hw
  obtain ⟨pt, ct, rfl⟩ := own_shape ht
  simp only [List.length_map] at hr hl hw ht ⊢
  have Hw := hide hw
  clear hr hl hw ht
  generalize hJ : Strd.jumpsIn ms = J
  have HJ := hide hJ
  clear hJ
  have hb0 := below_a w (.cells #[.slice pr ms.length cr, .slice pl ms.length cl, .slice pw ms.length cw, .slice pt ms.length ct, .int .i64 6] 27)
  have Hbx := hide (box_new w (.cells #[.slice pr ms.length cr, .slice pl ms.length cl, .slice pw ms.length cw, .slice pt ms.length ct, .int .i64 6] 27))
  go_enter Tryd.func11, Tryd.ntmps11
  go_upto_region 1 with fail
  generalize w.alloc (.cells #[.slice pr ms.length cr, .slice pl ms.length cl, .slice pw ms.length cw, .slice pt ms.length ct, .int .i64 6] 27) = w0 at *
  have z2 := box_cell (unhide Hbx) 2
  simp only [List.getElem?_toArray, List.getElem?_cons_zero, List.getElem?_cons_succ] at z2
  have hlz := lt_of_box (unhide Hbx)
  go_wp2_with fail
  go_loopw [3, 4] (fun c3 c4 wr => ∃ i : Nat, i ≤ ms.length ∧ c3 = .int .i64 (Strd.jIdx ms i) ∧ c4 = .int .i64 i ∧ wr = w0) (fun _ c _ => ms.length - (intOf c).toNat)
  case atStart => exact ⟨0, by omega, rfl, rfl, rfl⟩
  case round =>
    obtain ⟨i, hi, rfl, rfl, hwr⟩ := hrel
    subst hwr
    have hji := jIdx_le ms i
    by_cases hlt : i < ms.length
    · have hltI : (i : Int) < (ms.length : Int) := by omega
      obtain ⟨bw, hpw, -, hbw, kw⟩ := ((unhide Hw).below hb0).at i (by simpa using hlt)
      subst hpw
      simp only [List.getElem_map] at kw
      have Hjs := hide (jIdx_succ ms i hlt)
      generalize ms[i].word = wd at *
      generalize hn : Strd.jIdx ms i = n at *
      have ew : IntKind.i64.wrap ((n : Int) + 1) = (n : Int) + 1 := IntWalk.i64_in _ (by omega)
      have ei : IntKind.i64.wrap ((i : Int) + 1) = (i : Int) + 1 := IntWalk.i64_in _ (by omega)
      by_cases hwd : wd < 0
      · have h0 : ¬ 0 ≤ wd := by omega
        have Hj2 : Hid (Strd.jIdx ms (i + 1) = n) := hide (by rw [unhide Hjs, if_pos hwd]; rfl)
        clear hn
        go_wp2
        go_roundw
        case rel => exact ⟨i + 1, by omega, by rw [unhide Hj2], by go_num, by first | rfl | trivial⟩
        case measure => simp [intOf]; omega
      · have h0 : 0 ≤ wd := by omega
        have Hj2 : Hid (Strd.jIdx ms (i + 1) = n + 1) := hide (by rw [unhide Hjs, if_neg hwd])
        clear hn
        go_wp2
        go_roundw
        case rel => exact ⟨i + 1, by omega, by rw [unhide Hj2]; rfl, by go_num, by first | rfl | trivial⟩
        case measure => simp [intOf]; omega
    · obtain rfl : i = ms.length := by omega
      have Hfin : Hid (Strd.jIdx ms ms.length = J) := hide (by rw [jIdx_all]; exact unhide HJ)
      go_wp2
      go_ret
      exact ⟨by rw [← unhide Hfin]; rfl, hb0⟩
end Go.Proofs.YtegiloiojloaoaaDoor
