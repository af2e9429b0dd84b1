/- Where lines begin in a made source; Names at an error. -/
import Derived.Test.YtegiloiojloaoaaGreatDoorCSrce
set_option linter.unusedVariables false
set_option linter.unusedSimpArgs false
namespace Go.Proofs.YtegiloiojloaoaaGreatDoor
open Go.RowKit Go.Shelf Go.Sort Go.Maps

def posOf (ps : List (Strd.ML × Nat)) (k : Nat) : Nat := (Strd.srcOf (ps.take k)).length
theorem posOf_zero (ps : List (Strd.ML × Nat)) : posOf ps 0 = 0 := rfl
theorem posOf_end (ps : List (Strd.ML × Nat)) : posOf ps ps.length = (Strd.srcOf ps).length := by unfold posOf; rw [List.take_length]
theorem posOf_succ (ps : List (Strd.ML × Nat)) (n : Nat) (h : n < ps.length) : posOf ps (n + 1) = posOf ps n + ((ps[n].1.text ps[n].2).length + 1) := by
  unfold posOf
  rw [src_take ps n h]
  simp
theorem src_cut (ps : List (Strd.ML × Nat)) (k : Nat) : Strd.srcOf ps = Strd.srcOf (ps.take k) ++ Strd.srcOf (ps.drop k) := by
  rw [← Strd.src_app, List.take_append_drop]
theorem posOf_le (ps : List (Strd.ML × Nat)) (k : Nat) : posOf ps k ≤ (Strd.srcOf ps).length := by
  rw [src_cut ps k, List.length_append]; unfold posOf; omega
theorem src_at (ps : List (Strd.ML × Nat)) (ho : ∀ p ∈ ps, Strd.PairOk p) (n : Nat) (hn : n < ps.length) (i : Nat) (h1 : posOf ps n ≤ i) (h2 : i < posOf ps (n + 1)) : ∃ c, (Strd.srcOf ps)[i]? = some c ∧ (c = 10 ↔ i + 1 = posOf ps (n + 1)) := by
  have hp := posOf_succ ps n hn
  have h10 := Strd.ml_no10 ps[n].1 (ho _ (List.getElem_mem hn)).1 ps[n].2 (ho _ (List.getElem_mem hn)).2
  have e : Strd.srcOf ps = Strd.srcOf (ps.take n) ++ ((ps[n].1.text ps[n].2 ++ [10]) ++ Strd.srcOf (ps.drop (n + 1))) := by
    rw [src_cut ps (n + 1), src_take ps n hn, List.append_assoc]
  generalize ps[n].1.text ps[n].2 = T at *
  have hj : i - posOf ps n < (T ++ [10]).length := by rw [List.length_append, List.length_singleton]; omega
  have e2 : (Strd.srcOf ps)[i]? = (T ++ [10])[i - posOf ps n]? := by
    rw [e, List.getElem?_append_right (by exact h1), List.getElem?_append_left (by exact hj)]
    rfl
  rw [e2]
  by_cases hlt : i - posOf ps n < T.length
  · refine ⟨T[i - posOf ps n], by rw [List.getElem?_append_left hlt, List.getElem?_eq_getElem hlt], ?_⟩
    have := h10 _ (List.getElem_mem hlt)
    exact ⟨fun h => absurd h this, fun h => by omega⟩
  · have hq : i - posOf ps n = T.length := by rw [List.length_append, List.length_singleton] at hj; omega
    refine ⟨10, by rw [hq, List.getElem?_append_right (Nat.le_refl _), Nat.sub_self]; rfl, ?_⟩
    exact ⟨fun _ => by omega, fun _ => rfl⟩

set_option maxRecDepth 1000000 in
set_option maxHeartbeats 4000000 in
theorem Names_err (s : ByteArray) (w : World) (hs : s.size ≤ 2 ^ 20) (h11 : 11 ≤ w.heap.size) (hT : Tabs w) (he : (Strd.readSource s.data.toList).2.2 ≠ 0) :
    Calls Tryz.prog 13 #[.string s] w fun e w' => e = .returned (.tuple #[.slice none 0 0, .int .i64 (Strd.readSource s.data.toList).2.1, .int .i64 (Strd.readSource s.data.toList).2.2]) ∧ Below w.heap.size w w' := by
  have hA : layOutOf s.data.toList = (([], []), (Strd.readSource s.data.toList).2.1, (Strd.readSource s.data.toList).2.2) := by unfold layOutOf; rw [if_pos he]
  have cL := layOut_c s w hs h11 hT
  rw [hA] at cL
  generalize (Strd.readSource s.data.toList).2.1 = ln at *
  generalize (Strd.readSource s.data.toList).2.2 = er at *
  have CL := hide cL
  clear cL hA
  go_enter Tryz.func13, Tryz.ntmps13
  go_wp2_with fail
  refine (unhide CL).mono ?_
  rintro e w1 ⟨ps, rfl, ⟨o3, p3, n3, c3, m3, p4, n4, c4, p5, n5, c5, rfl⟩, -, hb1⟩
  have hb2 := below_a w1 (.cells #[.int .i64 o3, .slice p3 n3 c3, .map m3, .slice p4 n4 c4, .slice p5 n5 c5] 67)
  go_wp2
  refine bodyPost_ret (v := .tuple #[.slice none 0 0, .int .i64 (ln : Int), .int .i64 er]) (by simp [results, Tryz.results13]) rfl ?_
  exact ⟨rfl, below_t hb1 hb2⟩
end Go.Proofs.YtegiloiojloaoaaGreatDoor
