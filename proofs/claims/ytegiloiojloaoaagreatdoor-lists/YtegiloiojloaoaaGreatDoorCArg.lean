/- Arguments: a slice of items; the heap holds the variables. -/
import Derived.Test.YtegiloiojloaoaaGreatDoorCSrce
import Derived.Test.YtegiloiojloaoaaGreatDoorCTabsL
import Derived.Deep.Slices
import Derived.ProofKit
import Derived.OpenShut
import Derived.Deep.DeepHandedRow
import Derived.Lib.LaidTab
import Derived.Lay
set_option linter.unusedVariables false
set_option linter.unusedSimpArgs false
namespace Go.Proofs.YtegiloiojloaoaaGreatDoor
open Go.ChangeShapes Go.WideShapes Go.ChangeAt Go.RowKit

theorem i64_wf {z : Int} (h : (Lit.int .i64 z).wf = true) : I64 z := by
  simp only [Lit.wf, Bool.and_eq_true, decide_eq_true_eq] at h
  have h1 : IntKind.i64.min = -2^63 := by decide
  have h2 : IntKind.i64.max = 2^63 - 1 := by decide
  unfold I64
  omega
theorem four_of {α : Type} {cs : List α} (h : cs.length = 4) : ∃ a b c d, cs = [a, b, c, d] := by
  match cs, h with
  | [a, b, c, d], _ => exact ⟨a, b, c, d, rfl⟩
theorem item_cells {H : Type} {enc : TypeId × Value → H} {W : World} {base : Nat} {sp : Nat → Bool} {held : Bool} {fuel : Nat} {cs : List Value} {x : DataW H × List MemPlace} (h : DataW.trod enc Tryz.prog W base sp held fuel 79 cs = some x) :
    ∃ it : Strd.Item, cs = [.int .i64 it.kind, .int .i64 it.a, .int .i64 it.b, .int .i64 it.mark] ∧ I64 it.kind ∧ I64 it.a ∧ I64 it.b ∧ I64 it.mark := by
  obtain ⟨xs, n, rfl, hx, hl, hxl, hall⟩ := DataW.trod_struct Tryz.underlying79 h
  rw [show Tryz.prog.cellsOf 79 = 4 by kernel_rfl] at hl
  have hc : Tryz.prog.cellsOf 3 = 1 := by kernel_rfl
  have hxl4 : xs.length = 4 := hxl
  clear hxl
  obtain ⟨y0, y1, y2, y3, rfl⟩ := four_of hxl4
  have h0 : DataW.trod enc Tryz.prog W base sp held n 3 ((cs.drop 0).take (Tryz.prog.cellsOf 3)) = some y0 := hall 0 _ rfl
  have h1 : DataW.trod enc Tryz.prog W base sp held n 3 ((cs.drop 1).take (Tryz.prog.cellsOf 3)) = some y1 := hall 1 _ rfl
  have h2 : DataW.trod enc Tryz.prog W base sp held n 3 ((cs.drop 2).take (Tryz.prog.cellsOf 3)) = some y2 := hall 2 _ rfl
  have h3 : DataW.trod enc Tryz.prog W base sp held n 3 ((cs.drop 3).take (Tryz.prog.cellsOf 3)) = some y3 := hall 3 _ rfl
  clear hall hx h
  rw [hc] at h0 h1 h2 h3
  obtain ⟨z0, e0, -, w0⟩ := DataW.trod_int Tryz.underlying3 h0
  obtain ⟨z1, e1, -, w1⟩ := DataW.trod_int Tryz.underlying3 h1
  obtain ⟨z2, e2, -, w2⟩ := DataW.trod_int Tryz.underlying3 h2
  obtain ⟨z3, e3, -, w3⟩ := DataW.trod_int Tryz.underlying3 h3
  clear h0 h1 h2 h3
  obtain ⟨u0, u1, u2, u3, rfl⟩ := four_of hl
  simp only [List.drop_zero, List.drop_succ_cons, List.take_succ_cons, List.take_zero, List.cons.injEq, and_true] at e0 e1 e2 e3
  exact ⟨⟨z0, z1, z2, z3⟩, by rw [e0, e1, e2, e3], i64_wf w0, i64_wf w1, i64_wf w2, i64_wf w3⟩
set_option maxRecDepth 100000 in
theorem items_of {H : Type} {enc : TypeId × Value → H} {W : World} {base : Nat} {sp : Nat → Bool} {held : Bool} {v : Value} {d : DataW H} {ps : List MemPlace} {r : Reach} {b0 : Nat} (hval : Value.okWide Tryz.prog W r b0 40 v) (h : DataW.Trod enc Tryz.prog W base sp held 40 v d ps) : ∃ xs, ItemsAt W v xs ∧ xs.length ≤ 9223372036854775807 := by
  obtain ⟨a0, len0, cap0, rfl⟩ := okWide_slice Tryz.underlying40 hval
  obtain ⟨fuel, h⟩ := h
  rcases Deep.open_slice Tryz.underlying40 h with ⟨hcs, _⟩ | ⟨a, len, cap, m, n, D, Pl, hcs, _, hlc, hcm, hm, _, hel⟩
  · simp [Value.cells] at hcs
    obtain ⟨rfl, rfl, rfl⟩ := hcs
    exact ⟨[], .inl ⟨rfl, _, _, rfl⟩, by simp⟩
  · simp [Value.cells] at hcs
    obtain ⟨rfl, rfl, rfl⟩ := hcs
    have hlm : len0 ≤ m := by rw [hm]; split <;> omega
    have hmx : len0 ≤ 9223372036854775807 := by unfold maxLen at hcm; omega
    by_cases h0 : len0 = 0
    · subst h0
      exact ⟨[], .inl ⟨rfl, _, _, rfl⟩, by simp⟩
    · have hc4 : Tryz.prog.cellsOf 79 = 4 := by kernel_rfl
      have each : ∀ i, i < len0 → ∃ it : Strd.Item, (W.cell? (a.add (i * 4)) = some (.int .i64 it.kind) ∧ W.cell? (a.add (i * 4 + 1)) = some (.int .i64 it.a) ∧ W.cell? (a.add (i * 4 + 2)) = some (.int .i64 it.b) ∧ W.cell? (a.add (i * 4 + 3)) = some (.int .i64 it.mark)) ∧ I64 it.kind ∧ I64 it.a ∧ I64 it.b ∧ I64 it.mark := fun i hi => by
        obtain ⟨cs', h1, h2⟩ := hel i (by omega)
        rw [hc4] at h1
        obtain ⟨_, _, hcell⟩ := World.cells?_some h1
        obtain ⟨it, rfl, hr⟩ := item_cells h2
        have c0 := hcell 0 (by omega)
        have c1 := hcell 1 (by omega)
        have c2 := hcell 2 (by omega)
        have c3 := hcell 3 (by omega)
        rw [Deep.add_add] at c0 c1 c2 c3
        exact ⟨it, ⟨by simpa using c0, by simpa using c1, by simpa using c2, by simpa using c3⟩, hr⟩
      obtain ⟨q, hq⟩ := @Deep.choose_lt Strd.Item ⟨⟨0, 0, 0, 0⟩⟩ _ _ each
      obtain ⟨b, off, spot⟩ := a
      have hspot : spot = none := by
        have := World.cell?_spot (hq 0 (by omega)).1.1
        simpa [Addr.add] using this
      subst hspot
      have hadd : ∀ k, (⟨b, off, none⟩ : Addr).add k = ⟨b, off + k, none⟩ := fun k => by unfold Addr.add; split <;> simp_all
      refine ⟨(List.range len0).map q, .inr ⟨b, off, cap0, by rw [List.length_map, List.length_range], ?_, fun i hi => ?_⟩, by simpa using hmx⟩
      · exact World.block_lt_of_cell? W _ (hq 0 (by omega)).1.1
      · rw [List.length_map, List.length_range] at hi
        simp only [List.getElem_map, List.getElem_range]
        have := hq i hi
        simp only [hadd] at this
        exact ⟨⟨this.1.1, this.1.2.1, this.1.2.2.1, this.1.2.2.2⟩, this.2⟩
theorem own : ownKnob Tryz.prog.godebug = none := by kernel_rfl
theorem laidOut : laidOutB Tryz.prog = true := by kernel_rfl
theorem heap_vars {W : World} (h : W.ShapedOpen Tryz.prog) : 11 ≤ W.heap.size := by
  obtain ⟨cs, hc, _⟩ := h.1 10 #[.int .i64 0] 3 (of_decide_eq_true (by kernel_rfl)) (by kernel_rfl)
  exact lt_of_box hc
end Go.Proofs.YtegiloiojloaoaaGreatDoor
