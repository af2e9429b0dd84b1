/- What is proved: striderkeep.Dressed returns true for every slice of items and every slice of numbers, and leaves them as they were: blanks, remarks and empty lines change nothing of the image. The package-level tables hold what the program's text lays (the card ties them); no other condition. -/
import Derived.Test.YtegiloiojloaoaaDoorCDrsd
import Derived.Test.YtegiloiojloaoaaDoorCArg
import Derived.Test.YtegiloiojloaoaaDoorCards
import Derived.Test.YtegiloiojloaoaaDoorTie
set_option linter.unusedVariables false
set_option linter.unusedSimpArgs false
namespace Go.Proofs.YtegiloiojloaoaaDoor
open Go.ChangeShapes Go.WideShapes Go.ChangeAt Go.RowKit

set_option maxRecDepth 100000 in
theorem raws_of {H : Type} {enc : TypeId × Value → H} {W : World} {base : Nat} {sp : Nat → Bool} {held : Bool} {v : Value} {d : DataW H} {ps : List MemPlace} {r : Reach} {b0 : Nat} (hval : Value.okWide Tryd.prog W r b0 23 v) (h : DataW.Trod enc Tryd.prog W base sp held 23 v d ps) : ∃ zs, RawAt W v zs ∧ zs.length ≤ 9223372036854775807 := by
  obtain ⟨a0, len0, cap0, rfl⟩ := okWide_slice Tryd.underlying23 hval
  obtain ⟨fuel, h⟩ := h
  rcases Deep.open_slice Tryd.underlying23 h with ⟨hcs, _⟩ | ⟨a, len, cap, m, n, D, Pl, hcs, _, hlc, hcm, hm, _, hel⟩
  · simp [Value.cells] at hcs
    obtain ⟨rfl, rfl, rfl⟩ := hcs
    exact ⟨[], .inl ⟨rfl, _, _, rfl⟩, by simp⟩
  · simp [Value.cells] at hcs
    obtain ⟨rfl, rfl, rfl⟩ := hcs
    have hlm : len0 ≤ m := by rw [hm]; split <;> omega
    have hmx : len0 ≤ 9223372036854775807 := by unfold maxLen at hcm; omega
    by_cases h0 : len0 = 0
    · subst h0
      exact ⟨[], .inl ⟨rfl, _, _, rfl⟩, by simp⟩
    · have hc1 : Tryd.prog.cellsOf 3 = 1 := by kernel_rfl
      have each : ∀ i, i < len0 → ∃ z : Int, W.cell? (a.add i) = some (.int .i64 z) ∧ I64 z := fun i hi => by
        obtain ⟨cs', h1, h2⟩ := hel i (by omega)
        rw [hc1] at h1
        obtain ⟨_, _, hcell⟩ := World.cells?_some h1
        obtain ⟨z, rfl, -, hw⟩ := DataW.trod_int Tryd.underlying3 h2
        have c0 := hcell 0 (by omega)
        rw [Deep.add_add] at c0
        exact ⟨z, by simpa using c0, i64_wf hw⟩
      obtain ⟨q, hq⟩ := @Deep.choose_lt Int ⟨0⟩ _ _ each
      obtain ⟨b, off, spot⟩ := a
      have hspot : spot = none := by
        have := World.cell?_spot (hq 0 (by omega)).1
        simpa [Addr.add] using this
      subst hspot
      have hadd : ∀ k, (⟨b, off, none⟩ : Addr).add k = ⟨b, off + k, none⟩ := fun k => by unfold Addr.add; split <;> simp_all
      refine ⟨(List.range len0).map q, .inr ⟨b, off, cap0, by rw [List.length_map, List.length_range], ?_, fun i hi => ?_⟩, by simpa using hmx⟩
      · exact World.block_lt_of_cell? W _ (hq 0 (by omega)).1
      · rw [List.length_map, List.length_range] at hi
        simp only [List.getElem_map, List.getElem_range]
        have := hq i hi
        simp only [hadd] at this
        exact this
theorem dressed_tabs {W : World} (h : laidMetH Tryd.prog Rows.dressedRow.laid W) : Tabs W := by
  rw [MakeChecks.laidMetH_plain _ _ _ (by kernel_rfl)] at h
  exact tabs_of h (by simp [Rows.dressedRow]) (by simp [Rows.dressedRow]) (by simp [Rows.dressedRow]) (by simp [Rows.dressedRow]) (by simp [Rows.dressedRow]) (by simp [Rows.dressedRow]) (by simp [Rows.dressedRow])
set_option maxRecDepth 100000 in
theorem dressed_contract (H : Type) (enc : TypeId × Value → H) (W : World) (base : Nat) (args : Array Value) (ds gs : List (DataW H)) (before : List MemPlace)
    (hval : ∀ (j : Nat) t v, Tryd.f3.params[j]? = some t → args[j]? = some v → Value.okWide Tryd.prog W .any base t v)
    (hW : DataW.Whole enc Tryd.prog Tryd.f3.params.toList Rows.dressedSpec.vars false W args.toList ds gs before) (hL : laidMetH Tryd.prog Rows.dressedRow.laid W) (hS : W.ShapedOpen Tryd.prog) :
    Calls Tryd.prog 3 args W fun e W' => ∃ v, e = .returned v ∧ Rows.dressedSpec.post enc Tryd.prog Tryd.f3 false true false false W args v W' := by
  have hW' := hW
  obtain ⟨p, q, hA0, hV, rfl, _, _⟩ := hW
  have hA : DataW.TrodAll enc Tryd.prog W 0 (fun _ => true) true Tryd.f3.params.toList args.toList ds p := hA0
  rw [Tryd.params3] at hA hval
  obtain ⟨v0, v1, d0, d1, p0, p1, rfl, rfl, rfl, h0, h1⟩ := trodAll_two hA
  obtain ⟨rfl, rfl⟩ := trodVars_none hV
  obtain ⟨xs, hI, hxl⟩ := items_of (hval 0 22 v0 rfl rfl) h0
  obtain ⟨zs, hR, hzl⟩ := raws_of (hval 1 23 v1 rfl rfl) h1
  clear hA0
  simp only [List.append_nil] at hW'
  have hlt : ∀ x ∈ p0 ++ p1, x.block < W.heap.size := fun x hx => by simpa using hW'.lt x (by simpa using hx)
  refine (Dressed_c v0 v1 xs zs W hI hxl hR hzl (heap_vars hS) (dressed_tabs hL)).mono fun e W' ⟨he, hb⟩ => ?_
  subst he
  refine ⟨_, rfl, ⟨_, _, _, [], p0 ++ p1, [], hW', ?_, ?_, rfl, hb.frame _, fun h => by cases h⟩⟩
  · exact trodAll_cons_mk (shut_bool Tryd.underlying4 _) trodAll_mk0
  · exact trodAll_mk2 (Below.trod laidOut (by kernel_rfl) (of_decide_eq_true (by kernel_rfl)) h0 hb (fun x hx => hlt x (List.mem_append_left _ hx))) (Below.trod laidOut (by kernel_rfl) (of_decide_eq_true (by kernel_rfl)) h1 hb (fun x hx => hlt x (List.mem_append_right _ hx)))
theorem dressed_laid (os : Os) : laidMet Tryd.prog Rows.dressedRow.laid ((World.laidAll Tryd.prog os Rows.dressedRow.laid).forCall (fun _ _ => 0) ⟨#[], #[.slice none 0 0, .slice none 0 0], []⟩).memory :=
  laidMet_laidAll _ (by kernel_rfl) (by kernel_rfl)
theorem dressed_reads (os : Os) {H : Type} (enc : TypeId × Value → H) : ∃ places, DataW.whole enc Tryd.prog ((World.laidAll Tryd.prog os Rows.dressedRow.laid).forCall (fun _ _ => 0) ⟨#[], #[.slice none 0 0, .slice none 0 0], []⟩).memory Tryd.f3.params.toList Rows.dressedSpec.vars false #[Value.slice none 0 0, .slice none 0 0].toList 8 = some ([.nil, .nil], [], places) :=
  ⟨[], by kernel_rfl⟩
set_option maxRecDepth 100000 in
theorem dressed_lifted (os : Os) (started : os.Started) (H : Type) (enc : TypeId × Value → H) (F : Stop.Interp) :
    ReturnsInHanded {} Tryd.checked os 3 .any ((OpenSpec.ofChange Rows.dressedSpec).preRow enc Tryd.prog Tryd.f3 Rows.dressedRow.domain false Rows.dressedRow.laid) (((OpenSpec.ofChange Rows.dressedSpec).at F).post enc Tryd.prog Tryd.f3 false true false false) := by
  obtain ⟨places, hx⟩ := dressed_reads os enc
  refine returnsInHanded_of_row (C := Tryd.checked) (s := OpenSpec.ofChange Rows.dressedSpec) own started (by kernel_rfl) Tryd.func3
    (witness_row_at (enc := enc) (C := Tryd.checked) false (World.laidAll Tryd.prog os Rows.dressedRow.laid) #[.slice none 0 0, .slice none 0 0] (World.laidAll_os _ _ _) (by kernel_rfl) (by kernel_rfl) (by kernel_rfl)
      (OpenSpec.preRow_of_cond 8 hx (by kernel_rfl) (fun k hk => by cases hk) (by kernel_rfl) (dressed_laid os))) ?_
  intro W base args ds gs before hval hW _ _ _ hL hS _
  exact dressed_contract H enc W base args ds gs before hval hW hL hS
theorem dressed_said : Rows.DressedSaid :=
  OpenClaim.holds_of_cond 3 Tryd.f3 rfl rfl rfl rfl rfl rfl rfl ⟨rfl, rfl, rfl, rfl, rfl⟩ rfl rfl rfl rfl rfl (by kernel_rfl) Tryd.func3 (by kernel_rfl)
    (of_decide_eq_true (by kernel_rfl)) (by unfold Func.isWrapper; first | (rw [if_pos (by decide +kernel)]; kernel_rfl) | (rw [if_neg (by decide +kernel)]; exact ⟨rfl, rfl⟩))
    (fun os started H enc _ F => by rw [OpenClaim.pre_eq_preRow]; exact dressed_lifted os started H enc F)
theorem dressed_plain (f : FuncId) (fn : Func) (hf : Tryd.pinned.checked.prog.funcNamed "strider/striderkeep.Dressed" = some f) (hfn : Tryd.pinned.checked.prog.funcs[f]? = some fn) :
    false = Tryd.pinned.checked.prog.looks [] ∧ ∀ (j : Nat) t, fn.params[j]? = some t → Tryd.pinned.checked.prog.wantsStandIn t = false := by
  obtain rfl : f = 3 := Option.some.inj ((show Tryd.prog.funcNamed "strider/striderkeep.Dressed" = some 3 by kernel_rfl).symm.trans hf) |>.symm
  obtain rfl : fn = Tryd.f3 := (Option.some.inj (Tryd.func3.symm.trans hfn)).symm
  refine ⟨by kernel_rfl, fun j t ht => ?_⟩
  rw [Tryd.params3] at ht
  have : t = 22 ∨ t = 23 := by
    have := Array.mem_of_getElem? ht
    simp at this
    exact this
  rcases this with rfl | rfl
  · exact (show Tryd.prog.wantsStandIn 22 = false by kernel_rfl)
  · exact (show Tryd.prog.wantsStandIn 23 = false by kernel_rfl)
theorem dressed_card : Rows.DressedCardSaid :=
  Claim7.holds_tied_plain_at .later [] _ _ _ _ dressed_said (fun _ h => by cases h) (by kernel_rfl) (fun _ h => by cases h) dressed_row_tie rfl ⟨rfl, rfl⟩ (by kernel_rfl) rfl dressed_plain (by kernel_rfl)
end Go.Proofs.YtegiloiojloaoaaDoor
