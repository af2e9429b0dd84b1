/- What is proved: striderkeep.Least returns true for every slice of items, and leaves it as it was: whoever puts forms behind the jumps himself has no image that is shorter, and one of the ways gives the same image. The package-level tables hold what the program's text lays (the card ties them); no other condition. -/
import Derived.Test.YtegiloiojloaoaaDoorCLeas
import Derived.Test.YtegiloiojloaoaaDoorCArg
import Derived.Test.YtegiloiojloaoaaDoorCards
import Derived.Test.YtegiloiojloaoaaDoorTie
set_option linter.unusedVariables false
set_option linter.unusedSimpArgs false
namespace Go.Proofs.YtegiloiojloaoaaDoor
open Go.ChangeShapes Go.WideShapes Go.ChangeAt Go.RowKit

theorem least_tabs {W : World} (h : laidMetH Tryd.prog Rows.leastRow.laid W) : Tabs W := by
  rw [MakeChecks.laidMetH_plain _ _ _ (by kernel_rfl)] at h
  exact tabs_of h (by simp [Rows.leastRow]) (by simp [Rows.leastRow]) (by simp [Rows.leastRow]) (by simp [Rows.leastRow]) (by simp [Rows.leastRow]) (by simp [Rows.leastRow]) (by simp [Rows.leastRow])
set_option maxRecDepth 100000 in
theorem least_contract (H : Type) (enc : TypeId × Value → H) (W : World) (base : Nat) (args : Array Value) (ds gs : List (DataW H)) (before : List MemPlace)
    (hval : ∀ (j : Nat) t v, Tryd.f4.params[j]? = some t → args[j]? = some v → Value.okWide Tryd.prog W .any base t v)
    (hW : DataW.Whole enc Tryd.prog Tryd.f4.params.toList Rows.leastSpec.vars false W args.toList ds gs before) (hL : laidMetH Tryd.prog Rows.leastRow.laid W) (hS : W.ShapedOpen Tryd.prog) :
    Calls Tryd.prog 4 args W fun e W' => ∃ v, e = .returned v ∧ Rows.leastSpec.post enc Tryd.prog Tryd.f4 false true false false W args v W' := by
  have hW' := hW
  obtain ⟨p, q, hA0, hV, rfl, _, _⟩ := hW
  have hA : DataW.TrodAll enc Tryd.prog W 0 (fun _ => true) true Tryd.f4.params.toList args.toList ds p := hA0
  rw [Tryd.params4] at hA hval
  obtain ⟨v0, d0, rfl, rfl, h0⟩ := trodAll_one hA
  obtain ⟨rfl, rfl⟩ := trodVars_none hV
  obtain ⟨xs, hI, hxl⟩ := items_of (hval 0 22 v0 rfl rfl) h0
  clear hA0
  simp only [List.append_nil] at hW'
  have hlt : ∀ x ∈ p, x.block < W.heap.size := fun x hx => by simpa using hW'.lt x (by simpa using hx)
  refine (Least_c v0 xs W hI hxl (heap_vars hS) (least_tabs hL)).mono fun e W' ⟨he, hb⟩ => ?_
  subst he
  refine ⟨_, rfl, ⟨_, _, _, [], p, [], hW', ?_, ?_, rfl, hb.frame _, fun h => by cases h⟩⟩
  · exact trodAll_cons_mk (shut_bool Tryd.underlying4 _) trodAll_mk0
  · exact trodAll_mk1 (Below.trod laidOut (by kernel_rfl) (of_decide_eq_true (by kernel_rfl)) h0 hb hlt)
theorem least_laid (os : Os) : laidMet Tryd.prog Rows.leastRow.laid ((World.laidAll Tryd.prog os Rows.leastRow.laid).forCall (fun _ _ => 0) ⟨#[], #[.slice none 0 0], []⟩).memory :=
  laidMet_laidAll _ (by kernel_rfl) (by kernel_rfl)
theorem least_reads (os : Os) {H : Type} (enc : TypeId × Value → H) : ∃ places, DataW.whole enc Tryd.prog ((World.laidAll Tryd.prog os Rows.leastRow.laid).forCall (fun _ _ => 0) ⟨#[], #[.slice none 0 0], []⟩).memory Tryd.f4.params.toList Rows.leastSpec.vars false #[Value.slice none 0 0].toList 8 = some ([.nil], [], places) :=
  ⟨[], by kernel_rfl⟩
set_option maxRecDepth 100000 in
theorem least_lifted (os : Os) (started : os.Started) (H : Type) (enc : TypeId × Value → H) (F : Stop.Interp) :
    ReturnsInHanded {} Tryd.checked os 4 .any ((OpenSpec.ofChange Rows.leastSpec).preRow enc Tryd.prog Tryd.f4 Rows.leastRow.domain false Rows.leastRow.laid) (((OpenSpec.ofChange Rows.leastSpec).at F).post enc Tryd.prog Tryd.f4 false true false false) := by
  obtain ⟨places, hx⟩ := least_reads os enc
  refine returnsInHanded_of_row (C := Tryd.checked) (s := OpenSpec.ofChange Rows.leastSpec) own started (by kernel_rfl) Tryd.func4
    (witness_row_at (enc := enc) (C := Tryd.checked) false (World.laidAll Tryd.prog os Rows.leastRow.laid) #[.slice none 0 0] (World.laidAll_os _ _ _) (by kernel_rfl) (by kernel_rfl) (by kernel_rfl)
      (OpenSpec.preRow_of_cond 8 hx (by kernel_rfl) (fun k hk => by cases hk) (by kernel_rfl) (least_laid os))) ?_
  intro W base args ds gs before hval hW _ _ _ hL hS _
  exact least_contract H enc W base args ds gs before hval hW hL hS
theorem least_said : Rows.LeastSaid :=
  OpenClaim.holds_of_cond 4 Tryd.f4 rfl rfl rfl rfl rfl rfl rfl ⟨rfl, rfl, rfl, rfl, rfl⟩ rfl rfl rfl rfl rfl (by kernel_rfl) Tryd.func4 (by kernel_rfl)
    (of_decide_eq_true (by kernel_rfl)) (by unfold Func.isWrapper; first | (rw [if_pos (by decide +kernel)]; kernel_rfl) | (rw [if_neg (by decide +kernel)]; exact ⟨rfl, rfl⟩))
    (fun os started H enc _ F => by rw [OpenClaim.pre_eq_preRow]; exact least_lifted os started H enc F)
theorem least_plain (f : FuncId) (fn : Func) (hf : Tryd.pinned.checked.prog.funcNamed "strider/striderkeep.Least" = some f) (hfn : Tryd.pinned.checked.prog.funcs[f]? = some fn) :
    false = Tryd.pinned.checked.prog.looks [] ∧ ∀ (j : Nat) t, fn.params[j]? = some t → Tryd.pinned.checked.prog.wantsStandIn t = false := by
  obtain rfl : f = 4 := Option.some.inj ((show Tryd.prog.funcNamed "strider/striderkeep.Least" = some 4 by kernel_rfl).symm.trans hf) |>.symm
  obtain rfl : fn = Tryd.f4 := (Option.some.inj (Tryd.func4.symm.trans hfn)).symm
  refine ⟨by kernel_rfl, fun j t ht => ?_⟩
  rw [Tryd.params4] at ht
  have : t = 22 := by
    have := Array.mem_of_getElem? ht
    simp at this
    exact this
  subst this
  exact (show Tryd.prog.wantsStandIn 22 = false by kernel_rfl)
theorem least_card : Rows.LeastCardSaid :=
  Claim7.holds_tied_plain_at .later [] _ _ _ _ least_said (fun _ h => by cases h) (by kernel_rfl) (fun _ h => by cases h) least_row_tie rfl ⟨rfl, rfl⟩ (by kernel_rfl) rfl least_plain (by kernel_rfl)
end Go.Proofs.YtegiloiojloaoaaDoor
