/- What is proved: striderkeep.Round returns true for every number, every string and every slice of items, and leaves them as they were: what Disassemble tells of any image that may be is made into this image again; of what Assemble made, too. The package-level tables hold what the program's text lays (the card ties them); no other condition. -/
import Derived.Test.YtegiloiojloaoaaGreatDoorCBsrc
import Derived.Test.YtegiloiojloaoaaGreatDoorCArg
import Derived.ChangeMaps5
import Derived.Test.YtegiloiojloaoaaGreatDoorCards
import Derived.Test.YtegiloiojloaoaaGreatDoorTie
set_option linter.unusedVariables false
set_option linter.unusedSimpArgs false
namespace Go.Proofs.YtegiloiojloaoaaGreatDoor
open Go.ChangeShapes Go.WideShapes Go.ChangeAt Go.RowKit

theorem round_tabs {W : World} (h : laidMetH Tryz.prog Rows.roundRow.laid W) : Tabs W := by
  rw [MakeChecks.laidMetH_plain _ _ _ (by kernel_rfl)] at h
  exact tabs_of h (by simp [Rows.roundRow]) (by simp [Rows.roundRow]) (by simp [Rows.roundRow]) (by simp [Rows.roundRow]) (by simp [Rows.roundRow]) (by simp [Rows.roundRow]) (by simp [Rows.roundRow])
theorem round_p10 {W : World} (h : laidMetH Tryz.prog Rows.roundRow.laid W) : P10 W := by
  rw [MakeChecks.laidMetH_plain _ _ _ (by kernel_rfl)] at h
  obtain ⟨g, t, cs, fuel, p, hg, ht, hv, hd⟩ := Lib.laidMet.reads h (n := "internal/strconv.uint64pow10") (d := Lib.tabData .u64 Lib.pow10Tab) (by
    have : (Lib.tabData .u64 Lib.pow10Tab : DataW Unit) = Rows.laid_internal_strconv_uint64pow10 := by kernel_rfl
    rw [this]; simp [Rows.roundRow])
  obtain rfl : t = 249 := by
    rw [show Tryz.prog.globalNamed "internal/strconv.uint64pow10" = some 5 by kernel_rfl] at hg
    cases hg
    exact Option.some.inj (ht.symm.trans (by kernel_rfl))
  unfold P10 Lib.TabIs
  rw [hv, ← Lib.cells_of_tab (n := 20) (e := 210) Tryz.underlying249 Tryz.underlying210 (by kernel_rfl) (by kernel_rfl) hd]
set_option maxRecDepth 100000 in
theorem round_contract (H : Type) (enc : TypeId × Value → H) (W : World) (base : Nat) (args : Array Value) (ds gs : List (DataW H)) (before : List MemPlace)
    (hval : ∀ (j : Nat) t v, Tryz.f8.params[j]? = some t → args[j]? = some v → Value.okWide Tryz.prog W .any base t v)
    (hW : DataW.Whole enc Tryz.prog Tryz.f8.params.toList Rows.roundSpec.vars false W args.toList ds gs before) (hL : laidMetH Tryz.prog Rows.roundRow.laid W) (hS : W.ShapedOpen Tryz.prog) :
    Calls Tryz.prog 8 args W fun e W' => ∃ v, e = .returned v ∧ Rows.roundSpec.post enc Tryz.prog Tryz.f8 false true false false W args v W' := by
  have hW' := hW
  obtain ⟨p, q, hA0, hV, rfl, _, _⟩ := hW
  have hA : DataW.TrodAll enc Tryz.prog W 0 (fun _ => true) true Tryz.f8.params.toList args.toList ds p := hA0
  rw [Tryz.params8] at hA hval
  obtain ⟨v0, v1, v2, d0, d1, d2, p0, p1, p2, rfl, rfl, rfl, h0, h1, h2⟩ := trodAll_three hA
  obtain ⟨rfl, rfl⟩ := trodVars_none hV
  obtain ⟨xs, hI, hxl⟩ := items_of (hval 2 40 v2 rfl rfl) h2
  have h0k := h0
  have h1k := h1
  obtain ⟨z0, rfl, rfl, rfl, hz0⟩ := open_int Tryz.underlying3 (hval 0 3 v0 rfl rfl) h0
  obtain ⟨s1, rfl, rfl, rfl, hs1⟩ := Go.ChangeMaps.open_string Tryz.underlying9 (hval 1 9 v1 rfl rfl) h1
  clear hA0
  simp only [List.append_nil, List.nil_append] at hW'
  have hlt : ∀ x ∈ p2, x.block < W.heap.size := fun x hx => by simpa using hW'.lt x (by simpa using hx)
  have hsl : s1.data.toList.length ≤ 9223372036854775807 := by
    have e : s1.data.toList.length = s1.size := by simp
    unfold maxLen at hs1
    omega
  have hC := Round_c z0 s1.data.toList v2 xs W (i64_wf hz0) hsl hI hxl (heap_vars hS) (round_tabs hL) (round_p10 hL)
  rw [show bstr s1.data.toList = s1 from bytes_ext (by simp)] at hC
  refine hC.mono fun e W' ⟨he, hb⟩ => ?_
  subst he
  refine ⟨_, rfl, ⟨_, _, _, [], [] ++ ([] ++ p2), [], hW', ?_, ?_, rfl, hb.frame _, fun h => by cases h⟩⟩
  · exact trodAll_cons_mk (shut_bool Tryz.underlying4 _) trodAll_mk0
  · exact trodAll_mk3 (Below.trod laidOut (by kernel_rfl) (of_decide_eq_true (by kernel_rfl)) h0k hb (fun x hx => by cases hx)) (Below.trod laidOut (by kernel_rfl) (of_decide_eq_true (by kernel_rfl)) h1k hb (fun x hx => by cases hx)) (Below.trod laidOut (by kernel_rfl) (of_decide_eq_true (by kernel_rfl)) h2 hb hlt)
theorem round_laid (os : Os) : laidMet Tryz.prog Rows.roundRow.laid ((World.laidAll Tryz.prog os Rows.roundRow.laid).forCall (fun _ _ => 0) ⟨#[], #[.int .i64 0, .string ⟨#[]⟩, .slice none 0 0], []⟩).memory :=
  laidMet_laidAll _ (by kernel_rfl) (by kernel_rfl)
theorem round_reads (os : Os) {H : Type} (enc : TypeId × Value → H) : ∃ places, DataW.whole enc Tryz.prog ((World.laidAll Tryz.prog os Rows.roundRow.laid).forCall (fun _ _ => 0) ⟨#[], #[.int .i64 0, .string ⟨#[]⟩, .slice none 0 0], []⟩).memory Tryz.f8.params.toList Rows.roundSpec.vars false #[Value.int .i64 0, .string ⟨#[]⟩, .slice none 0 0].toList 8 = some ([.lit (.int .i64 0), .lit (.string []), .nil], [], places) :=
  ⟨[], by kernel_rfl⟩
set_option maxRecDepth 100000 in
theorem round_lifted (os : Os) (started : os.Started) (H : Type) (enc : TypeId × Value → H) (F : Stop.Interp) :
    ReturnsInHanded {} Tryz.checked os 8 .any ((OpenSpec.ofChange Rows.roundSpec).preRow enc Tryz.prog Tryz.f8 Rows.roundRow.domain false Rows.roundRow.laid) (((OpenSpec.ofChange Rows.roundSpec).at F).post enc Tryz.prog Tryz.f8 false true false false) := by
  obtain ⟨places, hx⟩ := round_reads os enc
  refine returnsInHanded_of_row (C := Tryz.checked) (s := OpenSpec.ofChange Rows.roundSpec) own started (by kernel_rfl) Tryz.func8
    (witness_row_at (enc := enc) (C := Tryz.checked) false (World.laidAll Tryz.prog os Rows.roundRow.laid) #[.int .i64 0, .string ⟨#[]⟩, .slice none 0 0] (World.laidAll_os _ _ _) (by kernel_rfl) (by kernel_rfl) (by kernel_rfl)
      (OpenSpec.preRow_of_cond 8 hx (by kernel_rfl) (fun k hk => by cases hk) (by kernel_rfl) (round_laid os))) ?_
  intro W base args ds gs before hval hW _ _ _ hL hS _
  exact round_contract H enc W base args ds gs before hval hW hL hS
theorem round_said : Rows.RoundSaid :=
  OpenClaim.holds_of_cond 8 Tryz.f8 rfl rfl rfl rfl rfl rfl rfl ⟨rfl, rfl, rfl, rfl, rfl⟩ rfl rfl rfl rfl rfl (by kernel_rfl) Tryz.func8 (by kernel_rfl)
    (of_decide_eq_true (by kernel_rfl)) (by unfold Func.isWrapper; first | (rw [if_pos (by decide +kernel)]; kernel_rfl) | (rw [if_neg (by decide +kernel)]; exact ⟨rfl, rfl⟩))
    (fun os started H enc _ F => by rw [OpenClaim.pre_eq_preRow]; exact round_lifted os started H enc F)
theorem round_plain (f : FuncId) (fn : Func) (hf : Tryz.pinned.checked.prog.funcNamed "strider/striderkeep.Round" = some f) (hfn : Tryz.pinned.checked.prog.funcs[f]? = some fn) :
    false = Tryz.pinned.checked.prog.looks [] ∧ ∀ (j : Nat) t, fn.params[j]? = some t → Tryz.pinned.checked.prog.wantsStandIn t = false := by
  obtain rfl : f = 8 := Option.some.inj ((show Tryz.prog.funcNamed "strider/striderkeep.Round" = some 8 by kernel_rfl).symm.trans hf) |>.symm
  obtain rfl : fn = Tryz.f8 := (Option.some.inj (Tryz.func8.symm.trans hfn)).symm
  refine ⟨by kernel_rfl, fun j t ht => ?_⟩
  rw [Tryz.params8] at ht
  have : t = 3 ∨ t = 9 ∨ t = 40 := by
    have := Array.mem_of_getElem? ht
    simp at this
    exact this
  rcases this with rfl | rfl | rfl
  · exact (show Tryz.prog.wantsStandIn 3 = false by kernel_rfl)
  · exact (show Tryz.prog.wantsStandIn 9 = false by kernel_rfl)
  · exact (show Tryz.prog.wantsStandIn 40 = false by kernel_rfl)
theorem round_card : Rows.RoundCardSaid :=
  Claim7.holds_tied_plain_at .later [] _ _ _ _ round_said (fun _ h => by cases h) (by kernel_rfl) (fun _ h => by cases h) round_row_tie rfl ⟨rfl, rfl⟩ (by kernel_rfl) rfl round_plain (by kernel_rfl)
end Go.Proofs.YtegiloiojloaoaaGreatDoor
