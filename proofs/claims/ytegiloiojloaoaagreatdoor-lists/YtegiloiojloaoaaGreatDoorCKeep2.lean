/- Contracts of package striderkeep: awake, add. -/
import Derived.Test.YtegiloiojloaoaaGreatDoorCAsm
import Derived.Test.YtegiloiojloaoaaGreatDoorCSpec
import Derived.Test.YtegiloiojloaoaaGreatDoorCKeep1
set_option linter.unusedVariables false
set_option linter.unusedSimpArgs false
namespace Go.Proofs.YtegiloiojloaoaaGreatDoor
open Go.RowKit Go.Shelf Go.Sort Go.Maps

theorem awake_bytes : ∃ S : ByteArray, bstr ([0x67, 0, 0, 0xca] ++ (List.replicate 200 0 ++ [0x4e, 0x75])) = S ∧ S.size = 206 ∧ S.extract 0 4 = ⟨#[103, 0, 0, 202]⟩ ∧ S.extract 204 206 = ⟨#[78, 117]⟩ :=
  ⟨_, rfl, by kernel_rfl, bytes_ext (by rw [toList_extract]; rfl), bytes_ext (by rw [toList_extract]; rfl)⟩
set_option maxRecDepth 1000000 in
set_option maxHeartbeats 4000000 in
theorem awake_c (w : World) (h11 : 11 ≤ w.heap.size) (hT : Tabs w) :
    Calls Tryz.prog 14 #[] w fun e w' => e = .returned (.bool true) ∧ Below w.heap.size w w' := by
  have hA := Assemble_c ⟨#[98, 101, 113, 32, 120, 10, 100, 115, 32, 50, 48, 48, 10, 120, 58, 32, 114, 116, 115]⟩ w (by decide) h11 hT
  have e : Strd.assemble ((⟨#[98, 101, 113, 32, 120, 10, 100, 115, 32, 50, 48, 48, 10, 120, 58, 32, 114, 116, 115]⟩ : ByteArray).data.toList) = ((0, [0x67, 0, 0, 0xca] ++ (List.replicate 200 0 ++ [0x4e, 0x75])), 0, 0) := Strd.awake_is
  rw [e] at hA
  obtain ⟨S, hS, s1, s2, s3⟩ := awake_bytes
  simp only [hS] at hA
  have HA := hide hA
  clear hA hS e
  go_enter Tryz.func14, Tryz.ntmps14
  go_wp2_with fail
  refine (unhide HA).mono ?_
  rintro e w1 ⟨rfl, hb1⟩
  have hb2 := below_a w1 (.cells #[.int .i64 0, .string S] 23)
  have Hx := hide (box_new w1 (.cells #[.int .i64 0, .string S] 23))
  go_upto_region 2 with fail
  have hB := below_t hb1 hb2
  generalize w1.alloc (.cells #[.int .i64 0, .string S] 23) = w2 at *
  generalize w1.heap.size = g at *
  have x0 := box_cell (unhide Hx) 0
  have x1 := box_cell (unhide Hx) 1
  simp only [List.getElem?_toArray, List.getElem?_cons_zero, List.getElem?_cons_succ] at x0 x1
  have hl := lt_of_box (unhide Hx)
  clear hb2
  go_wp2
  go_ret
  exact ⟨rfl, hB⟩
end Go.Proofs.YtegiloiojloaoaaGreatDoor
