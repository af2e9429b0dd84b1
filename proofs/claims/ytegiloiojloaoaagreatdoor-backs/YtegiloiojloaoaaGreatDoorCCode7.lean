/- Contracts of package code: the bytes of an instruction, kind by kind. -/
import Derived.Test.YtegiloiojloaoaaGreatDoorCCode6
set_option linter.unusedVariables false
set_option linter.unusedSimpArgs false
namespace Go.Proofs.YtegiloiojloaoaaGreatDoor
open Go.RowKit

theorem wr3 (b x y : Int) (hb : 0 ≤ b ∧ b ≤ 65535) (hx : -2^32 ≤ x ∧ x ≤ 2^32) (hy : -2^32 ≤ y ∧ y ≤ 2^32) : IntKind.i64.wrap (IntKind.i64.wrap (b + IntKind.i64.wrap (512 * x)) + y) = b + 512 * x + y := by
  rw [IntWalk.i64_in (512 * x) (by omega), IntWalk.i64_in (b + 512 * x) (by omega), IntWalk.i64_in _ (by omega)]

set_option maxHeartbeats 1000000 in
theorem Append_plain (i : Strd.Ins) (vo v : Value) (form a : Int) (w : World) (base : Nat) (bs : Strd.Bs) (_hO : OprsAt w vo i.oprs) (hB : BytesAt base w v bs) (hb : base ≤ w.heap.size) (hl : bs.length ≤ 2 ^ 38) (hk : i.op.kind = 1) :
    Calls Tryz.prog 41 #[.agg #[.int .i64 i.op.kind, .int .i64 i.op.base, .int .i64 i.op.number, .int .i64 i.op.first, .int .i64 i.op.last, vo], v, .int .i64 form, .int .i64 a] w fun e w' => ∃ v', e = .returned v' ∧ BytesAt base w' v' (bs ++ Strd.bytes i form a) ∧ Kept base (Tag 5) w w' := by
  obtain ⟨p, cap, rfl⟩ := _hO.shape
  have k1 : (i.op.kind == 1) = true := by simp [hk]
  have Hk := hide hk
  have hB0 := hide (hB.below (below_a w (.cells #[.int .i64 i.op.kind, .int .i64 i.op.base, .int .i64 i.op.number, .int .i64 i.op.first, .int .i64 i.op.last, .slice p i.oprs.length cap] 97)))
  clear hk hB _hO
  go_enter Tryz.func41, Tryz.ntmps41
  go_wp2_with fail
  refine (appendWord_c v _ _ base bs (unhide hB0) (by simp; omega) (by omega)).mono ?_
  rintro e w1 ⟨v1, rfl, hB1, hk1⟩
  go_wp2
  go_ret
  refine ⟨v1, rfl, ?_, (Kept.of_below (below_a _ _)).trans hk1⟩
  simpa [Strd.bytes, unhide Hk] using hB1

set_option maxHeartbeats 2000000 in
theorem Append_pair (i : Strd.Ins) (vo v : Value) (form a : Int) (w : World) (base : Nat) (bs : Strd.Bs) (hO : OprsAt w vo i.oprs) (hB : BytesAt base w v bs) (hb : base ≤ w.heap.size) (hl : bs.length ≤ 2 ^ 38) (hf : WfA i) (hk : i.op.kind = 2) :
    Calls Tryz.prog 41 #[.agg #[.int .i64 i.op.kind, .int .i64 i.op.base, .int .i64 i.op.number, .int .i64 i.op.first, .int .i64 i.op.last, vo], v, .int .i64 form, .int .i64 a] w fun e w' => ∃ v', e = .returned v' ∧ BytesAt base w' v' (bs ++ Strd.bytes i form a) ∧ Kept base (Tag 5) w w' := by
  obtain ⟨p, cap, rfl⟩ := hO.shape
  have h2 := hf.two (.inl hk)
  have n0 := hf.num 0
  have n1 := hf.num 1
  have nb := hf.base
  have k1 : (i.op.kind == 1) = false := by simp [hk]
  have k2 : (i.op.kind == 2) = true := by simp [hk]
  have Hk := hide hk
  have hO0 : OprsAt (w.alloc (.cells #[.int .i64 i.op.kind, .int .i64 i.op.base, .int .i64 i.op.number, .int .i64 i.op.first, .int .i64 i.op.last, .slice p i.oprs.length cap] 97)).drew (.slice p i.oprs.length cap) i.oprs := hO.below (below_d (below_a _ _))
  have hB0 : BytesAt base (w.alloc (.cells #[.int .i64 i.op.kind, .int .i64 i.op.base, .int .i64 i.op.number, .int .i64 i.op.first, .int .i64 i.op.last, .slice p i.oprs.length cap] 97)).drew v bs := hB.below (below_d (below_a _ _))
  have hK0 : Kept base (Tag 5) w (w.alloc (.cells #[.int .i64 i.op.kind, .int .i64 i.op.base, .int .i64 i.op.number, .int .i64 i.op.first, .int .i64 i.op.last, .slice p i.oprs.length cap] 97)).drew := .of_below (below_d (below_a _ _))
  have hS0 : base ≤ (w.alloc (.cells #[.int .i64 i.op.kind, .int .i64 i.op.base, .int .i64 i.op.number, .int .i64 i.op.first, .int .i64 i.op.last, .slice p i.oprs.length cap] 97)).drew.heap.size := by simp; omega
  have hT0 : w.heap.size < (w.alloc (.cells #[.int .i64 i.op.kind, .int .i64 i.op.base, .int .i64 i.op.number, .int .i64 i.op.first, .int .i64 i.op.last, .slice p i.oprs.length cap] 97)).drew.heap.size := by simp
  clear hk hB hO hf
  go_enter Tryz.func41, Tryz.ntmps41
  go_wp2
  go_region_with (first
    | (go_at_call 67; refine (number_c i _ _ _ (by omega) (by omega) (by assumption)).mono ?_; rintro e w1 ⟨rfl, hb1⟩; obtain ⟨hc1, hf1⟩ := bcell hb1; have hO1 := OprsAt.below (by assumption) hb1; have hB1 := BytesAt.below (base := base) (by assumption) hb1; have hK1 : Kept base (Tag 5) w w1 := Kept.trans (by assumption) (.of_below hb1); have hS1 : base ≤ w1.heap.size := Nat.le_trans (by assumption) hb1.size; have hT1 : w.heap.size < w1.heap.size := Nat.lt_of_lt_of_le (by assumption) hb1.size)
    | (go_at_call 66; refine (appendWord_c _ _ _ base _ (by assumption) (by assumption) (by omega)).mono ?_; rintro e w2 ⟨v2, rfl, hB2, hk2⟩; have hK2 : Kept base (Tag 5) w w2 := Kept.trans (by assumption) hk2))
  all_goals go_wp2
  all_goals go_ret
  all_goals refine ⟨v2, rfl, ?_, by assumption⟩
  all_goals (rw [wr3 _ _ _ nb n1 n0] at hB2; simpa [Strd.bytes, unhide Hk] using hB2)

end Go.Proofs.YtegiloiojloaoaaGreatDoor

set_option linter.unusedVariables false
set_option linter.unusedSimpArgs false
namespace Go.Proofs.YtegiloiojloaoaaGreatDoor
open Go.RowKit

set_option maxHeartbeats 2000000 in
theorem Append_quick (i : Strd.Ins) (vo v : Value) (form a : Int) (w : World) (base : Nat) (bs : Strd.Bs) (hO : OprsAt w vo i.oprs) (hB : BytesAt base w v bs) (hb : base ≤ w.heap.size) (hl : bs.length ≤ 2 ^ 38) (hf : WfA i) (hk : i.op.kind = 3) :
    Calls Tryz.prog 41 #[.agg #[.int .i64 i.op.kind, .int .i64 i.op.base, .int .i64 i.op.number, .int .i64 i.op.first, .int .i64 i.op.last, vo], v, .int .i64 form, .int .i64 a] w fun e w' => ∃ v', e = .returned v' ∧ BytesAt base w' v' (bs ++ Strd.bytes i form a) ∧ Kept base (Tag 5) w w' := by
  obtain ⟨p, cap, rfl⟩ := hO.shape
  have h2 := hf.two (.inr (.inl hk))
  have n0 := hf.num 0
  have n1 := hf.num 1
  have nb := hf.base
  have k1 : (i.op.kind == 1) = false := by simp [hk]
  have k2 : (i.op.kind == 2) = false := by simp [hk]
  have k3 : (i.op.kind == 3) = true := by simp [hk]
  have Hk := hide hk
  have hO0 : OprsAt (w.alloc (.cells #[.int .i64 i.op.kind, .int .i64 i.op.base, .int .i64 i.op.number, .int .i64 i.op.first, .int .i64 i.op.last, .slice p i.oprs.length cap] 97)).drew (.slice p i.oprs.length cap) i.oprs := hO.below (below_d (below_a _ _))
  have hB0 : BytesAt base (w.alloc (.cells #[.int .i64 i.op.kind, .int .i64 i.op.base, .int .i64 i.op.number, .int .i64 i.op.first, .int .i64 i.op.last, .slice p i.oprs.length cap] 97)).drew v bs := hB.below (below_d (below_a _ _))
  have hK0 : Kept base (Tag 5) w (w.alloc (.cells #[.int .i64 i.op.kind, .int .i64 i.op.base, .int .i64 i.op.number, .int .i64 i.op.first, .int .i64 i.op.last, .slice p i.oprs.length cap] 97)).drew := .of_below (below_d (below_a _ _))
  have hS0 : base ≤ (w.alloc (.cells #[.int .i64 i.op.kind, .int .i64 i.op.base, .int .i64 i.op.number, .int .i64 i.op.first, .int .i64 i.op.last, .slice p i.oprs.length cap] 97)).drew.heap.size := by simp; omega
  have hT0 : w.heap.size < (w.alloc (.cells #[.int .i64 i.op.kind, .int .i64 i.op.base, .int .i64 i.op.number, .int .i64 i.op.first, .int .i64 i.op.last, .slice p i.oprs.length cap] 97)).drew.heap.size := by simp
  clear hk hB hO hf
  have ebits := bits_and_255
  go_enter Tryz.func41, Tryz.ntmps41
  go_wp2
  go_region_with (first
    | (go_at_call 67; refine (number_c i _ _ _ (by omega) (by omega) (by assumption)).mono ?_; rintro e w1 ⟨rfl, hb1⟩; obtain ⟨hc1, hf1⟩ := bcell hb1; have hO1 := OprsAt.below (by assumption) hb1; have hB1 := BytesAt.below (base := base) (by assumption) hb1; have hK1 : Kept base (Tag 5) w w1 := Kept.trans (by assumption) (.of_below hb1); have hS1 : base ≤ w1.heap.size := Nat.le_trans (by assumption) hb1.size; have hT1 : w.heap.size < w1.heap.size := Nat.lt_of_lt_of_le (by assumption) hb1.size)
    | (go_at_call 66; refine (appendWord_c _ _ _ base _ (by assumption) (by assumption) (by omega)).mono ?_; rintro e w2 ⟨v2, rfl, hB2, hk2⟩; have hK2 : Kept base (Tag 5) w w2 := Kept.trans (by assumption) hk2))
  all_goals go_wp2
  all_goals go_ret
  all_goals refine ⟨v2, rfl, ?_, by assumption⟩
  all_goals (rw [wr3 _ _ _ nb n1 (by omega)] at hB2; simpa [Strd.bytes, unhide Hk] using hB2)
end Go.Proofs.YtegiloiojloaoaaGreatDoor
