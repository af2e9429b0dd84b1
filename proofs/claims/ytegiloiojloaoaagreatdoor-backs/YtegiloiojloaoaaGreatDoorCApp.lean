/- (Instruction).Append, whole. -/
import Derived.Test.YtegiloiojloaoaaGreatDoorCCode7
import Derived.Test.YtegiloiojloaoaaGreatDoorCCode9
set_option linter.unusedVariables false
set_option linter.unusedSimpArgs false
namespace Go.Proofs.YtegiloiojloaoaaGreatDoor
open Go.RowKit

theorem Append_c (i : Strd.Ins) (vo v : Value) (form a : Int) (w : World) (base : Nat) (bs : Strd.Bs) (hO : OprsAt w vo i.oprs) (hB : BytesAt base w v bs) (hb : base ≤ w.heap.size) (hl : bs.length ≤ 2 ^ 38) (hf : WfA i) (ha : -2^40 ≤ a ∧ a ≤ 2^40) :
    Calls Tryz.prog 41 #[.agg #[.int .i64 i.op.kind, .int .i64 i.op.base, .int .i64 i.op.number, .int .i64 i.op.first, .int .i64 i.op.last, vo], v, .int .i64 form, .int .i64 a] w fun e w' => ∃ v', e = .returned v' ∧ BytesAt base w' v' (bs ++ Strd.bytes i form a) ∧ Kept base (Tag 5) w w' := by
  by_cases k1 : i.op.kind = 1
  · exact Append_plain i vo v form a w base bs hO hB hb hl k1
  by_cases k2 : i.op.kind = 2
  · exact Append_pair i vo v form a w base bs hO hB hb hl hf k2
  by_cases k3 : i.op.kind = 3
  · exact Append_quick i vo v form a w base bs hO hB hb hl hf k3
  by_cases k4 : i.op.kind = 4 ∨ i.op.kind = 5 ∨ i.op.kind = 6
  · exact Append_jumps i vo v form a w base bs hO hB hb hl hf ha k4
  by_cases k7 : i.op.kind = 7
  · exact Append_words i vo v form a w base bs hO hB hb hl hf k7
  by_cases k8 : i.op.kind = 8
  · exact Append_bytes i vo v form a w base bs hO hB hb hl hf k8
  by_cases k9 : i.op.kind = 9 ∨ i.op.kind = 10
  · exact Append_zeros i vo v form a w base bs hO hB hb hl hf ha k9
  · exact Append_none i vo v form a w base bs hO hB (by omega)
end Go.Proofs.YtegiloiojloaoaaGreatDoor
