/- (Instruction).Append, whole. -/
import Derived.Test.YtegiloiojloaoaaGreatDoorCCode7
import Derived.Test.YtegiloiojloaoaaGreatDoorCCode8
import Derived.Test.YtegiloiojloaoaaGreatDoorCCode9
import Derived.Test.YtegiloiojloaoaaGreatDoorCShort
set_option linter.unusedVariables false
set_option linter.unusedSimpArgs false
namespace Go.Proofs.YtegiloiojloaoaaGreatDoor
open Go.RowKit

theorem Append_c (i : Strd.Ins) (vo v : Value) (form a : Int) (w : World) (base : Nat) (bs : Strd.Bs) (hO : OprsAt w vo i.oprs) (hB : BytesAt base w v bs) (hb : base ≤ w.heap.size) (hl : bs.length ≤ 2 ^ 38) (hf : WfA i) (ha : -2^40 ≤ a ∧ a ≤ 2^40) :
    Calls Tryz.prog 41 #[.agg #[.int .i64 i.op.kind, .int .i64 i.op.base, .int .i64 i.op.number, .int .i64 i.op.first, .int .i64 i.op.last, vo], v, .int .i64 form, .int .i64 a] w fun e w' => ∃ v', e = .returned v' ∧ BytesAt base w' v' (bs ++ Strd.bytes i form a) ∧ Kept base (Tag 5) w w' := by
  by_cases k1 : i.op.kind = 1
  · exact Append_plain i vo v form a w base bs hO hB hb hl k1
  by_cases k2 : i.op.kind = 2
  · exact Append_pair i vo v form a w base bs hO hB hb hl hf k2
  by_cases k3 : i.op.kind = 3
  · exact Append_quick i vo v form a w base bs hO hB hb hl hf k3
  by_cases k4 : i.op.kind = 4 ∨ i.op.kind = 5 ∨ i.op.kind = 6
  · exact Append_jumps i vo v form a w base bs hO hB hb hl hf ha k4
  by_cases k7 : i.op.kind = 7
  · exact Append_words i vo v form a w base bs hO hB hb hl hf k7
  by_cases k8 : i.op.kind = 8
  · exact Append_bytes i vo v form a w base bs hO hB hb hl hf k8
  by_cases k9 : i.op.kind = 9 ∨ i.op.kind = 10
  · exact Append_zeros i vo v form a w base bs hO hB hb hl hf ha k9
  · exact Append_none i vo v form a w base bs hO hB (by omega)
end Go.Proofs.YtegiloiojloaoaaGreatDoor

set_option linter.unusedVariables false
set_option linter.unusedSimpArgs false
namespace Go.Proofs.YtegiloiojloaoaaGreatDoor
open Go.RowKit Go.Shelf Go.Sort Go.Maps

def plc (r : Strd.Rd) (st : List Int) (os : List Strd.Opr) : List Strd.Opr := os.map fun o => ⟨[], Strd.numberOf r.lines st o⟩
set_option maxRecDepth 1000000 in
set_option maxHeartbeats 4000000 in
theorem placed_c (base gp : Nat) (r : Strd.Rd) (fs st : List Int) (i : Strd.Ins) (vo : Value) (w : World) (hP : PlanAt base w gp r fs st) (hO : OprsAt w vo i.oprs) (hz : ∀ o ∈ i.oprs, o.name.length ≤ 2 ^ 20) (h8 : i.oprs.length ≤ 8) (hlen : r.lines.length ≤ 2 ^ 20) :
    Calls Tryz.prog 40 #[.pointer (some ⟨gp, 0, none⟩), .agg #[.int .i64 i.op.kind, .int .i64 i.op.base, .int .i64 i.op.number, .int .i64 i.op.first, .int .i64 i.op.last, vo]] w fun e w' => ∃ vo', e = .returned (.agg #[.int .i64 i.op.kind, .int .i64 i.op.base, .int .i64 i.op.number, .int .i64 i.op.first, .int .i64 i.op.last, vo']) ∧ OprsAt w' vo' (Strd.placed r.lines st i).oprs ∧ Below w.heap.size w w' := by
  obtain ⟨p, cap, rfl⟩ := hO.shape
  obtain ⟨ok, oba, on, of, ol⟩ : ∃ a b c d e, i.op = ⟨a, b, c, d, e⟩ := ⟨_, _, _, _, _, rfl⟩
  have HO := hide hO
  have HP := hide hP
  have Hz := hide hz
  have Hq : Hid ((Strd.placed r.lines st i).oprs = plc r st i.oprs) := hide rfl
  generalize (Strd.placed r.lines st i).oprs = PO at *
  generalize i.oprs = os at *
  generalize i.op.kind = ok at *
  generalize i.op.base = oba at *
  generalize i.op.number = on at *
  generalize i.op.first = of at *
  generalize i.op.last = ol at *
  clear hO hP hz
  obtain ⟨i0, hi, hz0, hz1, hz2⟩ := info_parts Tryz.info136
  have hb1 := below_a w (.cells #[.int .i64 ok, .int .i64 oba, .int .i64 on, .int .i64 of, .int .i64 ol, .slice p os.length cap] 97)
  have Hx1 := hide (box_new w (.cells #[.int .i64 ok, .int .i64 oba, .int .i64 on, .int .i64 of, .int .i64 ol, .slice p os.length cap] 97))
  go_enter Tryz.func40, Tryz.ntmps40
  have hb2 := below_a (w.alloc (.cells #[.int .i64 ok, .int .i64 oba, .int .i64 on, .int .i64 of, .int .i64 ol, .slice p os.length cap] 97)) (.cells #[.int .i64 0, .int .i64 0, .int .i64 0, .int .i64 0, .int .i64 0, .slice none 0 0] 97)
  have Hx2 := hide (box_new (w.alloc (.cells #[.int .i64 ok, .int .i64 oba, .int .i64 on, .int .i64 of, .int .i64 ol, .slice p os.length cap] 97)) (.cells #[.int .i64 0, .int .i64 0, .int .i64 0, .int .i64 0, .int .i64 0, .slice none 0 0] 97))
  have Hx1' := hide (bbox hb2 (unhide Hx1))
  have hB2 := below_t hb1 hb2
  rw [show (w.alloc (.cells #[.int .i64 ok, .int .i64 oba, .int .i64 on, .int .i64 of, .int .i64 ol, .slice p os.length cap] 97)).heap.size = w.heap.size + 1 by simp] at Hx2
  go_upto_region 1 with fail
  clear hb1 hb2 Hx1
  generalize (w.alloc (.cells #[.int .i64 ok, .int .i64 oba, .int .i64 on, .int .i64 of, .int .i64 ol, .slice p os.length cap] 97)).alloc (.cells #[.int .i64 0, .int .i64 0, .int .i64 0, .int .i64 0, .int .i64 0, .slice none 0 0] 97) = w0 at *
  have x5 := box_cell (unhide Hx1') 5
  simp only [List.getElem?_toArray, List.getElem?_cons_zero, List.getElem?_cons_succ] at x5
  have hlx := lt_of_box (unhide Hx1')
  have hlx2 := lt_of_box (unhide Hx2)
  go_wp2_with (at_make; refine wpList_make_full _ rfl _ _ 95 rfl _ 136 i0 (.agg #[.string ⟨#[]⟩, .int .i64 0]) 2 Tryz.underlying95 hi hz0 hz1 .i64 .i64 _ _ os.length rfl rfl rfl rfl (by rw [hz2]; omega) (by unfold maxLen; omega) (Nat.le_refl _) ?_; intro w2 hown hgrow; have hrow : w2.heap[w0.heap.size]? = some (.cells (oprRow [] os.length).toArray 136 (0, 0)) := (by have := own_full2 hown; have e : (madeCells (Value.agg #[.string ⟨#[]⟩, .int .i64 0]).cells (os.length * 2)).toList = oprRow [] os.length := made_pairs _ _ _; rw [e] at this; exact this); have hbl2 : Below w0.heap.size w0 w2 := ⟨hgrow.os, hgrow.tape, hgrow.output, hgrow.size, fun k hk => hgrow.block k hk (by simp)⟩; have Hrow := hide hrow; clear hown hgrow hrow; have y5 := (hbl2.cell (p := ⟨w.heap.size, 5, none⟩) hlx).trans x5; have hly := Nat.lt_of_lt_of_le hlx hbl2.size)
  have Hx2' := hide (bbox hbl2 (unhide Hx2))
  have Hx1'' := hide (bbox hbl2 (unhide Hx1'))
  have hBw2 := below_t hB2 hbl2
  go_loopw [15] (fun c wr => ∃ j : Nat, j ≤ os.length ∧ c = .int .i64 j ∧ wr.heap[w0.heap.size]? = some (.cells (oprRow (plc r st (os.take j)) (os.length - j)).toArray 136 (0, 0)) ∧ Below w0.heap.size w0 wr) (fun c _ => os.length - (intOf c).toNat)
  case atStart => exact ⟨0, by omega, rfl, unhide Hrow, hbl2⟩
  case round =>
    obtain ⟨j, hj, rfl, hrw, hbl⟩ := hrel
    have Hrw := hide hrw
    clear hrw
    have hblw : Below w.heap.size w wr := below_t hB2 hbl
    have hw0 : w.heap.size + 1 < w0.heap.size := hlx2
    by_cases hlt : j < os.length
    · obtain ⟨bo, rfl, _, hbo, hc0, hc1⟩ := ((unhide HO).below hblw).at j hlt
      have hnz := unhide Hz _ (List.getElem_mem hlt)
      have Htk : Hid (os.take (j + 1) = os.take j ++ [os[j]]) := hide (List.take_succ_eq_append_getElem hlt)
      have hjn : (j : Int) < (os.length : Int) := by omega
      generalize os[j] = o at *
      have hba := below_a wr (.cells #[.string (bstr o.name), .int .i64 o.num] 136)
      have Hox := hide (box_new wr (.cells #[.string (bstr o.name), .int .i64 o.num] 136))
      go_upto_region 5 with fail
      have HPa := hide ((unhide HP).below (below_t hblw hba))
      have Hrwa := hide (bbox hba (unhide Hrw))
      have hbla := below_t hbl hba
      clear hc0 hc1
      generalize wr.alloc (.cells #[.string (bstr o.name), .int .i64 o.num] 136) = wa at *
      have o0 := box_cell (unhide Hox) 0
      have o1 := box_cell (unhide Hox) 1
      simp only [List.getElem?_toArray, List.getElem?_cons_zero, List.getElem?_cons_succ] at o0 o1
      have hlo := lt_of_box (unhide Hox)
      go_wp2_with fail
      refine (number_p base gp r fs st o wa (unhide HPa) hnz hlen).mono ?_
      rintro e w3 ⟨rfl, hb3⟩
      have Hnum : Hid (plc r st (os.take (j + 1)) = plc r st (os.take j) ++ [⟨[], Strd.numberOf r.lines st o⟩]) := hide (by rw [unhide Htk]; simp [plc])
      generalize Strd.numberOf r.lines st o = N at *
      obtain ⟨m, hm⟩ : ∃ m, os.length - j = m + 1 := ⟨os.length - j - 1, by omega⟩
      have hpl : (plc r st (os.take j)).length = j := by simp [plc]; omega
      have hrl := oprRow_len (plc r st (os.take j)) (os.length - j)
      have Hrw3 := hide (bbox hb3 (unhide Hrwa))
      have hjl : j * 2 + 1 < (oprRow (plc r st (os.take j)) (os.length - j)).length := by rw [hrl, hpl]; omega
      obtain ⟨u0, hu0⟩ : ∃ u0, w3.cell? ⟨w0.heap.size, j * 2, none⟩ = some u0 := by
        rw [box_cell (unhide Hrw3), List.getElem?_toArray]
        exact ⟨_, List.getElem?_eq_getElem (by omega)⟩
      obtain ⟨u1, hu1⟩ : ∃ u1, w3.cell? ⟨w0.heap.size, j * 2 + 1, none⟩ = some u1 := by
        rw [box_cell (unhide Hrw3), List.getElem?_toArray]
        exact ⟨_, List.getElem?_eq_getElem hjl⟩
      have f0 := box_free (unhide Hrw3) (j * 2)
      have f1 := box_free (unhide Hrw3) (j * 2 + 1)
      have hnew : ((w3.setCell ⟨w0.heap.size, j * 2, none⟩ (.string ⟨#[]⟩)).setCell ⟨w0.heap.size, j * 2 + 1, none⟩ (.int .i64 N)).heap[w0.heap.size]? = some (.cells (oprRow (plc r st (os.take (j + 1))) (os.length - (j + 1))).toArray 136 (0, 0)) := by
        rw [row_two (unhide Hrw3), hm]
        have e := oprRow_set (plc r st (os.take j)) m ⟨[], N⟩
        rw [hpl] at e
        rw [unhide Hnum, show os.length - (j + 1) = m by omega, ← e]
      have Hnew := hide hnew
      have hbl3 : Below w0.heap.size w0 ((w3.setCell ⟨w0.heap.size, j * 2, none⟩ (.string ⟨#[]⟩)).setCell ⟨w0.heap.size, j * 2 + 1, none⟩ (.int .i64 N)) := below_twoAt (below_t hbla hb3) (Nat.le_refl _) _ _ _
      clear hnew hm hrl hjl hpl
      go_wp2
      go_roundw
      case rel => exact ⟨j + 1, by omega, by go_num, unhide Hnew, hbl3⟩
      case measure => simp [intOf]; omega
    · obtain rfl : j = os.length := by omega
      have hO : OprsAt wr (.slice (some ⟨w0.heap.size, 0, none⟩) os.length os.length) PO := by
        have hr := unhide Hrw
        rw [Nat.sub_self, List.take_length] at hr
        have e : oprRow (plc r st os) 0 = encOprs (plc r st os) := by simp [oprRow]
        rw [e] at hr
        have hl : (encOprs (plc r st os)).length = (plc r st os).length * 2 := flatMap_len encOpr 2 (fun _ => rfl) _
        have hol : (plc r st os).length = os.length := by simp [plc]
        rw [unhide Hq]
        show World.ownsRow _ _ _ _ _ _ _
        rw [hol]
        rw [hol] at hl
        exact ⟨hl, .inr ⟨w0.heap.size, os.length, _, rfl, Nat.zero_le _, hr, Nat.le_refl _, by unfold maxLen; omega, by simp [hl], by rw [← hl]; simp⟩⟩
      have HOf := hide hO
      have hbx := bbox hbl (unhide Hx1')
      have c0 := box_cell hbx 0
      have c1 := box_cell hbx 1
      have c2 := box_cell hbx 2
      have c3 := box_cell hbx 3
      have c4 := box_cell hbx 4
      simp only [List.getElem?_toArray, List.getElem?_cons_zero, List.getElem?_cons_succ] at c0 c1 c2 c3 c4
      have hlc := lt_of_box hbx
      have Hx2r := hide (bbox hbl (unhide Hx2))
      clear hO hbx
      go_wp2_with (refine wpList_store_row rfl 97 (.tmp 4) (.tmp 31) rfl (w.heap.size + 1) #[.int .i64 ok, .int .i64 oba, .int .i64 on, .int .i64 of, .int .i64 ol, .slice (some ⟨w0.heap.size, 0, none⟩) os.length os.length] rfl rfl 97 #[.int .i64 0, .int .i64 0, .int .i64 0, .int .i64 0, .int .i64 0, .slice none 0 0] (by exact unhide Hx2r) (by kernel_rfl) rfl (ins_one _ _ _ _ _ _ _ _) ?_)
      refine bodyPost_ret (v := .agg #[.int .i64 ok, .int .i64 oba, .int .i64 on, .int .i64 of, .int .i64 ol, .slice (some ⟨w0.heap.size, 0, none⟩) os.length os.length]) (by exact results_cell1 Tryz.results40 _ _ (w.heap.size + 1) 97 _ _ _ rfl (by exact row_at (unhide Hx2r)) Tryz.underlying97 rfl (by kernel_rfl)) rfl ?_
      exact ⟨_, rfl, ownsRow_row (unhide HOf) (unhide Hx2r) (by decide), below_row hblw (by omega) _⟩
end Go.Proofs.YtegiloiojloaoaaGreatDoor
