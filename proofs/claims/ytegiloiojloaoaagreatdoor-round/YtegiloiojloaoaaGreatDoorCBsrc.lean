/- The contract of back.Source and of strider.Disassemble, for images that may be. -/
import Derived.Test.YtegiloiojloaoaaGreatDoorCMtc
import Derived.Test.YtegiloiojloaoaaGreatDoorCBstr
import Derived.Test.YtegiloiojloaoaaGreatDoorCLaw1
set_option linter.unusedVariables false
set_option linter.unusedSimpArgs false
namespace Go.Proofs.YtegiloiojloaoaaGreatDoor
open Go.RowKit Go.Shelf Go.Sort Go.Maps

namespace Strd
theorem dis_fuel : ∀ (f : Nat) (a : Int) (s : Bs), s.length ≤ f → disFrom f a s = disFrom s.length a s
  | 0, a, s, h => by rw [show s.length = 0 by omega]
  | f + 1, a, s, h => by
    unfold disFrom
    cases s with
    | nil => rfl
    | cons c t =>
      rw [if_neg (by simp)]
      rw [show (c :: t).length = t.length + 1 from rfl]
      simp only
      rw [if_neg (by simp)]
      have hg := good_first (c :: t) (by simp) a
      have hs := hg.size
      have hl : ((c :: t).drop (size (firstIns (c :: t) a) (firstIns (c :: t) a).op.first a).toNat).length ≤ t.length := by
        rw [List.length_drop, List.length_cons]; omega
      rw [List.length_cons] at h
      rw [dis_fuel f _ _ (by omega), ← dis_fuel t.length _ _ hl]
/-- All that is told of the bytes from a place on. -/
def disAll (a : Int) (s : Bs) : List Ins := disFrom s.length a s
theorem dis_nil (a : Int) : disAll a [] = [] := rfl
theorem dis_step (a : Int) (s : Bs) (hs : s ≠ []) : disAll a s = firstIns s a :: disAll (a + size (firstIns s a) (firstIns s a).op.first a) (s.drop (size (firstIns s a) (firstIns s a).op.first a).toNat) := by
  unfold disAll
  cases s with
  | nil => exact (hs rfl).elim
  | cons c t =>
    have hg := good_first (c :: t) (by simp) a
    have hz := hg.size
    rw [show (c :: t).length = t.length + 1 from rfl]
    rw [disFrom, if_neg (by simp)]
    congr 1
    exact dis_fuel _ _ _ (by rw [List.length_drop, List.length_cons]; omega)
theorem disText_cons (i : Ins) (l : List Ins) : disText (i :: l) = (insText i ++ [10]) ++ disText l := by simp [disText]
theorem org_told (n : Int) (h : isPlace n = true) : Told (insOf orgOp [n]) orgOp [n] := by
  have hp := place_rng h
  exact ⟨rfl, List.mem_append_right _ (by simp), rfl, by simp, by
    rw [show roles orgOp.kind [n].length = [2] from rfl]
    simp only [List.zip_cons_cons, List.zip_nil_right, List.mem_cons, List.not_mem_nil, or_false]
    rintro p rfl
    exact ⟨.inr ⟨.inr (.inl rfl), by simp only; omega, by simp only; omega⟩, fun _ => h⟩⟩
theorem told_kind : ∀ o ∈ toldOps, o.kind ≠ 9 ∧ o.kind ≠ 10 := by decide +kernel
theorem told_four {i : Ins} {o : Op} {ns : List Int} (h : Told i o ns) (h4 : o.kind = 4) : ns.length = 2 := by
  have := h.len
  rw [h4] at this
  rw [← this]; rfl
end Strd
theorem Kept.low {base : Nat} {D : Obj → Prop} {w w' : World} (h : Kept base D w w') (hb : base ≤ w.heap.size) : Below base w w' := ⟨h.os, h.tape, h.output, h.size, fun k hk => h.block k (by omega) (.inl hk)⟩
theorem sub_from (S : Strd.Bs) (k : Nat) : (bstr S).extract k S.length = bstr (S.drop k) := bytes_ext (by
  rw [toList_extract, bstr_list, bstr_list, List.take_length])
theorem byteCells_enc (l : Strd.Bs) : Lib.byteCells l = l.map encB := rfl

set_option maxRecDepth 100000 in
set_option maxHeartbeats 4000000 in
theorem Src_true (org : Int) (s : Strd.Bs) (hM : Strd.mayBe org s = true) (w : World) (hT : Tabs w) (hP : P10 w) (h11 : 11 ≤ w.heap.size) :
    Calls Tryz.prog 35 #[.agg #[.int .i64 org, .string (bstr s)]] w fun e w' => e = .returned (.tuple #[.string (bstr (Strd.disassemble org s).1), .int .i64 (Strd.disassemble org s).2]) ∧ Below w.heap.size w w' := by
  have hD : Strd.disassemble org s = (Strd.disText (Strd.disLines org s), 0) := by unfold Strd.disassemble; rw [if_pos hM]
  rw [hD]
  have hM' := hM
  unfold Strd.mayBe at hM'
  simp only [Bool.and_eq_true, decide_eq_true_eq] at hM'
  obtain ⟨⟨hpl, h400⟩, htop⟩ := hM'
  have hpr := Strd.place_rng hpl
  have Hto := hide (Strd.org_told org hpl)
  have hfull : Strd.disText (Strd.disLines org s) = (Strd.insText (Strd.insOf Strd.orgOp [org]) ++ [10]) ++ Strd.disText (Strd.disAll org s) := Strd.disText_cons _ _
  have horgl := (Strd.org_read org hpl).2.2.2
  have HM := hide (fun W => mayBe_c org s W (by omega) (by omega))
  rw [hM] at HM
  have HW := hide (fun W hT h => with_c [111, 114, 103] _ find_org (by decide) org W hT h)
  have Hfull := hide hfull
  generalize Strd.disText (Strd.disLines org s) = FULL at *
  have Hbx := hide (box_new w (.cells #[.int .i64 org, .string (bstr s)] 23))
  have hba := below_a w (.cells #[.int .i64 org, .string (bstr s)] 23)
  have z0 := box_cell (unhide Hbx) 0
  have z1 := box_cell (unhide Hbx) 1
  simp only [List.getElem?_toArray, List.getElem?_cons_zero, List.getElem?_cons_succ] at z0 z1
  have HT := hide hT
  have HP := hide hP
  clear hT hP hM hD hfull
  go_enter Tryz.func35, Tryz.ntmps35
  go_wp2_with (go_at_call 48; refine (unhide HM _).mono ?_; rintro e w2 ⟨rfl, hb2⟩; have y0 := box_cell (bbox (below_t hb2 (below_a w2 (.cells #[.pointer none, .slice none 0 0] 120))) (unhide Hbx)) 0; simp only [List.getElem?_toArray, List.getElem?_cons_zero] at y0)
  have hb3 := below_a w2 (.cells #[.pointer none, .slice none 0 0] 120)
  have Hbx3 := hide (bbox (below_t hb2 hb3) (unhide Hbx))
  have hb03 : Below w.heap.size w _ := below_t hba (below_t hb2 hb3)
  have HX3 : Hid (TextAt w2.heap.size w2.heap.size [] (w2.alloc (.cells #[.pointer none, .slice none 0 0] 120))) := hide (Lib.fresh_isBuilder 120 5 w2)
  have HT3 := hide ((unhide HT).below hb03)
  have HP3 := hide ((unhide HP).below hb03 h11)
  have hl3 : w2.heap.size < (w2.alloc (.cells #[.pointer none, .slice none 0 0] 120)).heap.size := by simp
  have hwb : w.heap.size < w2.heap.size := lt_of_box (bbox hb2 (unhide Hbx))
  clear z0 z1 y0 hba
  generalize w2.alloc (.cells #[.pointer none, .slice none 0 0] 120) = w3 at *
  obtain ⟨B, hB⟩ : ∃ B, w2.heap.size = B := ⟨_, rfl⟩
  rw [hB] at HX3 hl3 hwb ⊢
  have hB11 : 11 ≤ B := by omega
  clear hb2 hb3 hB
  refine (unhide HW w3 (unhide HT3) (by omega)).mono ?_
  rintro e w4 ⟨pw, cw, rfl, hO4, hb4⟩
  have hs4 := hb4.size
  have HO4 := hide hO4
  clear hO4
  go_wp2_with fail
  refine (writeLine_c B B [] (Strd.insOf Strd.orgOp [org]) Strd.orgOp [org] (unhide Hto) (.slice pw 1 cw) w4 ((unhide HX3).below hb4) (unhide HO4) (by simp) ((unhide HT3).below hb4) ((unhide HP3).below hb4 (by omega)) hB11 (by omega) (by omega)).mono ?_
  rintro e w5 ⟨rfl, hX5, hk5⟩
  rw [List.nil_append] at hX5
  have HX5 := hide hX5
  have hs5 := hk5.size
  have HT5 := hide (((unhide HT3).below hb4).keptT hk5 hB11)
  have HP5 := hide (((unhide HP3).below hb4 (by omega)).kept hk5 hB11 (by omega))
  have Hbx5 := hide (kboxB hk5 (bbox hb4 (unhide Hbx3)) (by decide) (by decide))
  have hb05 : Below w.heap.size w w5 := below_t hb03 (below_t hb4 (Below.refl _ _)) |>.trans ((hk5.low (by omega)).mono (by omega))
  clear hX5 HX3 HT3 HP3 Hbx3 hb03 hb4 hk5 HO4
  go_wp2_with fail
  go_loopw [5] (fun c wr => ∃ (k : Nat) (T : Strd.Bs), k ≤ s.length ∧ c = .int .i64 k ∧ TextAt B B T wr ∧ T ++ Strd.disText (Strd.disAll (org + k) (s.drop k)) = FULL ∧ T.length ≤ 15 * k + 15 ∧ Kept B BTag w5 wr) (fun c _ => s.length - (intOf c).toNat)
  case atStart => exact ⟨0, _, by omega, rfl, unhide HX5, by rw [unhide Hfull]; simp, by rw [List.length_append, List.length_singleton]; omega, Kept.refl _ _ _⟩
  case round =>
    obtain ⟨k, T, hk, rfl, hXr, hTr, hTl, hkr⟩ := hrel
    have HXr := hide hXr
    have HTr := hide hTr
    have Hbr := hide (kboxB hkr (unhide Hbx5) (by decide) (by decide))
    have HTa := hide ((unhide HT5).keptT hkr hB11)
    have HPa := hide ((unhide HP5).kept hkr hB11 (by omega))
    have hsr := hkr.size
    have z0 := box_cell (unhide Hbr) 0
    have z1 := box_cell (unhide Hbr) 1
    simp only [List.getElem?_toArray, List.getElem?_cons_zero, List.getElem?_cons_succ] at z0 z1
    clear hXr hTr
    by_cases hlt : k < s.length
    · have hltI : (k : Int) < (s.length : Int) := by omega
      have hw1 : IntKind.i64.wrap (org + (k : Int)) = org + (k : Int) := IntWalk.i64_in _ (by omega)
      have hsub := sub_from s k
      have hne : s.drop k ≠ [] := by intro h; have := congrArg List.length h; rw [List.length_drop] at this; simp at this; omega
      have hg := Strd.good_first (s.drop k) hne (org + k)
      have hstep := Strd.dis_step (org + k) (s.drop k) hne
      have HFi := hide (first_c (s.drop k) hne (org + k) (by rw [List.length_drop]; omega) (by omega) wr (unhide HTa) (by omega))
      generalize Strd.firstIns (s.drop k) (org + k) = i at *
      obtain ⟨o, ns, hto, hk11, hk0⟩ := hg.told
      have hio : i.op = o := by rw [hto.ins]; rfl
      have hol : i.oprs.length = ns.length := by rw [hto.ins]; simp [Strd.insOf]
      have hkd := Strd.told_kind o hto.op
      have hn4 : i.op.kind = 4 ∨ i.op.kind = 9 ∨ i.op.kind = 10 → 1 ≤ i.oprs.length := by
        rw [hio, hol]
        rintro (h | h | h)
        · rw [Strd.told_four hto h]; omega
        · exact (hkd.1 h).elim
        · exact (hkd.2 h).elim
      have hn10 : i.op.kind = 10 → Strd.isPow (Strd.num i 0) = true := by rw [hio]; exact fun h => (hkd.2 h).elim
      have hlen8 : i.oprs.length ≤ 4096 := by have := hto.two; omega
      have hgs := (Strd.good_size hg).2
      have hgz := hg.size
      have hgl := hg.len
      rw [List.length_drop] at hgs
      obtain ⟨z, hz⟩ : ∃ z : Nat, Strd.size i i.op.first (org + k) = (z : Int) := ⟨(Strd.size i i.op.first (org + k)).toNat, by omega⟩
      have Hto2 := hide hto
      have Hstep := hide hstep
      have Hz := hide hz
      have Hn4 := hide hn4
      have Hn10 := hide hn10
      rw [hz] at hgs hgz
      rw [Int.toNat_natCast] at hgs
      have hz1 : 1 ≤ z := by omega
      have hzk : k + z ≤ s.length := by omega
      clear hg hstep hto hio hol hkd hn4 hn10 hgz hz hk11 hk0
      go_wp2_with fail
      refine (unhide HFi).mono ?_
      rintro e w6 ⟨pq, nq, cq, rfl, hO6, hb6⟩
      have HO6 := hide hO6
      have hb7 := below_a w6 (.cells #[.int .i64 i.op.kind, .int .i64 i.op.base, .int .i64 i.op.number, .int .i64 i.op.first, .int .i64 i.op.last, .slice pq nq cq] 97)
      have Hx7 := hide (box_new w6 (.cells #[.int .i64 i.op.kind, .int .i64 i.op.base, .int .i64 i.op.number, .int .i64 i.op.first, .int .i64 i.op.last, .slice pq nq cq] 97))
      have hbr7 := below_t hb6 hb7
      have hs7 := hbr7.size
      clear hO6
      go_wp2_with fail
      generalize w6.alloc (.cells #[.int .i64 i.op.kind, .int .i64 i.op.base, .int .i64 i.op.number, .int .i64 i.op.first, .int .i64 i.op.last, .slice pq nq cq] 97) = w7 at *
      refine (writeLine_c B B T i o ns (unhide Hto2) (.slice pq nq cq) w7 ((unhide HXr).below hbr7) ((unhide HO6).below hb7) (by omega) ((unhide HTa).below hbr7) ((unhide HPa).below hbr7 (by omega)) hB11 (by omega) (by omega)).mono ?_
      rintro e w8 ⟨rfl, hX8, hk8⟩
      have HX8 := hide hX8
      have Hx8 := hide (kboxB hk8 (unhide Hx7) (by decide) (by decide))
      have HO8 := hide (((unhide HO6).below hb7).keptT hk8)
      have y0 := box_cell (unhide Hx8) 0
      have y1 := box_cell (unhide Hx8) 1
      have y2 := box_cell (unhide Hx8) 2
      have y3 := box_cell (unhide Hx8) 3
      have y4 := box_cell (unhide Hx8) 4
      have y5 := box_cell (unhide Hx8) 5
      simp only [List.getElem?_toArray, List.getElem?_cons_zero, List.getElem?_cons_succ] at y0 y1 y2 y3 y4 y5
      have hk58 : Kept B BTag w5 w8 := (hkr.trans (.of_below hbr7)).trans hk8
      clear hX8
      go_wp2_with fail
      refine (Size_c i (.slice pq nq cq) i.op.first (org + k) w8 (by omega) (unhide HO8) hlen8 (unhide Hn4) (unhide Hn10)).mono ?_
      rintro e w9 ⟨rfl, hb9⟩
      rw [unhide Hz]
      have hw2 : IntKind.i64.wrap ((k : Int) + (z : Int)) = (k : Int) + (z : Int) := IntWalk.i64_in _ (by omega)
      have HXN := hide ((unhide HX8).below hb9)
      have hkN : Kept B BTag w5 w9 := hk58.trans (.of_below hb9)
      have HTN : Hid ((T ++ (Strd.insText i ++ [10])) ++ Strd.disText (Strd.disAll (org + (k + z : Nat)) (s.drop (k + z))) = FULL) := hide (by
        rw [← unhide HTr, unhide Hstep, Strd.disText_cons, unhide Hz, Int.toNat_natCast, List.drop_drop, List.append_assoc]
        rw [show org + (k : Int) + (z : Int) = org + ((k + z : Nat) : Int) by omega])
      go_wp2
      go_roundw
      case rel => exact ⟨k + z, _, hzk, by go_num, unhide HXN, unhide HTN, by simp only [List.length_append, List.length_singleton]; omega, hkN⟩
      case measure => simp [intOf]; omega
    · obtain rfl : k = s.length := by omega
      have HF : Hid (T = FULL) := hide (by
        have := unhide HTr
        rw [List.drop_length] at this
        rw [← this, Strd.dis_nil]
        simp [Strd.disText])
      go_wp2_with fail
      refine (Tryz.Builder_String_any B B T wr (unhide HXr) (by omega)).mono ?_
      rintro e w6 ⟨rfl, hb6⟩
      have hbF : Below w.heap.size w w6 := hb05.trans (((hkr.low (by omega)).mono (by omega)).trans (hb6.mono (by omega)))
      go_wp2
      go_ret2
      exact ⟨by rw [← unhide HF]; rfl, hbF⟩
end Go.Proofs.YtegiloiojloaoaaGreatDoor

set_option linter.unusedVariables false
set_option linter.unusedSimpArgs false
namespace Go.Proofs.YtegiloiojloaoaaGreatDoor
open Go.RowKit Go.Shelf Go.Sort Go.Maps

set_option maxHeartbeats 1000000 in
theorem Dis_true (org : Int) (s : Strd.Bs) (hM : Strd.mayBe org s = true) (w : World) (hT : Tabs w) (hP : P10 w) (h11 : 11 ≤ w.heap.size) :
    Calls Tryz.prog 23 #[.agg #[.int .i64 org, .string (bstr s)]] w fun e w' => e = .returned (.tuple #[.string (bstr (Strd.disassemble org s).1), .int .i64 (Strd.disassemble org s).2]) ∧ Below w.heap.size w w' := by
  have hba := below_a w (.cells #[.int .i64 org, .string (bstr s)] 23)
  have HS := hide (Src_true org s hM (w.alloc (.cells #[.int .i64 org, .string (bstr s)] 23)) (hT.below hba) (hP.below hba h11) (Nat.le_trans h11 hba.size))
  have z0 := box_cell (box_new w (.cells #[.int .i64 org, .string (bstr s)] 23)) 0
  have z1 := box_cell (box_new w (.cells #[.int .i64 org, .string (bstr s)] 23)) 1
  simp only [List.getElem?_toArray, List.getElem?_cons_zero, List.getElem?_cons_succ] at z0 z1
  generalize Strd.disassemble org s = D at *
  clear hT hP hM
  go_enter Tryz.func23, Tryz.ntmps23
  go_wp2_with (go_at_call 35; refine (unhide HS).mono ?_; rintro e w2 ⟨rfl, hb2⟩)
  go_ret2
  exact ⟨rfl, below_t hba hb2⟩
theorem may_pick (c : Int) (s : Strd.Bs) (hs : s.length ≤ 400) : Strd.mayBe (2 * Strd.pick c 8388352) s = true := by
  have hp : 0 ≤ Strd.pick c 8388352 ∧ Strd.pick c 8388352 < 8388352 := by
    unfold Strd.pick
    constructor
    · split <;> omega
    · split <;> omega
  generalize Strd.pick c 8388352 = p at *
  unfold Strd.mayBe Strd.isPlace Strd.within Strd.isOdd
  simp only [Bool.and_eq_true, decide_eq_true_eq]
  refine ⟨⟨?_, hs⟩, by omega⟩
  simp
  omega
theorem may_zero (s : Strd.Bs) (hs : s.length ≤ 400) : Strd.mayBe 0 s = true := by
  unfold Strd.mayBe
  rw [show Strd.isPlace 0 = true from rfl]
  simp
  omega
theorem dis_short (org : Int) (s : Strd.Bs) (hM : Strd.mayBe org s = true) (hs : s.length ≤ 400) : (Strd.disassemble org s).1.length ≤ 4000 := by
  unfold Strd.disassemble
  rw [if_pos hM]
  have hpl : Strd.isPlace org = true := by unfold Strd.mayBe at hM; simp only [Bool.and_eq_true] at hM; exact hM.1.1
  have h1 := (Strd.org_read org hpl).2.2.2
  have h2 := Strd.chain_len _ _ _ (Strd.dis_chain s.length org s (Nat.le_refl _))
  show (Strd.disText (Strd.insOf Strd.orgOp [org] :: Strd.disFrom s.length org s)).length ≤ 4000
  rw [Strd.disText_cons]
  simp only [List.length_append, List.length_singleton]
  omega
theorem back_c (org : Int) (s : Strd.Bs) (hM : Strd.mayBe org s = true) (hs : s.length ≤ 400) (w : World) (h11 : 11 ≤ w.heap.size) (hT : Tabs w) :
    Calls Tryz.prog 10 #[.string (bstr (Strd.disassemble org s).1)] w fun e w' => e = .returned (.tuple #[.agg #[.int .i64 org, .string (bstr s)], .int .i64 0, .int .i64 0]) ∧ Below w.heap.size w w' := by
  have h := Assemble_c (bstr (Strd.disassemble org s).1) w (by rw [bstr_size]; have := dis_short org s hM hs; omega) h11 hT
  rw [bstr_list, Strd.round_trip org s hM] at h
  exact h
theorem dis_ok (org : Int) (s : Strd.Bs) (hM : Strd.mayBe org s = true) : (Strd.disassemble org s).2 = 0 := by unfold Strd.disassemble; rw [if_pos hM]
theorem take_bstr (S : Strd.Bs) (n : Nat) : (bstr S).extract 0 n = bstr (S.take n) := bytes_ext (by
  rw [toList_extract, bstr_list, bstr_list, List.drop_zero])
set_option maxRecDepth 1000000 in
set_option maxHeartbeats 4000000 in
theorem Round_c (c : Int) (S : Strd.Bs) (v : Value) (xs : List Strd.Item) (w : World) (hc : -2^63 ≤ c ∧ c < 2^63) (hS : S.length ≤ 9223372036854775807) (hI : ItemsAt w v xs) (hx : xs.length ≤ 9223372036854775807) (h11 : 11 ≤ w.heap.size) (hT : Tabs w) (hP : P10 w) :
    Calls Tryz.prog 8 #[.int .i64 c, .string (bstr S), v] w fun e w' => e = .returned (.bool true) ∧ Below w.heap.size w w' := by
  have HT := hide hT
  have HP := hide hP
  have HI := hide hI
  obtain ⟨pv, cv, rfl⟩ := hI.shape
  clear hT hI hP
  have hm400 : (S.take 400).length ≤ 400 := by rw [List.length_take]; omega
  have hmay := may_pick c (S.take 400) hm400
  have hHT := hide (take_bstr S 400)
  go_enter Tryz.func8, Tryz.ntmps8
  go_wp2_with fail
  refine (awake_c w h11 (unhide HT)).mono ?_
  rintro e w1 ⟨rfl, hb1⟩
  go_upto_if 28 with fail
  go_cut [1] (fun c1 wc => c1 = .string (bstr (S.take 400)) ∧ wc = w1)
  case first =>
    by_cases h4 : 400 < S.length
    · have h4i : (400 : Int) < (S.length : Int) := by omega
      have he := unhide hHT
      go_wp2
      go_meet
      exact ⟨rfl, rfl⟩
    · have h4i : ¬ (400 : Int) < (S.length : Int) := by omega
      have He : Hid (S.take 400 = S) := hide (List.take_of_length_le (by omega))
      go_wp2
      go_meet
      exact ⟨by rw [unhide He], rfl⟩
  case rest =>
    obtain ⟨rfl, hwc⟩ := hcut
    have hwc' := hwc.symm
    subst hwc'
    have hp : 0 ≤ Strd.pick c 8388352 ∧ Strd.pick c 8388352 < 8388352 := by
      unfold Strd.pick
      constructor
      · split <;> omega
      · split <;> omega
    have CP := hide (pick_c c 8388352 w1 hc (by omega))
    generalize S.take 400 = S4 at *
    generalize Strd.pick c 8388352 = P at *
    have hw2 : IntKind.i64.wrap (2 * P) = 2 * P := IntWalk.i64_in _ (by omega)
    have Hmay := hide hmay
    go_wp2_with (go_at_call 17; refine (unhide CP).mono ?_; rintro e wk ⟨rfl, rfl⟩)
    have hb2 := below_a wk (.cells #[.int .i64 (2 * P), .string (bstr S4)] 23)
    have Hx2 := hide (box_new wk (.cells #[.int .i64 (2 * P), .string (bstr S4)] 23))
    have hB2 := below_t hb1 hb2
    generalize wk.alloc (.cells #[.int .i64 (2 * P), .string (bstr S4)] 23) = w2 at *
    generalize wk.heap.size = g at *
    have CB := hide (fun W (hb : Below w.heap.size w W) => back_c (2 * P) S4 (unhide Hmay) hm400 W (Nat.le_trans h11 hb.size) ((unhide HT).below hb))
    refine (Dis_true (2 * P) S4 (unhide Hmay) w2 ((unhide HT).below hB2) ((unhide HP).below hB2 h11) (Nat.le_trans h11 hB2.size)).mono ?_
    rintro e w3 ⟨rfl, hb3⟩
    rw [dis_ok _ _ (unhide Hmay)]
    generalize (Strd.disassemble (2 * P) S4).1 = D at *
    have hB3 := below_t hB2 hb3
    go_wp2_with fail
    refine (unhide CB w3 hB3).mono ?_
    rintro e w4 ⟨rfl, hb4⟩
    have hb5 := below_a w4 (.cells #[.int .i64 (2 * P), .string (bstr S4)] 23)
    have Hx5 := hide (bbox (below_t hb3 (below_t hb4 hb5)) (unhide Hx2))
    have hB5 := below_t hB3 (below_t hb4 hb5)
    have Hy5 := hide (box_new w4 (.cells #[.int .i64 (2 * P), .string (bstr S4)] 23))
    go_upto_region 9 with fail
    generalize w4.alloc (.cells #[.int .i64 (2 * P), .string (bstr S4)] 23) = w5 at *
    generalize w4.heap.size = g4 at *
    have x0 := box_cell (unhide Hx5) 0
    have x1 := box_cell (unhide Hx5) 1
    have y0 := box_cell (unhide Hy5) 0
    have y1 := box_cell (unhide Hy5) 1
    simp only [List.getElem?_toArray, List.getElem?_cons_zero, List.getElem?_cons_succ] at x0 x1 y0 y1
    go_wp2_with fail
    clear x0 x1 y0 y1 hb2 hb3 hb4 hb5 hB2 hB3 CB hw2 CP
    refine (made_c _ xs w5 ((unhide HI).below hB5) hx).mono ?_
    rintro e w6 ⟨cs, rfl, hV, hb6⟩
    have HV := hide hV
    obtain ⟨pr, cr, pl, cl, pw, cw, pt, ct, rfl⟩ := hV.shape
    have hM := Strd.made_msEven xs
    have hMlen := hM.ok.len
    generalize hms : Strd.made xs = ms at *
    have hb7 := below_a w6 (.cells #[.slice pr ms.length cr, .slice pl ms.length cl, .slice pw ms.length cw, .slice pt ms.length ct, .int .i64 6] 44)
    have Hbx := hide (box_new w6 (.cells #[.slice pr ms.length cr, .slice pl ms.length cl, .slice pw ms.length cw, .slice pt ms.length ct, .int .i64 6] 44))
    have HM := hide hM
    clear hV hms hM
    go_upto_region 12 with fail
    have HV7 := hide ((unhide HV).below hb7)
    have hB7 := below_t hB5 (below_t hb6 hb7)
    generalize w6.alloc (.cells #[.slice pr ms.length cr, .slice pl ms.length cl, .slice pw ms.length cw, .slice pt ms.length ct, .int .i64 6] 44) = w7 at *
    generalize w6.heap.size = g6 at *
    have x0 := box_cell (unhide Hbx) 0
    have x1 := box_cell (unhide Hbx) 1
    have x2 := box_cell (unhide Hbx) 2
    have x3 := box_cell (unhide Hbx) 3
    have x4 := box_cell (unhide Hbx) 4
    simp only [List.getElem?_toArray, List.getElem?_cons_zero, List.getElem?_cons_succ] at x0 x1 x2 x3 x4
    go_wp2_with fail
    refine (source_c ms (unhide HM).ok.ok hMlen [] (fun f hf => by cases hf) _ _ _ w7 (unhide HV7) (FormsAt.nil _) (by simp)).mono ?_
    rintro e w8 ⟨rfl, hb8⟩
    have hB8 := below_t hB7 hb8
    have HA := hide (asm_plain (unhide HM) w8 (Nat.le_trans h11 hB8.size) ((unhide HT).below hB8))
    generalize hIB : Strd.imgOf (Strd.Lp ms []) (Strd.F0 ms) = IB at *
    generalize Strd.srcOf (Strd.pairs ms []) = SS at *
    clear x0 x1 x2 x3 x4 hIB hb6 hb7
    go_wp2_with fail
    refine (unhide HA).mono ?_
    rintro e w9 ⟨rfl, hb9⟩
    have hba := below_a w9 (.cells #[.int .i64 0, .string (bstr IB)] 23)
    have Hxa := hide (box_new w9 (.cells #[.int .i64 0, .string (bstr IB)] 23))
    have hBa := below_t hB8 (below_t hb9 hba)
    go_upto_region 13 with fail
    generalize w9.alloc (.cells #[.int .i64 0, .string (bstr IB)] 23) = wa at *
    generalize w9.heap.size = g9 at *
    have x0 := box_cell (unhide Hxa) 0
    have x1 := box_cell (unhide Hxa) 1
    simp only [List.getElem?_toArray, List.getElem?_cons_zero, List.getElem?_cons_succ] at x0 x1
    by_cases h4 : 400 < IB.length
    · have h4i : (400 : Int) < (IB.length : Int) := by omega
      go_wp2
      go_ret
      exact ⟨rfl, hBa⟩
    · have h4i : ¬ (400 : Int) < (IB.length : Int) := by omega
      have hmz := may_zero IB (by omega)
      have Hmz := hide hmz
      have CB := hide (fun W (hb : Below w.heap.size w W) => back_c 0 IB (unhide Hmz) (by omega) W (Nat.le_trans h11 hb.size) ((unhide HT).below hb))
      clear hmz
      go_wp2_with fail
      refine (Dis_true 0 IB (unhide Hmz) wa ((unhide HT).below hBa) ((unhide HP).below hBa h11) (Nat.le_trans h11 hBa.size)).mono ?_
      rintro e wb ⟨rfl, hbb⟩
      rw [dis_ok _ _ (unhide Hmz)]
      generalize (Strd.disassemble 0 IB).1 = E at *
      have hBb := below_t hBa hbb
      go_wp2_with fail
      refine (unhide CB wb hBb).mono ?_
      rintro e wc ⟨rfl, hbc⟩
      have hbd := below_a wc (.cells #[.int .i64 0, .string (bstr IB)] 23)
      have Hxd := hide (bbox (below_t hbb (below_t hbc hbd)) (unhide Hxa))
      have hBd := below_t hBb (below_t hbc hbd)
      have Hyd := hide (box_new wc (.cells #[.int .i64 0, .string (bstr IB)] 23))
      clear x0 x1
      go_upto_region 19 with fail
      generalize wc.alloc (.cells #[.int .i64 0, .string (bstr IB)] 23) = wd at *
      generalize wc.heap.size = gc at *
      have x0 := box_cell (unhide Hxd) 0
      have x1 := box_cell (unhide Hxd) 1
      have y0 := box_cell (unhide Hyd) 0
      have y1 := box_cell (unhide Hyd) 1
      simp only [List.getElem?_toArray, List.getElem?_cons_zero, List.getElem?_cons_succ] at x0 x1 y0 y1
      go_wp2
      go_ret
      exact ⟨rfl, hBd⟩
end Go.Proofs.YtegiloiojloaoaaGreatDoor
