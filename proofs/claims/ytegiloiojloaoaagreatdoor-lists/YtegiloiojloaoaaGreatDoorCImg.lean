/- The contract of (*Plan).Image. -/
import Derived.Test.YtegiloiojloaoaaGreatDoorCApp
import Derived.Test.YtegiloiojloaoaaGreatDoorCWfS
import Derived.Deep.RegionHeld3
import Derived.Laws.BytesArg
set_option linter.unusedVariables false
set_option linter.unusedSimpArgs false
namespace Go.Proofs.YtegiloiojloaoaaGreatDoor
open Go.RowKit Go.Shelf Go.Sort Go.Maps

theorem make88 (c : Int) (h0 : 0 ≤ c) (h1 : c ≤ 2 ^ 40) (W : World) : (Instr.makeSlice 88 (.int .i64 0) (.int .i64 c)).run Tryz.prog W = .ok (.slice (some ⟨W.heap.size, 0, none⟩) 0 c.toNat) (W.alloc (.cells (madeCells #[.int .u8 0] c.toNat) 5)) := by
  obtain ⟨i, hi, hz0, hz1, hz2⟩ := info_parts Tryz.info5
  have h := run_make (P := Tryz.prog) W 88 5 i (.int .u8 0) Tryz.underlying88 hi hz0 .i64 .i64 0 c (by omega) h0 (by rw [hz2]; omega) (by omega)
  rw [hz1, Nat.mul_one] at h
  exact h
theorem bytes_new (base b : Nat) (W : World) (n : Nat) (h : n ≤ 2 ^ 40) (hb : base ≤ b) (hx : W.heap[b]? = some (.cells (madeCells #[.int .u8 0] n) 5 (0, 0))) : BytesAt base W (.slice (some ⟨b, 0, none⟩) 0 n) [] :=
  ⟨by simp, .inr ⟨b, n, _, rfl, hb, hx, Nat.zero_le _, by unfold maxLen; omega, by rw [size_madeCells, Nat.mul_one], by simp⟩⟩
theorem strOf_bytes (bs : Strd.Bs) : strOfNums (bs.map fun b => (b.toNat : Int)) = bstr bs := by
  unfold strOfNums
  have : (bs.map (fun b => (b.toNat : Int))).map (fun n => UInt8.ofNat n.toNat) = bs := by
    rw [List.map_map]
    conv => rhs; rw [← List.map_id bs]
    exact List.map_congr_left fun b _ => by simp
  rw [this]
theorem conv88 {base : Nat} {W : World} {v : Value} {bs : Strd.Bs} (h : BytesAt base W v bs) : (convert 88 9 v).run Tryz.prog W = .ok (.string (bstr bs)) W := by
  rcases h.2 with ⟨rfl, h0⟩ | ⟨g, cap, cur, rfl, hb, hx, _, _, hsz, htk⟩
  · have e := List.eq_nil_of_length_eq_zero h0
    subst e
    exact run_convert_bytes_nil W 88 5 Tryz.underlying88 Tryz.underlying5 0 0 9 Tryz.underlying9
  · have := run_convert_bytes_arg (P := Tryz.prog) W 88 5 Tryz.underlying88 Tryz.underlying5 g 0 bs.length cap (bs.map fun b => (b.toNat : Int)) (by simp) (fun i hi => by
      have hc := box_cell hx i
      rw [Nat.zero_add, hc]
      have e : cur[i]? = (bs.map encB)[i]? := by
        rw [← htk, List.getElem?_take, if_pos (by omega)]
        simp
      rw [e]
      simp [List.getElem?_eq_getElem hi, encB, List.getD_eq_getElem?_getD]) 9 Tryz.underlying9
    rw [strOf_bytes] at this
    exact this

/-- The plan with its blocks named. -/
structure PlanX (base gp : Nat) (r : Strd.Rd) (fs st : List Int) (p : Option Addr) (cap gm : Nat) (qs : List (Strd.Line × Sl)) (bf cf bs cS : Nat) (w : World) : Prop where
  box : w.heap[gp]? = some (.cells #[.int .i64 r.org, .slice p r.lines.length cap, .map (some gm), .slice (some ⟨bf, 0, none⟩) r.lines.length cf, .slice (some ⟨bs, 0, none⟩) (r.lines.length + 1) cS] 67 (0, 0))
  lines : LinesAt base w (.slice p r.lines.length cap) r.lines qs
  labs : LabsAt w gm r.lines.length r.lines
  gm : base ≤ gm
  ints : IntsAt 92 base w (.slice (some ⟨bf, 0, none⟩) r.lines.length cf) fs
  sts : IntsAt 3 base w (.slice (some ⟨bs, 0, none⟩) (r.lines.length + 1) cS) st
  gb : base ≤ gp
  flen : fs.length = r.lines.length
  slen : st.length = r.lines.length + 1
theorem PlanX.plan {base gp : Nat} {r : Strd.Rd} {fs st : List Int} {p : Option Addr} {cap gm : Nat} {qs : List (Strd.Line × Sl)} {bf cf bs cS : Nat} {w : World} (h : PlanX base gp r fs st p cap gm qs bf cf bs cS w) : PlanAt base w gp r fs st :=
  ⟨⟨p, cap, gm, qs, _, _, h.box, h.lines, h.labs, h.gm, h.ints, h.sts⟩, h.gb, h.flen, h.slen⟩
theorem PlanX.below {base gp : Nat} {r : Strd.Rd} {fs st : List Int} {p : Option Addr} {cap gm : Nat} {qs : List (Strd.Line × Sl)} {bf cf bs cS : Nat} {w w' : World} (h : PlanX base gp r fs st p cap gm qs bf cf bs cS w) (hb : Below w.heap.size w w') : PlanX base gp r fs st p cap gm qs bf cf bs cS w' :=
  ⟨bbox hb h.box, h.lines.below hb, h.labs.below hb, h.gm, h.ints.below hb, h.sts.below hb, h.gb, h.flen, h.slen⟩
theorem PlanX.tag {base gp : Nat} {r : Strd.Rd} {fs st : List Int} {p : Option Addr} {cap gm : Nat} {qs : List (Strd.Line × Sl)} {bf cf bs cS : Nat} {w w' : World} (h : PlanX base gp r fs st p cap gm qs bf cf bs cS w) {B : Nat} (hk : Kept B (Tag 5) w w') (hB : base ≤ B) : PlanX base gp r fs st p cap gm qs bf cf bs cS w' := by
  have hk' : Kept base (Tag 5) w w' := hk.mono hB (fun _ h => h)
  exact ⟨kboxE hk' h.box (by decide), h.lines.tag hk' (by decide) (by decide), h.labs.tag hk', h.gm, h.ints.tag hk' (by decide), h.sts.tag hk' (by decide), h.gb, h.flen, h.slen⟩
def Held (gp n bf cf bs cS k : Nat) (f a : Int) (W : World) : Prop := W.cell? ⟨gp, 3, none⟩ = some (.slice (some ⟨bf, 0, none⟩) n cf) ∧ W.cell? ⟨gp, 4, none⟩ = some (.slice (some ⟨bs, 0, none⟩) (n + 1) cS) ∧ W.cell? ⟨bf, k, none⟩ = some (.int .i64 f) ∧ W.cell? ⟨bs, k, none⟩ = some (.int .i64 a)
theorem PlanX.held {base gp : Nat} {r : Strd.Rd} {fs st : List Int} {p : Option Addr} {cap gm : Nat} {qs : List (Strd.Line × Sl)} {bf cf bs cS : Nat} {w : World} (h : PlanX base gp r fs st p cap gm qs bf cf bs cS w) (k : Nat) (hk : k < r.lines.length) : Held gp r.lines.length bf cf bs cS k (fs.getD k 0) (st.getD k 0) w := by
  have h1 : k < fs.length := by rw [h.flen]; exact hk
  have h2 : k < st.length := by rw [h.slen]; omega
  obtain ⟨b1, e1, _, _, c1⟩ := h.ints.at k h1
  obtain ⟨b2, e2, _, _, c2⟩ := h.sts.at k h2
  cases e1
  cases e2
  have c3 := box_cell h.box 3
  have c4 := box_cell h.box 4
  simp only [List.getElem?_toArray, List.getElem?_cons_zero, List.getElem?_cons_succ] at c3 c4
  refine ⟨c3, c4, ?_, ?_⟩
  · rw [c1, List.getD_eq_getElem?_getD, List.getElem?_eq_getElem h1]; rfl
  · rw [c2, List.getD_eq_getElem?_getD, List.getElem?_eq_getElem h2]; rfl
theorem PlanX.lts {base gp : Nat} {r : Strd.Rd} {fs st : List Int} {p : Option Addr} {cap gm : Nat} {qs : List (Strd.Line × Sl)} {bf cf bs cS : Nat} {w : World} (h : PlanX base gp r fs st p cap gm qs bf cf bs cS w) (k : Nat) (hk : k < r.lines.length) : gp < w.heap.size ∧ bf < w.heap.size ∧ bs < w.heap.size := by
  obtain ⟨b1, e1, _, l1, _⟩ := h.ints.at k (by rw [h.flen]; exact hk)
  obtain ⟨b2, e2, _, l2, _⟩ := h.sts.at k (by rw [h.slen]; omega)
  cases e1
  cases e2
  exact ⟨lt_of_box h.box, l1, l2⟩

set_option maxRecDepth 1000000 in
set_option maxHeartbeats 4000000 in
theorem Image_c (base gp : Nat) (r : Strd.Rd) (fs st : List Int) (w : World) (hP : PlanAt base w gp r fs st) (hW : WfR r) (hQ : ∀ l ∈ r.lines, WfQ l) (hst : ∀ a ∈ st, 0 ≤ a ∧ a ≤ 2 ^ 31) (hend : r.org ≤ st.getD r.lines.length 0) :
    Calls Tryz.prog 26 #[.pointer (some ⟨gp, 0, none⟩)] w fun e w' => e = .returned (.agg #[.int .i64 r.org, .string (bstr (Strd.image r.lines st r.lines fs st))]) ∧ Below w.heap.size w w' := by
  have HP := hide hP
  obtain ⟨⟨p, cap, gm, qs, vf, vs, hbx, hL, _, _, hf, hs⟩, _, hfl, hsl⟩ := hP
  obtain ⟨pf, cf, rfl⟩ := hf.shape
  obtain ⟨pS, cS, rfl⟩ := hs.shape
  rw [hfl] at hbx hf
  rw [hsl] at hbx hs
  have hn := hW.len
  have horg := hW.org
  have hE : 0 ≤ st.getD r.lines.length 0 ∧ st.getD r.lines.length 0 ≤ 2 ^ 31 := by
    rw [List.getD_eq_getElem?_getD, List.getElem?_eq_getElem (by omega : r.lines.length < st.length)]
    exact hst _ (List.getElem_mem _)
  have c0 := box_cell hbx 0
  have c1 := box_cell hbx 1
  simp only [List.getElem?_toArray, List.getElem?_cons_zero, List.getElem?_cons_succ] at c0 c1
  have hlg := lt_of_box hbx
  have HL := hide hL
  have Hf := hide hf
  have Hs := hide hs
  have Hbx := hide hbx
  have Hst := hide hst
  generalize hEq : st.getD r.lines.length 0 = E at *
  have HE := hide hEq
  clear hL hf hs hbx hst hEq
  have mk := make88 (E - r.org) (by omega) (by omega)
  have ew : IntKind.i64.wrap (E - r.org) = E - r.org := IntWalk.i64_in _ (by omega)
  have hb0 := below_a w (.cells #[.int .i64 0, .string ⟨#[]⟩] 23)
  have Hr0 := hide (box_new w (.cells #[.int .i64 0, .string ⟨#[]⟩] 23))
  go_enter Tryz.func26, Tryz.ntmps26
  go_upto_region 1 with fail
  have HP0 := hide ((unhide HP).below hb0)
  have c0' := (hb0.cell (p := ⟨gp, 0, none⟩) hlg).trans c0
  have c1' := (hb0.cell (p := ⟨gp, 1, none⟩) hlg).trans c1
  have hlg' : gp < (w.alloc (.cells #[.int .i64 0, .string ⟨#[]⟩] 23)).heap.size := Nat.lt_of_lt_of_le hlg hb0.size
  clear c0 c1
  generalize w.alloc (.cells #[.int .i64 0, .string ⟨#[]⟩] 23) = w0 at *
  go_cut [3] (fun v wc => BytesAt w.heap.size wc v [] ∧ Below w0.heap.size w0 wc)
  case first =>
    go_region_held3 (fun W => W.cell? ⟨gp, 0, none⟩ = some (.int .i64 r.org)) (first | go_keep | exact hk1) (first
      | (go_at_call 39; refine (end_c base gp r fs st _ ?_ hW).mono ?_; (first | exact unhide HP0 | exact (unhide HP0).below (below_d (Below.refl _ _))); rintro e w1 ⟨rfl, hb1⟩; rw [unhide HE]; have hB1 : Below w0.heap.size w0 w1 := (by first | exact hb1 | exact below_t (below_d (Below.refl _ _)) hb1); have hk1 : w1.cell? ⟨gp, 0, none⟩ = some (.int .i64 r.org) := (hB1.cell (p := ⟨gp, 0, none⟩) hlg').trans c0'; have hl1 : gp < w1.heap.size := Nat.lt_of_lt_of_le hlg' hB1.size))
    all_goals go_wp2_with fail
    all_goals go_meet
    all_goals exact ⟨bytes_new _ _ _ _ (by omega) (Nat.le_trans hb0.size hB1.size) (box_new _ _), below_t hB1 (below_a _ _)⟩
  case rest =>
    obtain ⟨hB0, hbc⟩ := hcut
    have HB0 := hide hB0
    have hbw := below_t hb0 hbc
    have HPc := hide ((unhide HP0).below hbc)
    have HLc := hide ((unhide HL).below hbw)
    have Hfc := hide ((unhide Hf).below hbw)
    have Hsc := hide ((unhide Hs).below hbw)
    have hbxc := bbox hbw (unhide Hbx)
    have d1 := box_cell hbxc 1
    simp only [List.getElem?_toArray, List.getElem?_cons_zero, List.getElem?_cons_succ] at d1
    have hld := lt_of_box hbxc
    have Hbxc := hide hbxc
    have Hrc := hide (bbox hbc (unhide Hr0))
    clear hB0 hbxc c0' c1' mk ew
    go_wp2_with fail
    go_loopw [3, 21] (fun v c wr => ∃ k : Nat, k ≤ r.lines.length ∧ c = .int .i64 k ∧ BytesAt w.heap.size wr v (Strd.image r.lines st (r.lines.take k) (fs.take k) (st.take k)) ∧ (Strd.image r.lines st (r.lines.take k) (fs.take k) (st.take k)).length ≤ 1024 * k ∧ Kept w.heap.size (Tag 5) wc wr) (fun _ c _ => r.lines.length - (intOf c).toNat)
    case atStart => exact ⟨0, by omega, rfl, unhide HB0, by simp [Strd.image], Kept.refl _ _ _⟩
    case round =>
      obtain ⟨k, hk, rfl, hB, hBl, hKk⟩ := hrel
      have HB := hide hB
      have HBl := hide hBl
      clear hB hBl
      by_cases hlt : k < r.lines.length
      · have hbb : base ≤ w.heap.size := by omega
        have hKb : Kept base (Tag 5) wc wr := hKk.mono hbb (fun _ h => h)
        obtain ⟨bf, hpf, -, -, -⟩ := (unhide Hfc).at k (by omega)
        obtain ⟨bs, hps, -, -, -⟩ := (unhide Hsc).at k (by omega)
        subst hpf hps
        obtain ⟨⟨_, _, _, _, _, _, hbx', hL', hLab', hgm', -, -⟩, -, -, -⟩ := unhide HPc
        have hXc : PlanX base gp r fs st p cap gm qs bf cf bs cS wc := by
          have e := (unhide Hbxc).symm.trans hbx'
          simp only [Option.some.injEq, Obj.cells.injEq, Array.mk.injEq, List.cons.injEq, Value.map.injEq] at e
          obtain ⟨⟨_, _, rfl, _⟩, _⟩ := e
          exact ⟨unhide Hbxc, unhide HLc, hLab', hgm', unhide Hfc, unhide Hsc, by omega, hfl, hsl⟩
        have hXr := hXc.tag hKk hbb
        obtain ⟨b, pq, nq, cq, rfl, -, hb, hOq, hcl⟩ := hXr.lines.at k hlt
        have l0 := hcl 0 _ rfl
        have l1 := hcl 1 _ rfl
        have l2 := hcl 2 _ rfl
        have l3 := hcl 3 _ rfl
        have l4 := hcl 4 _ rfl
        have l5 := hcl 5 _ rfl
        have l6 := hcl 6 _ rfl
        simp only [Nat.add_zero] at l0
        have hWA := placed_wfA r hW st (unhide Hst) _ (List.getElem_mem hlt) (hQ _ (List.getElem_mem hlt))
        have hnz := hW.names _ (List.getElem_mem hlt)
        have h8 := (hW.ins _ (List.getElem_mem hlt)).le
        have Hstep := hide (image_take r.lines st r.lines fs st k hlt hfl (by omega))
        have hsmall := bytes_small _ (fs.getD k 0) (st.getD k 0) hWA
        have hak : 0 ≤ st.getD k 0 ∧ st.getD k 0 ≤ 2 ^ 31 := by
          rw [List.getD_eq_getElem?_getD, List.getElem?_eq_getElem (by omega : k < st.length)]
          exact unhide Hst _ (List.getElem_mem _)
        have hheld := hXr.held k hlt
        obtain ⟨hgl, hbfl, hbsl⟩ := hXr.lts k hlt
        generalize hff : fs.getD k 0 = f at *
        generalize hfa0 : st.getD k 0 = a at *
        have Hff := hide hff
        have Hfa := hide hfa0
        clear hff hfa0
        generalize r.lines[k] = l at *
        have hb1 := below_a wr (.cells #[.string (bstr l.label), .int .i64 l.ins.op.kind, .int .i64 l.ins.op.base, .int .i64 l.ins.op.number, .int .i64 l.ins.op.first, .int .i64 l.ins.op.last, .slice pq nq cq] 99)
        have Hl1 := hide (box_new wr (.cells #[.string (bstr l.label), .int .i64 l.ins.op.kind, .int .i64 l.ins.op.base, .int .i64 l.ins.op.number, .int .i64 l.ins.op.first, .int .i64 l.ins.op.last, .slice pq nq cq] 99))
        have hkn : (k : Int) < (r.lines.length : Int) := by omega
        have hkn1 : (k : Int) < (r.lines.length : Int) + 1 := by omega
        have HXr := hide hXr
        have HO := hide hOq
        have HWA := hide hWA
        have Hnz := hide hnz
        have Hsmall := hide hsmall
        have Hak := hide hak
        have H8 := hide h8
        have Hheld := hide hheld
        clear hcl hXc hXr hOq hWA hnz hbx' hL' hLab' hsmall hak h8 hheld hkn1
        go_upto_region 5 with fail
        have hheld := unhide Hheld
        have hkn1 : (k : Int) < (r.lines.length : Int) + 1 := by omega
        have HXa := hide ((unhide HXr).below hb1)
        have HOa := hide ((unhide HO).below hb1)
        have HBa := hide ((unhide HB).below hb1)
        have hKa : Kept w.heap.size (Tag 5) wc _ := hKk.trans (.of_below hb1)
        have hsa := hb1.size
        clear l0 l1 l2 l3 l4 l5 l6
        generalize wr.alloc (.cells #[.string (bstr l.label), .int .i64 l.ins.op.kind, .int .i64 l.ins.op.base, .int .i64 l.ins.op.number, .int .i64 l.ins.op.first, .int .i64 l.ins.op.last, .slice pq nq cq] 99) = wa at *
        have d1 := box_cell (unhide Hl1) 1
        have d2 := box_cell (unhide Hl1) 2
        have d3 := box_cell (unhide Hl1) 3
        have d4 := box_cell (unhide Hl1) 4
        have d5 := box_cell (unhide Hl1) 5
        have d6 := box_cell (unhide Hl1) 6
        simp only [List.getElem?_toArray, List.getElem?_cons_zero, List.getElem?_cons_succ] at d1 d2 d3 d4 d5 d6
        have hld' := lt_of_box (unhide Hl1)
        have hwsz : w.heap.size ≤ wa.heap.size := Nat.le_trans (Nat.le_trans hbw.size hKk.size) hsa
        have hhelda : Held gp r.lines.length bf cf bs cS k f a wa := by
          have := hheld
          obtain ⟨x1, x2, x3, x4⟩ := this
          exact ⟨(hb1.cell (p := ⟨gp, 3, none⟩) hgl).trans x1, (hb1.cell (p := ⟨gp, 4, none⟩) hgl).trans x2, (hb1.cell (p := ⟨bf, k, none⟩) hbfl).trans x3, (hb1.cell (p := ⟨bs, k, none⟩) hbsl).trans x4⟩
        obtain ⟨x1, x2, x3, x4⟩ := hhelda
        have hga : gp < wa.heap.size := by omega
        have hfa : bf < wa.heap.size := by omega
        have hsa' : bs < wa.heap.size := by omega
        clear hheld
        have HXd := hide ((unhide HXa).below (below_d (Below.refl wa.heap.size wa)))
        go_region_held3 (fun W => W.cell? ⟨gp, 3, none⟩ = some (.slice (some ⟨bf, 0, none⟩) r.lines.length cf) ∧ W.cell? ⟨gp, 4, none⟩ = some (.slice (some ⟨bs, 0, none⟩) (r.lines.length + 1) cS) ∧ W.cell? ⟨bf, k, none⟩ = some (.int .i64 f) ∧ W.cell? ⟨bs, k, none⟩ = some (.int .i64 a) ∧ W.cell? ⟨wr.heap.size, 1, none⟩ = some (.int .i64 l.ins.op.kind) ∧ W.cell? ⟨wr.heap.size, 2, none⟩ = some (.int .i64 l.ins.op.base) ∧ W.cell? ⟨wr.heap.size, 3, none⟩ = some (.int .i64 l.ins.op.number) ∧ W.cell? ⟨wr.heap.size, 4, none⟩ = some (.int .i64 l.ins.op.first) ∧ W.cell? ⟨wr.heap.size, 5, none⟩ = some (.int .i64 l.ins.op.last) ∧ W.cell? ⟨wr.heap.size, 6, none⟩ = some (.slice pq nq cq)) (first | go_keep | exact hk3 | exact hk4) (first
          | (go_at_call 40; refine (placed_c base gp r fs st l.ins (.slice pq nq cq) _ ?_ ?_ (unhide Hnz) (unhide H8) hn).mono ?_; (first | exact (unhide HXa).plan | exact (unhide HXd).plan); (first | exact unhide HOa | exact (unhide HOa).below (below_d (Below.refl _ _))); rintro e w3 ⟨vo, rfl, hO3, hb3⟩; have hB3 : Below wa.heap.size wa w3 := (by first | exact hb3 | exact below_t (below_d (Below.refl _ _)) hb3); have hX3 := (unhide HXa).below hB3; have hk3 := hX3.held k hlt; rw [unhide Hff, unhide Hfa] at hk3; obtain ⟨y1, y2, y3, y4⟩ := hk3; have hbx3 := bbox hB3 (unhide Hl1); have g1 := box_cell hbx3 1; have g2 := box_cell hbx3 2; have g3 := box_cell hbx3 3; have g4 := box_cell hbx3 4; have g5 := box_cell hbx3 5; have g6 := box_cell hbx3 6; simp only [List.getElem?_toArray, List.getElem?_cons_zero, List.getElem?_cons_succ] at g1 g2 g3 g4 g5 g6; have hk3 := And.intro y1 (And.intro y2 (And.intro y3 (And.intro y4 (And.intro g1 (And.intro g2 (And.intro g3 (And.intro g4 (And.intro g5 g6)))))))); have HO3 := hide hO3; have HX3 := hide hX3; have hl3 : gp < w3.heap.size := Nat.lt_of_lt_of_le hga hB3.size; have hl3' : bf < w3.heap.size := Nat.lt_of_lt_of_le hfa hB3.size; have hl3'' : bs < w3.heap.size := Nat.lt_of_lt_of_le hsa' hB3.size; clear hO3 hX3)
          | (go_at_call 41; refine (Append_c (Strd.placed r.lines st l.ins) vo u3 f a w3 w.heap.size _ (unhide HO3) ((unhide HBa).below hB3) (Nat.le_trans hwsz hB3.size) (by have := unhide HBl; omega) (unhide HWA) (by have := unhide Hak; omega)).mono ?_; rintro e w4 ⟨v4, rfl, hB4, hk5⟩; have hX4 := (unhide HX3).tag hk5 hbb; have hk4 := hX4.held k hlt; rw [unhide Hff, unhide Hfa] at hk4; obtain ⟨z1, z2, z3, z4⟩ := hk4; have hbx4 := kboxE (hk5.mono hbb (fun _ h => h)) hbx3 (by decide); have j1 := box_cell hbx4 1; have j2 := box_cell hbx4 2; have j3 := box_cell hbx4 3; have j4 := box_cell hbx4 4; have j5 := box_cell hbx4 5; have j6 := box_cell hbx4 6; simp only [List.getElem?_toArray, List.getElem?_cons_zero, List.getElem?_cons_succ] at j1 j2 j3 j4 j5 j6; have hk4 := And.intro z1 (And.intro z2 (And.intro z3 (And.intro z4 (And.intro j1 (And.intro j2 (And.intro j3 (And.intro j4 (And.intro j5 j6)))))))); have HB4 := hide hB4; clear hB4 hX4))
        have hk4w : Kept w.heap.size (Tag 5) wc w4 := (hKa.trans (.of_below hB3)).trans hk5
        have HB5 : Hid (BytesAt w.heap.size w4 v4 (Strd.image r.lines st (r.lines.take (k + 1)) (fs.take (k + 1)) (st.take (k + 1))) ∧ (Strd.image r.lines st (r.lines.take (k + 1)) (fs.take (k + 1)) (st.take (k + 1))).length ≤ 1024 * (k + 1)) := hide (by
          rw [unhide Hstep]
          refine ⟨unhide HB4, ?_⟩
          rw [List.length_append]
          have := unhide HBl
          have := unhide Hsmall
          omega)
        go_wp2_with fail
        go_roundw
        case rel => exact ⟨k + 1, by omega, by go_num, (unhide HB5).1, (unhide HB5).2, hk4w⟩
        case measure => simp [intOf]; omega
      · obtain rfl : k = r.lines.length := by omega
        have hB := unhide HB
        rw [List.take_length, List.take_of_length_le (by omega), image_cut _ _ _ _ _ hfl] at hB
        have cv := conv88 (W := wr.drew) hB
        have hbb : base ≤ w.heap.size := by omega
        have hKb : Kept base (Tag 5) wc wr := hKk.mono hbb (fun _ h => h)
        have hbx5 := kboxE hKb (unhide Hbxc) (by decide)
        have z0 : wr.drew.cell? ⟨gp, 0, none⟩ = some (.int .i64 r.org) := by
          show wr.cell? ⟨gp, 0, none⟩ = _
          have := box_cell hbx5 0
          simpa only [List.getElem?_toArray, List.getElem?_cons_zero] using this
        have hgl := lt_of_box hbx5
        have hr5 := kboxE hKb (unhide Hrc) (by decide)
        have Hr5 := hide hr5
        have hfin : Below w.heap.size w wr := by
          have h1 := hKk.below (base := w.heap.size) hbw.size
          exact hbw.trans h1
        generalize hI : Strd.image r.lines st r.lines fs st = I at *
        have HI := hide hI
        clear hI
        have r0 := box_cell hr5 0
        have r1 := box_cell hr5 1
        simp only [List.getElem?_toArray, List.getElem?_cons_zero, List.getElem?_cons_succ] at r0 r1
        have g0 := box_free hr5 0
        have g1 := box_free hr5 1
        have hlr := lt_of_box hr5
        clear hB hbx5 hr5 HB HBl
        go_upto_region 7 with fail
        go_region
        all_goals go_wp2_with fail
        all_goals refine bodyPost_ret (v := .agg #[.int .i64 r.org, .string (bstr I)]) (by exact results_cell1 Tryz.results26 _ _ w.heap.size 23 _ _ _ rfl (by exact box_two (unhide Hr5)) Tryz.underlying23 rfl (by kernel_rfl)) rfl ?_
        all_goals exact ⟨by rw [unhide HI], (below_two hfin (Nat.le_refl _) _ _).drew⟩
end Go.Proofs.YtegiloiojloaoaaGreatDoor
