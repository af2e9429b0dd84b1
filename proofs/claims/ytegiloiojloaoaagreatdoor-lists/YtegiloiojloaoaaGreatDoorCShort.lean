/- The contract of layout.shortest. -/
import Derived.Test.YtegiloiojloaoaaGreatDoorCSetSt
import Derived.Laws.MakeOwn
set_option linter.unusedVariables false
set_option linter.unusedSimpArgs false
namespace Go.Proofs.YtegiloiojloaoaaGreatDoor
open Go.RowKit Go.Shelf Go.Sort Go.Maps

theorem Tryz.info92 : (Tryz.prog.info? 92).map (fun i => (i.zero, i.size, i.bytes)) = some (some (.int .i64 0), 1, 8) := by kernel_rfl
theorem Tryz.info3 : (Tryz.prog.info? 3).map (fun i => (i.zero, i.size, i.bytes)) = some (some (.int .i64 0), 1, 8) := by kernel_rfl
theorem made_ints (n : Nat) : madeCells (Value.int .i64 0).cells n = ((List.replicate n (0 : Int)).map (Value.int .i64)).toArray := by
  apply Array.ext
  · simp [madeCells]
  · intro i h1 h2
    simp [madeCells, Value.cells, Nat.mod_one]
theorem make65 (n : Nat) (hn : n ≤ 2 ^ 30) (W : World) : (Instr.makeSlice 65 (.int .i64 (n : Int)) (.int .i64 (n : Int))).run Tryz.prog W = .ok (.slice (some ⟨W.heap.size, 0, none⟩) n n) (W.alloc (.cells ((List.replicate n (0 : Int)).map (Value.int .i64)).toArray 92)) := by
  obtain ⟨i, hi, hz0, hz1, hz2⟩ := info_parts Tryz.info92
  have h := run_make (P := Tryz.prog) W 65 92 i (.int .i64 0) Tryz.underlying65 hi hz0 .i64 .i64 n n (by omega) (Int.le_refl _) (by rw [hz2]; omega) (by omega)
  rw [hz1, Int.toNat_natCast, Nat.mul_one, made_ints] at h
  exact h
theorem make42 (n : Nat) (hn : n ≤ 2 ^ 30) (W : World) : (Instr.makeSlice 42 (.int .i64 ((n : Int) + 1)) (.int .i64 ((n : Int) + 1))).run Tryz.prog W = .ok (.slice (some ⟨W.heap.size, 0, none⟩) (n + 1) (n + 1)) (W.alloc (.cells ((List.replicate (n + 1) (0 : Int)).map (Value.int .i64)).toArray 3)) := by
  obtain ⟨i, hi, hz0, hz1, hz2⟩ := info_parts Tryz.info3
  have h := run_make (P := Tryz.prog) W 42 3 i (.int .i64 0) Tryz.underlying42 hi hz0 .i64 .i64 ((n + 1 : Nat) : Int) ((n + 1 : Nat) : Int) (by omega) (Int.le_refl _) (by rw [hz2]; omega) (by omega)
  rw [hz1, Int.toNat_natCast, Nat.mul_one, made_ints] at h
  exact h
theorem ints_row (e : TypeId) (base b : Nat) (w : World) (xs : List Int) (h : xs.length ≤ 2 ^ 30) (hb : base ≤ b) (hx : w.heap[b]? = some (.cells (xs.map (Value.int .i64)).toArray e (0, 0))) : IntsAt e base w (.slice (some ⟨b, 0, none⟩) xs.length xs.length) xs :=
  ⟨by simp, .inr ⟨b, xs.length, _, rfl, hb, hx, Nat.le_refl _, by unfold maxLen; omega, by simp, by simp [List.take_of_length_le]⟩⟩

theorem results_cell1 {P : Program} {fn : Func} {p : Tmp} {ty : TypeId} (h : fn.results = #[.cell p ty]) (tmps : Array Value) (w : World) (g : Nat) (t : TypeId) (cs : Array Value) (fr : Nat × Nat) (d : TypeDesc)
    (hp : tmps.getD p undef = .pointer (some ⟨g, 0, none⟩)) (hg : w.heap[g]? = some (.cells cs t fr))
    (hu : P.underlying ty = some d) (hd : (match d with | .struct _ | .array _ _ => true | _ => false) = true) (hi : (P.info? ty).map (·.size) = some cs.size) :
    (results fn tmps).run P w = .ok (.agg cs) w := by
  have hp' : tmps[p]?.getD undef = .pointer (some ⟨g, 0, none⟩) := by simpa using hp
  simp [results, h, hp', asAddr, run_loadVar_row w g t ty cs fr d hg hu hd hi]
theorem Kept.row {base : Nat} {D : Obj → Prop} {a w : World} (h : Kept base D a w) {g : Nat} (hg : a.heap.size ≤ g) (cs : Array Value) : Kept base D a (w.setRow g cs) :=
  ⟨h.os, h.tape, h.output, Nat.le_trans h.size (by simp [World.setRow]), fun k hk hd => (setRow_other w g k _ (by omega)).trans (h.block k hk hd)⟩
theorem LabsAt.ne {w : World} {b n g : Nat} {lines : List Strd.Line} {cs : Array Value} {t : TypeId} {fr : Nat × Nat} (h : LabsAt w b n lines) (hg : w.heap[g]? = some (.cells cs t fr)) : b ≠ g := by
  obtain ⟨D, ⟨es, clock, h1, _⟩, _⟩ := h
  rintro rfl
  rw [hg] at h1; cases h1
def PlanVal (base : Nat) (w : World) (ps : Array Value) (r : Strd.Rd) (fs st : List Int) : Prop :=
  ∃ p cap gm qs vf vs, ps = #[.int .i64 r.org, .slice p r.lines.length cap, .map (some gm), vf, vs] ∧ LinesAt base w (.slice p r.lines.length cap) r.lines qs ∧ LabsAt w gm r.lines.length r.lines ∧ base ≤ gm ∧ IntsAt 92 base w vf fs ∧ IntsAt 3 base w vs st ∧ fs.length = r.lines.length ∧ st.length = r.lines.length + 1
theorem plan_one (o : Int) (p : Option Addr) (n c : Nat) (m : Option Nat) (p2 : Option Addr) (n2 c2 : Nat) (p3 : Option Addr) (n3 c3 : Nat) : (#[Value.int .i64 o, .slice p n c, .map m, .slice p2 n2 c2, .slice p3 n3 c3]).all (·.oneCell') = true := by simp [Value.oneCell']
theorem three (w : World) (a b c : Obj) : (((w.alloc a).alloc b).alloc c).drew.heap[w.heap.size]? = some a ∧ (((w.alloc a).alloc b).alloc c).drew.heap[w.heap.size + 1]? = some b ∧ (((w.alloc a).alloc b).alloc c).drew.heap[w.heap.size + 1 + 1]? = some c ∧ Below w.heap.size w (((w.alloc a).alloc b).alloc c).drew := by
  have e1 : (w.alloc a).heap.size = w.heap.size + 1 := by simp
  have e2 : ((w.alloc a).alloc b).heap.size = w.heap.size + 1 + 1 := by simp
  refine ⟨bbox (below_d (below_a ((w.alloc a).alloc b) c)) (bbox (below_a _ b) (box_new w a)), ?_, ?_, below_d (below_t (below_t (below_a w a) (below_a _ b)) (below_a _ c))⟩
  · have h := bbox (below_a ((w.alloc a).alloc b) c) (box_new (w.alloc a) b)
    rw [e1] at h
    exact h
  · have h := box_new ((w.alloc a).alloc b) c
    rw [e2] at h
    exact h

set_option maxRecDepth 1000000 in
set_option maxHeartbeats 4000000 in
theorem shortest_c (base : Nat) (r : Strd.Rd) (cs : Array Value) (w : World) (hP : ProgAt base w cs r) (hW : WfR r) (hbw : base ≤ w.heap.size) :
    Calls Tryz.prog 60 #[.agg cs] w fun e w' => ∃ ps, e = .returned (.agg ps) ∧ PlanVal base w' ps r (Strd.firstForms r.lines) (List.replicate (r.lines.length + 1) 0) ∧ Kept base (Tag 92) w w' := by
  obtain ⟨p, cap, gm, qs, rfl, hL, hLab, hgm⟩ := hP
  have hn := hW.len
  have m1 := make65 r.lines.length (by omega)
  have m2 := make42 r.lines.length (by omega)
  have HL := hide hL
  have HLab := hide hLab
  clear hL hLab
  have hb1 := below_a w (.cells #[.int .i64 r.org, .slice p r.lines.length cap, .map (some gm)] 64)
  have Hx1 := hide (box_new w (.cells #[.int .i64 r.org, .slice p r.lines.length cap, .map (some gm)] 64))
  go_enter Tryz.func60, Tryz.ntmps60
  have hb2 := below_a (w.alloc (.cells #[.int .i64 r.org, .slice p r.lines.length cap, .map (some gm)] 64)) (.cells #[.int .i64 0, .slice none 0 0, .map none, .slice none 0 0, .slice none 0 0] 67)
  have Hx2 := hide (box_new (w.alloc (.cells #[.int .i64 r.org, .slice p r.lines.length cap, .map (some gm)] 64)) (.cells #[.int .i64 0, .slice none 0 0, .map none, .slice none 0 0, .slice none 0 0] 67))
  have Hx1' := hide (bbox hb2 (unhide Hx1))
  have hB2 := below_t hb1 hb2
  rw [show (w.alloc (.cells #[.int .i64 r.org, .slice p r.lines.length cap, .map (some gm)] 64)).heap.size = w.heap.size + 1 by simp] at Hx2
  go_upto_region 1 with fail
  clear hb1 hb2 Hx1
  generalize (w.alloc (.cells #[.int .i64 r.org, .slice p r.lines.length cap, .map (some gm)] 64)).alloc (.cells #[.int .i64 0, .slice none 0 0, .map none, .slice none 0 0, .slice none 0 0] 67) = w0 at *
  have x0 := box_cell (unhide Hx1') 0
  have x1 := box_cell (unhide Hx1') 1
  have x2 := box_cell (unhide Hx1') 2
  simp only [List.getElem?_toArray, List.getElem?_cons_zero, List.getElem?_cons_succ] at x0 x1 x2
  have hlx := lt_of_box (unhide Hx1')
  have hlx2 := lt_of_box (unhide Hx2)
  have hmp : ∀ (wc : World) (g bf bs : Nat), Below w0.heap.size w0 wc → wc.heap[g]? = some (.cells #[.int .i64 r.org, .slice p r.lines.length cap, .map (some gm), .slice (some ⟨bf, 0, none⟩) r.lines.length r.lines.length, .slice (some ⟨bs, 0, none⟩) (r.lines.length + 1) (r.lines.length + 1)] 67 (0, 0)) → wc.heap[bf]? = some (.cells (Array.replicate r.lines.length (.int .i64 0)) 92 (0, 0)) → wc.heap[bs]? = some (.cells (Array.replicate (r.lines.length + 1) (.int .i64 0)) 3 (0, 0)) → w0.heap.size ≤ g → w0.heap.size ≤ bf → w0.heap.size ≤ bs → PlanAt base wc g r (List.replicate r.lines.length 0) (List.replicate (r.lines.length + 1) 0) := fun wc g bf bs hb h1 h2 h3 g1 g2 g3 => by
    have hbb := below_t hB2 hb
    have hbase : base ≤ w0.heap.size := Nat.le_trans hbw hB2.size
    have i1 := ints_row 92 base bf wc (List.replicate r.lines.length 0) (by simp; omega) (by omega) (by rw [h2, List.map_replicate, List.toArray_replicate])
    have i2 := ints_row 3 base bs wc (List.replicate (r.lines.length + 1) 0) (by simp; omega) (by omega) (by rw [h3, List.map_replicate, List.toArray_replicate])
    rw [List.length_replicate] at i1 i2
    exact ⟨⟨p, cap, gm, qs, _, _, h1, (unhide HL).below hbb, (unhide HLab).below hbb, hgm, i1, i2⟩, by omega, by simp, by simp⟩
  have Hmp := hide hmp
  have hq1 : w.heap.size < w0.heap.size + 1 := by omega
  have hq2 : w.heap.size < w0.heap.size + 1 + 1 := by omega
  have hq3 : w.heap.size < w0.heap.size + 1 + 1 + 1 := by omega
  have hq4 : w.heap.size < w0.heap.size + 2 := by omega
  have hq5 : w.heap.size < w0.heap.size + 3 := by omega
  have ew : IntKind.i64.wrap ((r.lines.length : Int) + 1) = (r.lines.length : Int) + 1 := IntWalk.i64_in _ (by omega)
  clear hmp
  go_cut [3] (fun v wc => ∃ g, v = .pointer (some ⟨g, 0, none⟩) ∧ PlanAt base wc g r (List.replicate r.lines.length 0) (List.replicate (r.lines.length + 1) 0) ∧ Below w0.heap.size w0 wc ∧ w0.heap.size ≤ g)
  case first =>
    go_region
    all_goals go_wp2_with fail
    all_goals go_meet
    all_goals obtain ⟨t1, t2, t3, t4⟩ := three w0 _ _ _
    all_goals first
      | exact ⟨_, rfl, unhide Hmp _ _ _ _ t4 t3 t1 t2 (by omega) (by omega) (by omega), t4, by omega⟩
      | exact ⟨_, rfl, unhide Hmp _ _ _ _ t4 t3 t2 t1 (by omega) (by omega) (by omega), t4, by omega⟩
      | exact ⟨_, rfl, unhide Hmp _ _ _ _ t4 t2 t1 t3 (by omega) (by omega) (by omega), t4, by omega⟩
      | exact ⟨_, rfl, unhide Hmp _ _ _ _ t4 t2 t3 t1 (by omega) (by omega) (by omega), t4, by omega⟩
      | exact ⟨_, rfl, unhide Hmp _ _ _ _ t4 t1 t2 t3 (by omega) (by omega) (by omega), t4, by omega⟩
      | exact ⟨_, rfl, unhide Hmp _ _ _ _ t4 t1 t3 t2 (by omega) (by omega) (by omega), t4, by omega⟩
  case rest =>
    obtain ⟨g, rfl, hPg, hbc, hgg⟩ := hcut
    have hbx1 := bbox hbc (unhide Hx1')
    have y1 := box_cell hbx1 1
    simp only [List.getElem?_toArray, List.getElem?_cons_zero, List.getElem?_cons_succ] at y1
    have hly := lt_of_box hbx1
    have Hy1 := hide hbx1
    have Hy2 := hide (bbox hbc (unhide Hx2))
    have hbW := below_t hB2 hbc
    have HLc := hide ((unhide HL).below hbW)
    have HPg := hide hPg
    have hfl : (Strd.firstForms r.lines).length = r.lines.length := by simp [Strd.firstForms]
    clear hbx1 hPg x0 x1 x2 Hmp hq1 hq2 hq3 hq4 hq5 m1 m2
    go_wp2_with fail
    go_loopw [20] (fun c wr => ∃ k : Nat, k ≤ r.lines.length ∧ c = .int .i64 k ∧ PlanAt base wr g r ((Strd.firstForms r.lines).take k ++ (List.replicate r.lines.length (0 : Int)).drop k) (List.replicate (r.lines.length + 1) 0) ∧ Kept base (Tag 92) wc wr) (fun c _ => r.lines.length - (intOf c).toNat)
    case atStart => exact ⟨0, by omega, rfl, unhide HPg, Kept.refl _ _ _⟩
    case round =>
      obtain ⟨k, hk, rfl, hPk, hKk⟩ := hrel
      by_cases hlt : k < r.lines.length
      · obtain ⟨b, pq, nq, cq, rfl, _, hb, _, hcl⟩ := ((unhide HLc).tag hKk (by decide) (by decide)).at k hlt
        have l0 := hcl 0 _ rfl
        have l1 := hcl 1 _ rfl
        have l2 := hcl 2 _ rfl
        have l3 := hcl 3 _ rfl
        have l4 := hcl 4 _ rfl
        have l5 := hcl 5 _ rfl
        have l6 := hcl 6 _ rfl
        simp only [Nat.add_zero] at l0
        have hff : (Strd.firstForms r.lines).getD k 0 = r.lines[k].ins.op.first := by
          unfold Strd.firstForms
          rw [List.getD_eq_getElem?_getD, List.getElem?_map, List.getElem?_eq_getElem hlt]; rfl
        have hset := take_drop_set (Strd.firstForms r.lines) (List.replicate r.lines.length (0 : Int)) k (by omega) (by simp [hfl])
        rw [hff] at hset
        have hkF : k < ((Strd.firstForms r.lines).take k ++ (List.replicate r.lines.length (0 : Int)).drop k).length := by
          rw [List.length_append, List.length_take, List.length_drop, List.length_replicate]; omega
        have hFl : ((Strd.firstForms r.lines).take k ++ (List.replicate r.lines.length (0 : Int)).drop k).length = r.lines.length := by
          rw [List.length_append, List.length_take, List.length_drop, List.length_replicate]; omega
        generalize r.lines[k] = l at *
        have hb1 := below_a wr (.cells #[.string (bstr l.label), .int .i64 l.ins.op.kind, .int .i64 l.ins.op.base, .int .i64 l.ins.op.number, .int .i64 l.ins.op.first, .int .i64 l.ins.op.last, .slice pq nq cq] 99)
        have Hl1 := hide (box_new wr (.cells #[.string (bstr l.label), .int .i64 l.ins.op.kind, .int .i64 l.ins.op.base, .int .i64 l.ins.op.number, .int .i64 l.ins.op.first, .int .i64 l.ins.op.last, .slice pq nq cq] 99))
        have hkn : (k : Int) < (r.lines.length : Int) := by omega
        have Hset := hide hset
        have HPk := hide hPk
        clear hcl hset hff hPk
        go_upto_region 5 with fail
        have HPa := hide ((unhide HPk).below hb1)
        have hKa : Kept base (Tag 92) wc _ := hKk.trans (.of_below hb1)
        clear l0 l1 l2 l3 l4 l5 l6
        generalize wr.alloc (.cells #[.string (bstr l.label), .int .i64 l.ins.op.kind, .int .i64 l.ins.op.base, .int .i64 l.ins.op.number, .int .i64 l.ins.op.first, .int .i64 l.ins.op.last, .slice pq nq cq] 99) = wa at *
        have d4 := box_cell (unhide Hl1) 4
        simp only [List.getElem?_toArray, List.getElem?_cons_zero, List.getElem?_cons_succ] at d4
        have hld := lt_of_box (unhide Hl1)
        obtain ⟨bf, cf, g3, hga, hbf, gf, gz, hst⟩ := (unhide HPa).form k hkF
        obtain ⟨hp5, hk5⟩ := hst l.ins.op.first
        rw [unhide Hset] at hp5
        rw [hFl] at g3
        have Hp5 := hide hp5
        clear hp5 hst
        go_wp2
        go_roundw
        case rel => exact ⟨k + 1, by omega, by go_num, unhide Hp5, hKa.trans hk5⟩
        case measure => simp [intOf]; omega
      · obtain rfl : k = r.lines.length := by omega
        rw [List.take_of_length_le (by omega), List.drop_eq_nil_of_le (by simp), List.append_nil] at hPk
        have hy2 := kboxE hKk (unhide Hy2) (by decide)
        have Hy2' := hide hy2
        obtain ⟨⟨p', cap', gm', qs', vf, vs, hbx, hL', hLab', hgm', hf, hs⟩, _, h8, h9⟩ := hPk
        obtain ⟨pf, cf, rfl⟩ := hf.shape
        obtain ⟨ps, cps, rfl⟩ := hs.shape
        rw [hfl] at hf hbx
        rw [List.length_replicate] at hs hbx
        have z0 := box_cell hbx 0
        have z1 := box_cell hbx 1
        have z2 := box_cell hbx 2
        have z3 := box_cell hbx 3
        have z4 := box_cell hbx 4
        simp only [List.getElem?_toArray, List.getElem?_cons_zero, List.getElem?_cons_succ] at z0 z1 z2 z3 z4
        have hlz := lt_of_box hbx
        have HL' := hide hL'
        have HLab' := hide hLab'
        have Hf := hide hf
        have Hs := hide hs
        have hKw : Kept base (Tag 92) w wr := (Kept.of_below hbW).trans hKk
        clear hL' hLab' hf hs hbx hy2
        go_wp2_with (refine wpList_store_row rfl 67 (.tmp 2) (.tmp 34) rfl (w.heap.size + 1) #[.int .i64 r.org, .slice p' r.lines.length cap', .map (some gm'), .slice pf r.lines.length cf, .slice ps (r.lines.length + 1) cps] rfl rfl 67 #[.int .i64 0, .slice none 0 0, .map none, .slice none 0 0, .slice none 0 0] (by exact unhide Hy2') (by kernel_rfl) rfl (plan_one _ _ _ _ _ _ _ _ _ _ _) ?_)
        refine bodyPost_ret (v := .agg #[.int .i64 r.org, .slice p' r.lines.length cap', .map (some gm'), .slice pf r.lines.length cf, .slice ps (r.lines.length + 1) cps]) (by exact results_cell1 Tryz.results60 _ _ (w.heap.size + 1) 67 _ _ _ rfl (by exact row_at (unhide Hy2')) Tryz.underlying67 rfl (by kernel_rfl)) rfl ?_
        have hrow : ∀ cs k, k ≠ w.heap.size + 1 → (wr.setRow (w.heap.size + 1) cs).heap[k]? = wr.heap[k]? := fun cs k hk => setRow_other wr (w.heap.size + 1) k _ hk
        refine ⟨_, rfl, ⟨p', cap', gm', qs', _, _, rfl, ⟨(unhide HL').fst, ownsRow_row (unhide HL').row (unhide Hy2') (by decide), fun x hx => ownsRow_row ((unhide HL').oprs x hx) (unhide Hy2') (by decide)⟩, (unhide HLab').block (hrow _ _ ((unhide HLab').ne (unhide Hy2'))), hgm', ownsRow_row (unhide Hf) (unhide Hy2') (by decide), ownsRow_row (unhide Hs) (unhide Hy2') (by decide), hfl, h9⟩, hKw.row (by omega) _⟩
end Go.Proofs.YtegiloiojloaoaaGreatDoor
