/- Made in memory: four rows that grow, in a struct. -/
import Derived.Test.YtegiloiojloaoaaGreatDoorCKeep2
import Derived.Maps.AppendAt
set_option linter.unusedVariables false
set_option linter.unusedSimpArgs false
namespace Go.Proofs.YtegiloiojloaoaaGreatDoor
open Go.RowKit Go.Shelf Go.Sort Go.Maps

def MTag (o : Obj) : Prop := Tag 3 o ∨ Tag 9 o ∨ Tag 44 o
def Dis (u v : Value) : Prop := ∀ k, u.ownBlock = some k → v.ownBlock ≠ some k
theorem Dis.symm {u v : Value} (h : Dis u v) : Dis v u := fun k h1 h2 => h k h2 h1
theorem row_tag {w : World} {base n size k : Nat} {e : TypeId} {v : Value} {xs : List Value} (h : w.ownsRow base e size v n xs) (hk : v.ownBlock = some k) : base ≤ k ∧ k < w.heap.size ∧ ∃ cur, w.heap[k]? = some (.cells cur e (0, 0)) := by
  rcases h.2 with ⟨rfl, _⟩ | ⟨g, cap, cur, rfl, hb, hx, _⟩
  · cases hk
  · simp only [Value.ownBlock, Option.some.injEq] at hk
    subst hk
    exact ⟨hb, lt_of_box hx, cur, hx⟩
theorem row_kept {w w' : World} {base n size : Nat} {e : TypeId} {v : Value} {xs : List Value} (h : w.ownsRow base e size v n xs) (hb : ∀ k, v.ownBlock = some k → w'.heap[k]? = w.heap[k]?) : w'.ownsRow base e size v n xs := by
  refine ⟨h.1, ?_⟩
  rcases h.2 with ⟨rfl, h0⟩ | ⟨g, cap, cur, rfl, h1, hx, h2⟩
  · exact .inl ⟨rfl, h0⟩
  · exact .inr ⟨g, cap, cur, rfl, h1, by rw [hb g rfl]; exact hx, h2⟩
structure MadeX (base g : Nat) (vr vl vw vt : Value) (rs : List Strd.Bs) (ls ws ts : List Int) (many : Int) (w : World) : Prop where
  box : w.heap[g]? = some (.cells #[vr, vl, vw, vt, .int .i64 many] 44 (0, 0))
  rr : StrsAt base w vr rs
  rl : IntsAt 3 base w vl ls
  rw' : IntsAt 3 base w vw ws
  rt : IntsAt 3 base w vt ts
  lw : Dis vl vw
  lt : Dis vl vt
  wt : Dis vw vt
  gb : base ≤ g
  wb : base ≤ w.heap.size
section
variable {base g : Nat} {vr vl vw vt : Value} {rs : List Strd.Bs} {ls ws ts : List Int} {many : Int} {w w1 : World}
theorem MadeX.below (h : MadeX base g vr vl vw vt rs ls ws ts many w) (hb : Below w.heap.size w w1) : MadeX base g vr vl vw vt rs ls ws ts many w1 :=
  ⟨bbox hb h.box, h.rr.below hb, h.rl.below hb, h.rw'.below hb, h.rt.below hb, h.lw, h.lt, h.wt, h.gb, Nat.le_trans h.wb hb.size⟩
/-- What one append leaves, before its store. -/
theorem MadeX.grow (h : MadeX base g vr vl vw vt rs ls ws ts many w) {o : Obj} {v : Value} (hg : (w.alloc o).grownBy w1 v.ownBlock) (hv : ∀ k, v.ownBlock = some k → base ≤ k ∧ k ≠ g ∧ ∀ c, w.heap[k]? = some c → MTag c) :
    w1.heap[g]? = some (.cells #[vr, vl, vw, vt, .int .i64 many] 44 (0, 0)) ∧ Kept base MTag w w1 ∧ ∀ {e : TypeId} {size n : Nat} {u : Value} {xs : List Value}, w.ownsRow base e size u n xs → Dis v u → w1.ownsRow base e size u n xs := by
  have hb := below_a w o
  refine ⟨?_, ?_, fun {e size n u xs} hu hd => ?_⟩
  · have h1 := bbox hb h.box
    rw [hg.block g (lt_of_box h1) (fun e => (hv g e.symm).2.1 rfl)]
    exact h1
  · refine ⟨hg.os.trans hb.os, hg.tape.trans hb.tape, hg.output.trans hb.output, Nat.le_trans hb.size hg.size, fun k hk hc => ?_⟩
    rw [hg.block k (Nat.lt_of_lt_of_le hk hb.size) (fun e => ?_)]
    · exact hb.block k hk
    · obtain ⟨h1, _, h3⟩ := hv k e.symm
      rcases hc with hc | hc
      · omega
      · obtain ⟨c, hc'⟩ : ∃ c, w.heap[k]? = some c := ⟨_, Array.getElem?_eq_getElem hk⟩
        exact hc c hc' (h3 c hc')
  · have h1 := ownsRow_below hu hb
    refine row_kept h1 fun k hk => ?_
    obtain ⟨_, h3, _⟩ := row_tag h1 hk
    exact hg.block k h3 (fun e => hd k e.symm hk)
theorem row_set {W : World} {b n size i : Nat} {e : TypeId} {v x : Value} {xs : List Value} {cs : Array Value} (h : W.ownsRow b e size v n xs) (hg : W.heap[g]? = some (.cells cs 44 (0, 0))) (he : e ≠ 44) : (W.setCell ⟨g, i, none⟩ x).ownsRow b e size v n xs := by
  refine row_kept h fun k hk => ?_
  obtain ⟨_, _, cur, hx⟩ := row_tag h hk
  have hne : k ≠ g := by rintro rfl; rw [hg] at hx; cases hx; exact he rfl
  exact setCell_other W g i k x hne
theorem kept_set44 {W : World} {a : World} {i : Nat} {x : Value} {cs : Array Value} (h : Kept base MTag a W) (hg : W.heap[g]? = some (.cells cs 44 (0, 0))) (hga : a.heap[g]? = some (.cells cs 44 (0, 0))) (hb : base ≤ g) : Kept base MTag a (W.setCell ⟨g, i, none⟩ x) :=
  ⟨h.os, h.tape, h.output, by rw [setCell_size]; exact h.size, fun k hk hc => by
    have hne : k ≠ g := by
      rintro rfl
      rcases hc with hc | hc
      · omega
      · exact hc _ hga (.inr (.inr ⟨_, _, rfl⟩))
    rw [setCell_other W g i k x hne]
    exact h.block k hk hc⟩
theorem dis_new {u v v' : Value} {W : World} {b n size : Nat} {e : TypeId} {xs : List Value} (hd : Dis v u) (hu : W.ownsRow b e size u n xs) (o : Obj) (hat : v'.ownBlock = v.ownBlock ∨ v'.ownBlock = some (W.alloc o).heap.size) : Dis v' u := by
  intro k hk hk'
  rcases hat with e | e
  · rw [e] at hk; exact hd k hk hk'
  · rw [e] at hk
    have := (row_tag hu hk').2.1
    simp at hk
    omega
theorem MadeX.own3 (h : MadeX base g vr vl vw vt rs ls ws ts many w) {n size : Nat} {v : Value} {xs : List Value} {e : TypeId} (hv : w.ownsRow base e size v n xs) (he : e = 3 ∨ e = 9) : ∀ k, v.ownBlock = some k → base ≤ k ∧ k ≠ g ∧ ∀ c, w.heap[k]? = some c → MTag c := fun k hk => by
  obtain ⟨h1, h2, cur, h3⟩ := row_tag hv hk
  refine ⟨h1, ?_, fun c hc => ?_⟩
  · rintro rfl
    rw [h.box] at h3
    cases h3
    rcases he with h | h <;> exact absurd h (by decide)
  · rw [h3] at hc
    cases hc
    rcases he with rfl | rfl
    · exact .inl ⟨_, _, rfl⟩
    · exact .inr (.inl ⟨_, _, rfl⟩)
theorem dis_tags {W : World} {u v : Value} {b n size n' size' : Nat} {e e' : TypeId} {xs ys : List Value} (hu : W.ownsRow b e size u n xs) (hv : W.ownsRow b e' size' v n' ys) (he : e ≠ e') : Dis u v := fun k h1 h2 => by
  obtain ⟨_, _, c1, h3⟩ := row_tag hu h1
  obtain ⟨_, _, c2, h4⟩ := row_tag hv h2
  rw [h3] at h4; cases h4; exact he rfl
theorem MadeX.stepL (h : MadeX base g vr vl vw vt rs ls ws ts many w) {o : Obj} {v' : Value} {x : Int} (hg : (w.alloc o).grownBy w1 vl.ownBlock) (ho : w1.ownsRow base 3 1 v' (ls.length + 1) (ls.map (Value.int .i64) ++ [.int .i64 x])) (hat : v'.ownBlock = vl.ownBlock ∨ v'.ownBlock = some (w.alloc o).heap.size) :
    MadeX base g vr v' vw vt rs (ls ++ [x]) ws ts many (w1.setCell ⟨g, 1, none⟩ v') ∧ Kept base MTag w (w1.setCell ⟨g, 1, none⟩ v') := by
  obtain ⟨hbx, hk, hrow⟩ := h.grow hg (h.own3 h.rl (.inl rfl))
  have ho' : IntsAt 3 base w1 v' (ls ++ [x]) := by unfold IntsAt; simpa using ho
  refine ⟨⟨?_, row_set (hrow h.rr (dis_tags h.rl h.rr (by decide))) hbx (by decide), row_set ho' hbx (by decide), row_set (hrow h.rw' h.lw) hbx (by decide), row_set (hrow h.rt h.lt) hbx (by decide), dis_new h.lw h.rw' o hat, dis_new h.lt h.rt o hat, h.wt, h.gb, by rw [setCell_size]; exact Nat.le_trans h.wb hk.size⟩, kept_set44 hk hbx h.box h.gb⟩
  simp [World.setCell, Array.getElem?_modify, hbx]
theorem MadeX.stepW (h : MadeX base g vr vl vw vt rs ls ws ts many w) {o : Obj} {v' : Value} {x : Int} (hg : (w.alloc o).grownBy w1 vw.ownBlock) (ho : w1.ownsRow base 3 1 v' (ws.length + 1) (ws.map (Value.int .i64) ++ [.int .i64 x])) (hat : v'.ownBlock = vw.ownBlock ∨ v'.ownBlock = some (w.alloc o).heap.size) :
    MadeX base g vr vl v' vt rs ls (ws ++ [x]) ts many (w1.setCell ⟨g, 2, none⟩ v') ∧ Kept base MTag w (w1.setCell ⟨g, 2, none⟩ v') := by
  obtain ⟨hbx, hk, hrow⟩ := h.grow hg (h.own3 h.rw' (.inl rfl))
  have ho' : IntsAt 3 base w1 v' (ws ++ [x]) := by unfold IntsAt; simpa using ho
  refine ⟨⟨?_, row_set (hrow h.rr (dis_tags h.rw' h.rr (by decide))) hbx (by decide), row_set (hrow h.rl h.lw.symm) hbx (by decide), row_set ho' hbx (by decide), row_set (hrow h.rt h.wt) hbx (by decide), (dis_new h.lw.symm h.rl o hat).symm, h.lt, dis_new h.wt h.rt o hat, h.gb, by rw [setCell_size]; exact Nat.le_trans h.wb hk.size⟩, kept_set44 hk hbx h.box h.gb⟩
  simp [World.setCell, Array.getElem?_modify, hbx]
theorem MadeX.stepT (h : MadeX base g vr vl vw vt rs ls ws ts many w) {o : Obj} {v' : Value} {x : Int} (hg : (w.alloc o).grownBy w1 vt.ownBlock) (ho : w1.ownsRow base 3 1 v' (ts.length + 1) (ts.map (Value.int .i64) ++ [.int .i64 x])) (hat : v'.ownBlock = vt.ownBlock ∨ v'.ownBlock = some (w.alloc o).heap.size) :
    MadeX base g vr vl vw v' rs ls ws (ts ++ [x]) many (w1.setCell ⟨g, 3, none⟩ v') ∧ Kept base MTag w (w1.setCell ⟨g, 3, none⟩ v') := by
  obtain ⟨hbx, hk, hrow⟩ := h.grow hg (h.own3 h.rt (.inl rfl))
  have ho' : IntsAt 3 base w1 v' (ts ++ [x]) := by unfold IntsAt; simpa using ho
  refine ⟨⟨?_, row_set (hrow h.rr (dis_tags h.rt h.rr (by decide))) hbx (by decide), row_set (hrow h.rl h.lt.symm) hbx (by decide), row_set (hrow h.rw' h.wt.symm) hbx (by decide), row_set ho' hbx (by decide), h.lw, (dis_new h.lt.symm h.rl o hat).symm, (dis_new h.wt.symm h.rw' o hat).symm, h.gb, by rw [setCell_size]; exact Nat.le_trans h.wb hk.size⟩, kept_set44 hk hbx h.box h.gb⟩
  simp [World.setCell, Array.getElem?_modify, hbx]
theorem MadeX.stepR (h : MadeX base g vr vl vw vt rs ls ws ts many w) {o : Obj} {v' : Value} {x : Strd.Bs} (hg : (w.alloc o).grownBy w1 vr.ownBlock) (ho : w1.ownsRow base 9 1 v' (rs.length + 1) (rs.map (fun s => Value.string (bstr s)) ++ [.string (bstr x)])) :
    MadeX base g v' vl vw vt (rs ++ [x]) ls ws ts many (w1.setCell ⟨g, 0, none⟩ v') ∧ Kept base MTag w (w1.setCell ⟨g, 0, none⟩ v') := by
  obtain ⟨hbx, hk, hrow⟩ := h.grow hg (h.own3 h.rr (.inr rfl))
  have ho' : StrsAt base w1 v' (rs ++ [x]) := by unfold StrsAt; simpa using ho
  refine ⟨⟨?_, row_set ho' hbx (by decide), row_set (hrow h.rl (dis_tags h.rr h.rl (by decide))) hbx (by decide), row_set (hrow h.rw' (dis_tags h.rr h.rw' (by decide))) hbx (by decide), row_set (hrow h.rt (dis_tags h.rr h.rt (by decide))) hbx (by decide), h.lw, h.lt, h.wt, h.gb, by rw [setCell_size]; exact Nat.le_trans h.wb hk.size⟩, kept_set44 hk hbx h.box h.gb⟩
  simp [World.setCell, Array.getElem?_modify, hbx]
end
end Go.Proofs.YtegiloiojloaoaaGreatDoor

set_option linter.unusedVariables false
set_option linter.unusedSimpArgs false
namespace Go.Proofs.YtegiloiojloaoaaGreatDoor
open Go.RowKit Go.Shelf Go.Sort Go.Maps

theorem MadeX.cells {base g : Nat} {vr vl vw vt : Value} {rs : List Strd.Bs} {ls ws ts : List Int} {many : Int} {w : World} (h : MadeX base g vr vl vw vt rs ls ws ts many w) : w.cell? ⟨g, 0, none⟩ = some vr ∧ w.cell? ⟨g, 1, none⟩ = some vl ∧ w.cell? ⟨g, 2, none⟩ = some vw ∧ w.cell? ⟨g, 3, none⟩ = some vt ∧ w.cell? ⟨g, 4, none⟩ = some (.int .i64 many) := by
  have x0 := box_cell h.box 0
  have x1 := box_cell h.box 1
  have x2 := box_cell h.box 2
  have x3 := box_cell h.box 3
  have x4 := box_cell h.box 4
  simp only [List.getElem?_toArray, List.getElem?_cons_zero, List.getElem?_cons_succ] at x0 x1 x2 x3 x4
  exact ⟨x0, x1, x2, x3, x4⟩
theorem own_shape {w : World} {base n size : Nat} {e : TypeId} {v : Value} {xs : List Value} (h : w.ownsRow base e size v n xs) : ∃ p cap, v = .slice p n cap := by
  rcases h.2 with ⟨rfl, h0⟩ | ⟨g, cap, cur, rfl, _⟩
  · exact ⟨none, 0, by rw [h0]⟩
  · exact ⟨_, _, rfl⟩
theorem int_one (x : Int) : ∀ u ∈ [Value.int .i64 x], u.oneCell' = true := by intro u hu; rw [List.mem_singleton] at hu; subst hu; rfl
set_option maxRecDepth 1000000 in
set_option maxHeartbeats 4000000 in
theorem add_m (base g : Nat) (vr vl vw vt : Value) (rs : List Strd.Bs) (ls ws ts : List Int) (many : Int) (x y z : Int) (s : Strd.Bs) (w : World) (h : MadeX base g vr vl vw vt rs ls ws ts many w) (hr : rs.length ≤ 2 ^ 20) (hl : ls.length ≤ 2 ^ 20) (hw : ws.length ≤ 2 ^ 20) (ht : ts.length ≤ 2 ^ 20) :
    Calls Tryz.prog 33 #[.pointer (some ⟨g, 0, none⟩), .int .i64 x, .int .i64 y, .int .i64 z, .string (bstr s)] w fun e w' => e = .returned (.tuple #[]) ∧ (∃ vr' vl' vw' vt', MadeX base g vr' vl' vw' vt' (rs ++ [s]) (ls ++ [x]) (ws ++ [y]) (ts ++ [z]) many w') ∧ Kept base MTag w w' := by
  obtain ⟨i0, hi, hz0, hz1, hz2⟩ := info_parts Tryz.info3
  obtain ⟨j0, hj, hy0, hy1, hy2⟩ := info_parts Tryz.info9
  obtain ⟨a0, a1, a2, a3, a4⟩ := h.cells
  have hg := lt_of_box h.box
  have hwb := h.wb
  have H := hide h
  clear h
  have Hrow0 := hide ((unhide H).rl)
  have hga0 : g < (w.alloc (.cells #[.int .i64 x] 3)).heap.size := by simp; omega
  go_enter Tryz.func33, Tryz.ntmps33
  go_upto_region 1 with (at_builtin; refine wpList_append_own_at _ rfl _ _ 42 rfl base 3 i0 (.int .i64 0) 1 8 Tryz.underlying42 hi hz0 hz1 hz2 rfl (by decide) vl ls.length (ls.map (Value.int .i64)) rfl ((unhide Hrow0).alloc _) ⟨w.heap.size, 0, none⟩ 1 1 [.int .i64 x] rfl rfl (cell_one_new _ _ _) (int_one x) (by unfold maxLen; omega) (by omega) (by rw [World.size_alloc]; omega) ?_; intro v0 u0 hown0 hgrow0 _ hat0; obtain ⟨q0, e0, rfl⟩ := own_shape hown0; obtain ⟨hX0, hk0⟩ := (unhide H).stepL hgrow0 hown0 hat0; have hbx0 := ((unhide H).grow hgrow0 ((unhide H).own3 (unhide Hrow0) (.inl rfl))).1; have b0 := box_cell hbx0 1; simp only [List.getElem?_toArray, List.getElem?_cons_zero, List.getElem?_cons_succ] at b0; have f0 := box_free hbx0 1; have hlb0 := lt_of_box hbx0; have HX0 := hide hX0; clear hown0 hgrow0 hat0 hbx0 Hrow0 hga0 hX0)
  generalize u0.setCell ⟨g, 1, none⟩ (.slice q0 (ls.length + 1) e0) = w10 at *
  clear b0 f0 hlb0
  obtain ⟨d00, d01, d02, d03, d04⟩ := (unhide HX0).cells
  have hg0 := lt_of_box (unhide HX0).box
  have hwb0 := (unhide HX0).wb
  have Hrow1 := hide ((unhide HX0).rw')
  have hga1 : g < (w10.alloc (.cells #[.int .i64 y] 3)).heap.size := by simp; omega
  go_upto_region 2 with (at_builtin; refine wpList_append_own_at _ rfl _ _ 42 rfl base 3 i0 (.int .i64 0) 1 8 Tryz.underlying42 hi hz0 hz1 hz2 rfl (by decide) vw ws.length (ws.map (Value.int .i64)) rfl ((unhide Hrow1).alloc _) ⟨w10.heap.size, 0, none⟩ 1 1 [.int .i64 y] rfl rfl (cell_one_new _ _ _) (int_one y) (by unfold maxLen; omega) (by omega) (by rw [World.size_alloc]; omega) ?_; intro v1 u1 hown1 hgrow1 _ hat1; obtain ⟨q1, e1, rfl⟩ := own_shape hown1; obtain ⟨hX1, hk1⟩ := (unhide HX0).stepW hgrow1 hown1 hat1; have hbx1 := ((unhide HX0).grow hgrow1 ((unhide HX0).own3 (unhide Hrow1) (.inl rfl))).1; have b1 := box_cell hbx1 2; simp only [List.getElem?_toArray, List.getElem?_cons_zero, List.getElem?_cons_succ] at b1; have f1 := box_free hbx1 2; have hlb1 := lt_of_box hbx1; have HX1 := hide hX1; clear hown1 hgrow1 hat1 hbx1 Hrow1 hga1 hX1)
  generalize u1.setCell ⟨g, 2, none⟩ (.slice q1 (ws.length + 1) e1) = w11 at *
  clear b1 f1 hlb1
  obtain ⟨d10, d11, d12, d13, d14⟩ := (unhide HX1).cells
  have hg1 := lt_of_box (unhide HX1).box
  have hwb1 := (unhide HX1).wb
  have Hrow2 := hide ((unhide HX1).rt)
  have hga2 : g < (w11.alloc (.cells #[.int .i64 z] 3)).heap.size := by simp; omega
  go_upto_region 3 with (at_builtin; refine wpList_append_own_at _ rfl _ _ 42 rfl base 3 i0 (.int .i64 0) 1 8 Tryz.underlying42 hi hz0 hz1 hz2 rfl (by decide) vt ts.length (ts.map (Value.int .i64)) rfl ((unhide Hrow2).alloc _) ⟨w11.heap.size, 0, none⟩ 1 1 [.int .i64 z] rfl rfl (cell_one_new _ _ _) (int_one z) (by unfold maxLen; omega) (by omega) (by rw [World.size_alloc]; omega) ?_; intro v2 u2 hown2 hgrow2 _ hat2; obtain ⟨q2, e2, rfl⟩ := own_shape hown2; obtain ⟨hX2, hk2⟩ := (unhide HX1).stepT hgrow2 hown2 hat2; have hbx2 := ((unhide HX1).grow hgrow2 ((unhide HX1).own3 (unhide Hrow2) (.inl rfl))).1; have b2 := box_cell hbx2 3; simp only [List.getElem?_toArray, List.getElem?_cons_zero, List.getElem?_cons_succ] at b2; have f2 := box_free hbx2 3; have hlb2 := lt_of_box hbx2; have HX2 := hide hX2; clear hown2 hgrow2 hat2 hbx2 Hrow2 hga2 hX2)
  generalize u2.setCell ⟨g, 3, none⟩ (.slice q2 (ts.length + 1) e2) = w12 at *
  clear b2 f2 hlb2
  obtain ⟨d20, d21, d22, d23, d24⟩ := (unhide HX2).cells
  have hg2 := lt_of_box (unhide HX2).box
  have hwb2 := (unhide HX2).wb
  have Hrow3 := hide ((unhide HX2).rr)
  have hga3 : g < (w12.alloc (.cells #[.string (bstr s)] 9)).heap.size := by simp; omega
  go_wp2_with (at_builtin; refine wpList_append_own_at _ rfl _ _ 38 rfl base 9 j0 (.string ⟨#[]⟩) 1 16 Tryz.underlying38 hj hy0 hy1 hy2 rfl (by decide) vr rs.length (rs.map fun s => Value.string (bstr s)) rfl ((unhide Hrow3).alloc _) ⟨w12.heap.size, 0, none⟩ 1 1 [.string (bstr s)] rfl rfl (cell_one_new _ _ _) (strs_one [s]) (by unfold maxLen; omega) (by omega) (by rw [World.size_alloc]; omega) ?_; intro v3 u3 hown3 hgrow3 _ hat3; obtain ⟨q3, e3, rfl⟩ := own_shape hown3; obtain ⟨hX3, hk3⟩ := (unhide HX2).stepR hgrow3 hown3; have hbx3 := ((unhide HX2).grow hgrow3 ((unhide HX2).own3 (unhide Hrow3) (.inr rfl))).1; have b3 := box_cell hbx3 0; simp only [List.getElem?_toArray, List.getElem?_cons_zero, List.getElem?_cons_succ] at b3; have f3 := box_free hbx3 0; have hlb3 := lt_of_box hbx3; have HX3 := hide hX3; clear hown3 hgrow3 hat3 hbx3 Hrow3 hga3 hX3)
  go_end0
  exact ⟨rfl, ⟨_, _, _, _, unhide HX3⟩, ((hk0.trans hk1).trans hk2).trans hk3⟩
end Go.Proofs.YtegiloiojloaoaaGreatDoor
