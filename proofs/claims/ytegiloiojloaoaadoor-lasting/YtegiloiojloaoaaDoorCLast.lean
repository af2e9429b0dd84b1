/- The contract of striderkeep.Lasting (the door alone has it). -/
import Derived.Test.YtegiloiojloaoaaDoorCLaw1
import Derived.Test.YtegiloiojloaoaaDoorCCnt
import Derived.Deep.RegionLawGrows
set_option linter.unusedVariables false
set_option linter.unusedSimpArgs false
namespace Go.Proofs.YtegiloiojloaoaaDoor
open Go.RowKit Go.Shelf Go.Sort Go.Maps

theorem row_parts {w : World} {base n : Nat} {e : TypeId} {v : Value} {xs : List Value} (h : w.ownsRow base e 1 v n xs) : ∃ p cap, v = .slice p n cap ∧ n ≤ cap ∧ cap ≤ maxLen ∧ (p = none → n = 0 ∧ cap = 0) ∧ (∀ b, p = some b → base ≤ b.block ∧ ∃ g, b = ⟨g, 0, none⟩) ∧ (∀ b, p = some b → ∀ j u, xs[j]? = some u → w.cell? (b.add j) = some u) := by
  rcases h.2 with ⟨rfl, h0⟩ | ⟨g, cap, cur, rfl, hb, hx, h1, h2, h3, h4⟩
  · subst h0
    exact ⟨none, 0, rfl, Nat.le_refl _, Nat.zero_le _, fun _ => ⟨rfl, rfl⟩, (fun b hb => by cases hb), (fun b hb => by cases hb)⟩
  · refine ⟨_, cap, rfl, h1, h2, (fun hb => by cases hb), (fun b hb' => by cases hb'; exact ⟨hb, g, rfl⟩), fun b hb' j u hj => ?_⟩
    cases hb'
    have ea : (⟨g, 0, none⟩ : Addr).add j = ⟨g, j, none⟩ := by rw [Addr.add_lit, Nat.zero_add]
    rw [ea, box_cell hx j]
    rw [← h4] at hj
    rw [List.getElem?_take] at hj
    split at hj
    · rw [← Array.getElem?_toList]; exact hj
    · cases hj
theorem below_set2 {a b : Nat} {w W : World} {x y : Value} (h : Below a w W) (hb : a ≤ b) : Below a w ((W.setCell ⟨b, 0, none⟩ x).setCell ⟨b, 1, none⟩ y) := (h.setCell hb x).setCell hb y
theorem below_g1 {w w' : World} {o : Obj} (h : (w.drew.alloc o).grownBy w' none) : Below w.heap.size w w' := Below.grown (below_t (below_d (Below.refl _ _)) (below_a _ _)) h (by simp) (fun k e => by cases e)
theorem below_g2 {w w' : World} {o o' : Obj} (h : ((w.drew.alloc o).alloc o').grownBy w' none) : Below w.heap.size w w' := Below.grown (below_t (below_t (below_d (Below.refl _ _)) (below_a _ _)) (below_a _ _)) h (by simp; omega) (fun k e => by cases e)
theorem below_size {w w' : World} (h : Below w.heap.size w w') : w.heap.size ≤ w'.heap.size := h.size
theorem below_grow {w w' w'' : World} (h : Below w.heap.size w w') (hg : w'.grownBy w'' none) : Below w.heap.size w w'' := Below.grown h hg h.size (fun k e => by cases e)
theorem grow_box {w w' : World} {b : Nat} {cs : Array Value} {t : TypeId} (hg : w.grownBy w' none) (h : w.heap[b]? = some (.cells cs t (0, 0))) : w'.heap[b]? = some (.cells cs t (0, 0)) := by rw [hg.block b (lt_of_box h) (by simp)]; exact h
theorem set_two {w : World} {b : Nat} {x y u v : Value} {t : TypeId} (h : w.heap[b]? = some (.cells #[x, y] t (0, 0))) : ((w.setCell ⟨b, 0, none⟩ u).setCell ⟨b, 1, none⟩ v).heap[b]? = some (.cells #[u, v] t (0, 0)) := by simp [World.setCell, Array.getElem?_modify, h]
theorem forms_shape {w : World} {v : Value} {fs : List Nat} {n : Nat} (h : FormsAt w v fs) (hn : fs.length = n) : ∃ p c, v = .slice p n c := by
  obtain ⟨b, hb⟩ := h
  obtain ⟨p, c, e⟩ := own_shape hb
  rw [List.length_map, hn] at e
  exact ⟨p, c, e⟩
theorem forms_of {W : World} {b i : Nat} {v : Value} {O : List Nat} {f : Nat} (hol : (O.take i).length = i) (h : W.ownsRow b 3 1 v (i + 1) (((O.take i).map fun (f : Nat) => Value.int .i64 (f : Int)) ++ [.int .i64 (f : Int)])) : FormsAt W v (O.take i ++ [f]) := by
  refine ⟨b, ?_⟩
  show W.ownsRow _ _ _ _ _ _
  rw [List.length_map, List.length_append, hol, List.map_map, List.map_append]
  exact h
theorem cell_one_eq (w : World) (v : Value) (e : TypeId) {b : Nat} (hb : b = w.heap.size) : ∀ j u, [v][j]? = some u → (w.alloc (.cells #[v] e)).cell? ((⟨b, 0, none⟩ : Addr).add j) = some u := by subst hb; exact cell_one_new w v e
theorem row_base' {w : World} {b b' n size : Nat} {e : TypeId} {v : Value} {xs : List Value} (h : w.ownsRow b e size v n xs) (hb : b' ≤ b) : w.ownsRow b' e size v n xs := by
  refine ⟨h.1, ?_⟩
  rcases h.2 with h0 | ⟨g, cap, cur, rfl, h1, h2⟩
  · exact .inl h0
  · exact .inr ⟨g, cap, cur, rfl, Nat.le_trans hb h1, h2⟩
theorem row_put {W : World} {base g n cap k : Nat} {e : TypeId} {xs : List Value} {x : Value} (h : W.ownsRow base e 1 (.slice (some ⟨g, 0, none⟩) n cap) n xs) (hk : k < n) : (W.setCell ⟨g, k, none⟩ x).ownsRow base e 1 (.slice (some ⟨g, 0, none⟩) n cap) n (xs.set k x) := by
  refine ⟨by rw [List.length_set]; exact h.1, .inr ?_⟩
  rcases h.2 with ⟨he, _⟩ | ⟨g', cap', cur, he, hb, hx, h1, h2, h3, h4⟩
  · cases he
  · cases he
    refine ⟨g, cap, cur.setIfInBounds k x, rfl, hb, by simp [World.setCell, Array.getElem?_modify, hx], h1, h2, by simpa using h3, ?_⟩
    rw [Array.toList_setIfInBounds, ← h4, List.take_set]
theorem row_cell {W : World} {base g n cap k : Nat} {e : TypeId} {xs : List Value} (h : W.ownsRow base e 1 (.slice (some ⟨g, 0, none⟩) n cap) n xs) (hk : k < n) : W.cell? ⟨g, k, none⟩ = xs[k]? ∧ W.frozen? ⟨g, k, none⟩ = false ∧ g < W.heap.size := by
  rcases h.2 with ⟨he, _⟩ | ⟨g', cap', cur, he, hb, hx, h1, h2, h3, h4⟩
  · cases he
  · cases he
    refine ⟨?_, box_free hx k, lt_of_box hx⟩
    rw [box_cell hx k, ← h4, List.getElem?_take, if_pos (by omega), Array.getElem?_toList]
theorem forms_row {W : World} {b n : Nat} {v : Value} {fs : List Nat} (hn : fs.length = n) (h : W.ownsRow b 3 1 v n (fs.map fun (f : Nat) => Value.int .i64 (f : Int))) : FormsAt W v fs := by
  refine ⟨b, ?_⟩
  show W.ownsRow _ _ _ _ _ _
  rw [List.length_map, hn, List.map_map]
  exact h
theorem cell_one_old (w : World) (v : Value) (e : TypeId) (o : Obj) : ∀ j u, [v][j]? = some u → ((w.alloc (.cells #[v] e)).alloc o).cell? ((⟨w.heap.size, 0, none⟩ : Addr).add j) = some u := fun j u h => by
  have h1 := cell_one_new w v e j u h
  have ea : (⟨w.heap.size, 0, none⟩ : Addr).add j = ⟨w.heap.size, j, none⟩ := by rw [Addr.add_lit, Nat.zero_add]
  rw [ea] at h1 ⊢
  rw [← h1]
  exact (below_a (w.alloc (.cells #[v] e)) o).cell (p := ⟨w.heap.size, j, none⟩) (by simp)
set_option maxRecDepth 1000000 in
set_option maxHeartbeats 4000000 in
theorem Lasting_c (v : Value) (xs : List Strd.Item) (z : Int) (w : World) (hI : ItemsAt w v xs) (hx : xs.length ≤ 9223372036854775807) (hz : I64 z) (h11 : 8 ≤ w.heap.size) (hT : Tabs w) :
    Calls Tryd.prog 5 #[v, .int .i64 z] w fun e w' => e = .returned (.bool true) ∧ Below w.heap.size w w' := by
  obtain ⟨i0, hi0, hz0, hz1, hz2⟩ := info_parts Tryd.info3
  have HT := hide hT
  have HI := hide hI
  have Hz := hide hz
  obtain ⟨pv, cv, rfl⟩ := hI.shape
  clear hT hI hz
  go_enter Tryd.func5, Tryd.ntmps5
  go_wp2_with fail
  refine (awake_c w h11 (unhide HT)).mono ?_
  rintro e w1 ⟨rfl, hb1⟩
  go_wp2_with fail
  refine (made_c _ xs w1 ((unhide HI).below hb1) hx).mono ?_
  rintro e w2 ⟨cs, rfl, hV, hb2⟩
  have HV := hide hV
  obtain ⟨pr, cr, pl, cl, pw, cw, pt, ct, rfl⟩ := hV.shape
  have hM := Strd.made_msEven xs
  have hMlen := hM.ok.len
  generalize hms : Strd.made xs = ms at *
  have hb3 := below_a w2 (.cells #[.slice pr ms.length cr, .slice pl ms.length cl, .slice pw ms.length cw, .slice pt ms.length ct, .int .i64 6] 27)
  have Hbx := hide (box_new w2 (.cells #[.slice pr ms.length cr, .slice pl ms.length cl, .slice pw ms.length cw, .slice pt ms.length ct, .int .i64 6] 27))
  have HM := hide hM
  clear hV hms hM
  go_upto_region 5 with fail
  have HV3 := hide ((unhide HV).below hb3)
  have hB3 := below_t hb1 (below_t hb2 hb3)
  generalize w2.alloc (.cells #[.slice pr ms.length cr, .slice pl ms.length cl, .slice pw ms.length cw, .slice pt ms.length ct, .int .i64 6] 27) = w3 at *
  generalize w2.heap.size = g at *
  have x0 := box_cell (unhide Hbx) 0
  have x1 := box_cell (unhide Hbx) 1
  have x2 := box_cell (unhide Hbx) 2
  have x3 := box_cell (unhide Hbx) 3
  have x4 := box_cell (unhide Hbx) 4
  simp only [List.getElem?_toArray, List.getElem?_cons_zero, List.getElem?_cons_succ] at x0 x1 x2 x3 x4
  have hlb := lt_of_box (unhide Hbx)
  clear hb2 hb3
  go_wp2_with fail
  refine (count_c ms hMlen _ _ w3 (unhide HV3)).mono ?_
  rintro e w4 ⟨rfl, hb4⟩
  have hB4 := below_t hB3 hb4
  have Hbx4 := hide (bbox hb4 (unhide Hbx))
  have HV4 := hide ((unhide HV3).below hb4)
  clear x0 x1 x2 x3 x4 hlb hb1 hb4
  have x0 := box_cell (unhide Hbx4) 0
  have x1 := box_cell (unhide Hbx4) 1
  have x2 := box_cell (unhide Hbx4) 2
  have x3 := box_cell (unhide Hbx4) 3
  have x4 := box_cell (unhide Hbx4) 4
  simp only [List.getElem?_toArray, List.getElem?_cons_zero, List.getElem?_cons_succ] at x0 x1 x2 x3 x4
  have hlb := lt_of_box (unhide Hbx4)
  have hJ40 : Strd.jumpsIn ms ≤ 40 := Nat.le_trans List.countP_le_length hMlen
  have Holen := hide (Strd.out_len (unhide HM))
  have Horng := hide (fun i hi => Strd.out_rng (unhide HM) i hi)
  have Hstep := hide (fun i hi f h1 h3 => Strd.lasting_step (unhide HM) i hi f h1 h3)
  have Hagree := hide (fun fs hf => Strd.agree_eq (unhide HM) fs hf)
  have Hless := hide (fun fs h4 i hi h1 h2 => Strd.less_bad (unhide HM) fs h4 i hi h1 h2)
  have HA := hide (fun W (hb : Below w.heap.size w W) => asm_plain (unhide HM) W (Nat.le_trans h11 hb.size) ((unhide HT).below hb))
  have HAF := hide (fun fs W (hb : Below w.heap.size w W) => asm_src (unhide HM) fs W (Nat.le_trans h11 hb.size) ((unhide HT).below hb))
  rw [Strd.plain_asm (unhide HM)] at Hstep Hagree
  generalize hJ : Strd.jumpsIn ms = J at *
  clear hJ
  generalize hO : Strd.out ms = O at *
  clear hO
  go_wp2_with fail
  refine (source_c ms (unhide HM).ok.ok hMlen [] (fun f hf => by cases hf) _ _ _ w4 (unhide HV4) (FormsAt.nil _) (by simp)).mono ?_
  rintro e w5 ⟨rfl, hb5⟩
  have hB5 := below_t hB4 hb5
  generalize hIB : Strd.imgOf (Strd.Lp ms []) (Strd.F0 ms) = IB at *
  clear x0 x1 x2 x3 x4
  go_wp2_with fail
  refine (unhide HA w5 hB5).mono ?_
  rintro e w6 ⟨rfl, hb6⟩
  have hb7 := below_a w6 (.cells #[.int .i64 0, .string (bstr IB)] 30)
  have Hib := hide (box_new w6 (.cells #[.int .i64 0, .string (bstr IB)] 30))
  go_upto_region 8 with fail
  have hb47 := below_t hb5 (below_t hb6 hb7)
  have HV7 := hide ((unhide HV4).below hb47)
  have Hbx7 := hide (bbox hb47 (unhide Hbx4))
  have hB7 := below_t hB5 (below_t hb6 hb7)
  generalize w6.alloc (.cells #[.int .i64 0, .string (bstr IB)] 30) = w7 at *
  generalize w6.heap.size = q at *
  clear hb5 hb6 hb7 hb47 hlb
  go_wp2_with fail
  go_loopw [8, 12] (fun c8 c12 wr => ∃ i : Nat, i ≤ J ∧ World.ownsRow wr w7.heap.size 3 1 c8 i ((O.take i).map fun (f : Nat) => Value.int .i64 (f : Int)) ∧ c12 = .int .i64 i ∧ Below w7.heap.size w7 wr) (fun _ c _ => J - (intOf c).toNat)
  case atStart => exact ⟨0, by omega, World.ownsRow_nil _ _ _ _, rfl, Below.refl _ _⟩
  case round =>
    obtain ⟨i, hi, hrow, rfl, hbr⟩ := hrel
    obtain ⟨wo, hwo⟩ : ∃ wo, wo = wr := ⟨_, rfl⟩
    subst hwo
    obtain ⟨pf, cf, rfl, hcf, hcm, hnone, hsome, hcells⟩ := row_parts hrow
    have Hnone := hide hnone
    have Hsome := hide hsome
    have Hcells := hide hcells
    have Hrow := hide hrow
    clear hnone hsome hcells hrow
    unfold maxLen at hcm
    by_cases hlt : i < J
    · have hltI : (i : Int) < (J : Int) := by omega
      have ho := unhide Horng i hlt
      have Hst := hide (unhide Hstep i hlt)
      have hol := unhide Holen
      have HOs : Hid (O.take (i + 1) = O.take i ++ [O.getD i 0]) := hide (by
        rw [List.take_succ_eq_append_getElem (by rw [hol]; exact hlt), List.getD_eq_getElem?_getD, List.getElem?_eq_getElem (by rw [hol]; exact hlt)]; rfl)
      have Hol := hide hol
      clear hol
      generalize O.getD i 0 = o at *
      go_wp2_with fail
      go_loopw [13, 14] (fun c13 c14 wr => ∃ f : Nat, c14 = .int .i64 f ∧ (c13 = .int .i64 0 ∧ 1 ≤ f ∧ f ≤ o ∨ c13 = .int .i64 o ∧ f = o + 1) ∧ Below wo.heap.size wo wr) (fun _ c _ => 4 - (intOf c).toNat)
      case atStart => exact ⟨1, rfl, .inl ⟨rfl, by omega, by omega⟩, Below.refl _ _⟩
      case round =>
        obtain ⟨f, rfl, hcase, hbi⟩ := hrel
        obtain ⟨wi, hwi⟩ : ∃ wi, wi = wr := ⟨_, rfl⟩
        subst hwi
        rcases hcase with ⟨rfl, h1f, hfo⟩ | ⟨rfl, hfo⟩
        · have hf3 : (f : Int) ≤ 3 := by omega
          have hif : (i : Int) ≤ (cf : Int) := by omega
          have h7i := below_t hbr hbi
          have hBi := below_t hB7 h7i
          have HVi := hide ((unhide HV7).below h7i)
          have HWc : Hid (∀ W, Below wi.heap.size wi W → (W.cell? ⟨g, 0, none⟩ = some (.slice pr ms.length cr) ∧ W.cell? ⟨g, 1, none⟩ = some (.slice pl ms.length cl) ∧ W.cell? ⟨g, 2, none⟩ = some (.slice pw ms.length cw) ∧ W.cell? ⟨g, 3, none⟩ = some (.slice pt ms.length ct) ∧ W.cell? ⟨g, 4, none⟩ = some (.int .i64 6))) := hide (fun W hb => by
            have hbx := bbox hb (bbox h7i (unhide Hbx7))
            have e0 := box_cell hbx 0
            have e1 := box_cell hbx 1
            have e2 := box_cell hbx 2
            have e3 := box_cell hbx 3
            have e4 := box_cell hbx 4
            simp only [List.getElem?_toArray, List.getElem?_cons_zero, List.getElem?_cons_succ] at e0 e1 e2 e3 e4
            exact ⟨e0, e1, e2, e3, e4⟩)
          go_wp2_with fail
          have hsl : (if i = 0 then pf else Option.map (fun x => x.add 0) pf) = pf := by
            split
            · rfl
            · cases pf with
              | none => rfl
              | some b =>
                obtain ⟨_, g1, rfl⟩ := unhide Hsome b rfl
                rw [Option.map_some, Addr.add_lit]
          have HN : Hid (pf = none → i = 0 ∧ i = 0) := hide fun h => ⟨(unhide Hnone h).1, (unhide Hnone h).1⟩
          have hol : (O.take i).length = i := by rw [List.length_take, unhide Hol]; omega
          have HF4 : Hid (∀ x ∈ O.take i ++ [f], x < 4) := hide (fun x hx => by
            rcases List.mem_append.1 hx with hx | hx
            · obtain ⟨k, hk, rfl⟩ := List.getElem_of_mem hx
              rw [hol] at hk
              have := unhide Horng k (by omega)
              rw [List.getD_eq_getElem?_getD, List.getElem?_eq_getElem (by rw [unhide Hol]; omega)] at this
              simp only [Option.getD_some] at this
              rw [List.getElem_take]; omega
            · rw [List.mem_singleton] at hx; omega)
          have Hcw : Hid (∀ W, Below wi.heap.size wi W → ∀ b, pf = some b → ∀ j u, ((O.take i).map fun (f : Nat) => Value.int .i64 (f : Int))[j]? = some u → W.cell? (b.add j) = some u) := hide (fun W hb b hpb j u hu => by
            have h1 := unhide Hcells b hpb j u hu
            obtain ⟨_, g1, rfl⟩ := unhide Hsome b hpb
            have e : (⟨g1, 0, none⟩ : Addr).add j = ⟨g1, j, none⟩ := by rw [Addr.add_lit, Nat.zero_add]
            rw [e] at h1 ⊢
            have hl1 := lt_of_cell h1
            rw [← h1, ← hbi.cell (p := ⟨g1, j, none⟩) hl1]
            exact hb.cell (p := ⟨g1, j, none⟩) (Nat.lt_of_lt_of_le hl1 hbi.size))
          have Hasm2 := hide (unhide Hst f h1f (by omega))
          generalize hAk : Strd.assemble (Strd.srcOf (Strd.pairs ms (O.take i ++ [f]))) = Ak at Hasm2
          obtain ⟨⟨AO, AB⟩, AL, AE⟩ := Ak
          have HAF2 := hide (fun W hb => unhide HAF (O.take i ++ [f]) W hb)
          rw [hAk] at HAF2
          clear hAk
          refine wp_region_noPanic ?_
          refine wp_region_held_drew (S := fun W => W.cell? ⟨g, 0, none⟩ = some (.slice pr ms.length cr) ∧ W.cell? ⟨g, 1, none⟩ = some (.slice pl ms.length cl) ∧ W.cell? ⟨g, 2, none⟩ = some (.slice pw ms.length cw) ∧ W.cell? ⟨g, 3, none⟩ = some (.slice pt ms.length ct) ∧ W.cell? ⟨g, 4, none⟩ = some (.int .i64 6)) (by kernel_rfl) ?_ (fun hHeld => ?_)
          · exact unhide HWc _ (below_d (Below.refl _ _))
          refine wpAnyH_take (i := 0) (oi := { dst := some 54, op := Op.load 27 (Operand.tmp 6), type := 27, pos := "keeps.go:184", after := #[], guard := none }) (v := ?v0x1) rfl (by kernel_rfl) (by kernel_rfl) (by kernel_rfl) (fun _ _ _ h => h) (Or.inl ⟨by rfl, ?hy0x1⟩) (by assumption) ?rest0x1
          case hy0x1 => (intro w' hSw; (try dsimp only at hSw); go_simp; (try with_reducible rfl))
          (try simp only [Act.put, List.setIfInBounds_toArray, List.set_cons_zero, List.set_cons_succ])
          refine wpAnyH_take (i := 1) (oi := { dst := some 55, op := Op.move (Operand.tmp 8), type := 23, pos := "keeps.go:184", after := #[], guard := none }) (v := ?v1x2) rfl (by kernel_rfl) (by kernel_rfl) (by kernel_rfl) (fun _ _ _ h => h) (Or.inl ⟨by rfl, ?hy1x2⟩) (by assumption) ?rest1x2
          case hy1x2 => (intro w' hSw; (try dsimp only at hSw); go_simp; (try with_reducible rfl))
          (try simp only [Act.put, List.setIfInBounds_toArray, List.set_cons_zero, List.set_cons_succ])
          refine wpAnyH_take (i := 2) (oi := { dst := some 56, op := Op.move (Operand.tmp 12), type := 3, pos := "keeps.go:184", after := #[], guard := none }) (v := ?v2x3) rfl (by kernel_rfl) (by kernel_rfl) (by kernel_rfl) (fun _ _ _ h => h) (Or.inl ⟨by rfl, ?hy2x3⟩) (by assumption) ?rest2x3
          case hy2x3 => (intro w' hSw; (try dsimp only at hSw); go_simp; (try with_reducible rfl))
          (try simp only [Act.put, List.setIfInBounds_toArray, List.set_cons_zero, List.set_cons_succ])
          refine wpAnyH_take (i := 3) (oi := { dst := some 57, op := Op.move (Operand.tmp 12), type := 3, pos := "keeps.go:184", after := #[], guard := none }) (v := ?v3x4) rfl (by kernel_rfl) (by kernel_rfl) (by kernel_rfl) (fun _ _ _ h => h) (Or.inl ⟨by rfl, ?hy3x4⟩) (by assumption) ?rest3x4
          case hy3x4 => (intro w' hSw; (try dsimp only at hSw); go_simp; (try with_reducible rfl))
          (try simp only [Act.put, List.setIfInBounds_toArray, List.set_cons_zero, List.set_cons_succ])
          refine wpAnyH_take (i := 4) (oi := { dst := some 58, op := Op.slice 23 (Operand.tmp 55) none (some (Operand.tmp 56)) (some (Operand.tmp 57)), type := 23, pos := "keeps.go:184", after := #[{ on := 1, ground := Ground.data }, { on := 2, ground := Ground.data }, { on := 3, ground := Ground.data }], guard := none }) (v := ?v4x5) rfl (by kernel_rfl) (by kernel_rfl) (by kernel_rfl) (fun _ _ _ h => h) (Or.inl ⟨by rfl, ?hy4x5⟩) (by assumption) ?rest4x5
          case hy4x5 => (intro w' hSw; (try dsimp only at hSw); go_simp; (try with_reducible rfl))
          (try simp only [Act.put, List.setIfInBounds_toArray, List.set_cons_zero, List.set_cons_succ])
          refine wpAnyH_take (i := 5) (oi := { dst := some 59, op := Op.move (Operand.tmp 14), type := 3, pos := "keeps.go:184", after := #[], guard := none }) (v := ?v5x6) rfl (by kernel_rfl) (by kernel_rfl) (by kernel_rfl) (fun _ _ _ h => h) (Or.inl ⟨by rfl, ?hy5x6⟩) (by assumption) ?rest5x6
          case hy5x6 => (intro w' hSw; (try dsimp only at hSw); go_simp; (try with_reducible rfl))
          (try simp only [Act.put, List.setIfInBounds_toArray, List.set_cons_zero, List.set_cons_succ])
          refine wpAnyH_ready (rs := [6, 14]) (by kernel_rfl) (by simp) ?_
          refine AllReadyH.cons (o := { dst := some 60, op := Op.buildSlice 23 1 #[(0, Operand.tmp 59)], type := 23, pos := "keeps.go:184", after := #[{ on := 5, ground := Ground.data }], guard := none }) rfl (fun K hK => ?_) ?_
          · go_simp
            refine hK.out _ _ ?_ (fun hHeld => ?_)
            · exact unhide HWc _ (below_t (below_d (Below.refl _ wi)) (below_a _ _))
            clear hK K
            (try simp only [Act.put, List.setIfInBounds_toArray, List.set_cons_zero, List.set_cons_succ])
            refine wpAnyH_ready (rs := [7, 14]) (by kernel_rfl) (by simp) ?_
            refine AllReadyH.cons (o := { dst := some 61, op := Op.call { callee := Callee.builtin Builtin.append, args := #[Operand.tmp 58, Operand.tmp 60], argTypes := #[23, 23] }, type := 23, pos := "keeps.go:184", after := #[{ on := 4, ground := Ground.data }, { on := 6, ground := Ground.data }], guard := none }) rfl (fun K hK => ?_) ?_
            · refine step_append_grows rfl (.tmp 58) (.tmp 60) 23 rfl 3 i0 (.int .i64 0) 1 8 Tryd.underlying23 hi0 hz0 hz1 hz2 rfl (by decide) pf i i _ rfl (unhide HN) (by rw [List.length_map, hol, Nat.mul_one]) (unhide Hcw _ (below_t (below_d (Below.refl _ wi)) (below_a _ _))) _ 1 1 [.int .i64 (f : Int)] rfl rfl (cell_one_new wi.drew _ _) (int_one _) (by omega) (by unfold maxLen; omega) (by omega) ?_
              intro vA wA hownA hgrowA
              have hbA : Below wi.heap.size wi wA := below_grow (below_t (below_d (Below.refl _ wi)) (below_a _ _)) hgrowA
              have HFA : Hid (FormsAt wA vA (O.take i ++ [f])) := hide (forms_of hol hownA)
              clear hownA hgrowA
              obtain ⟨pA, cA, hvA⟩ : ∃ p c, vA = .slice p (i + 1) c := forms_shape (unhide HFA) (by rw [List.length_append, hol]; rfl)
              subst hvA
              refine hK.out _ _ ?_ (fun hHeld => ?_)
              · exact unhide HWc _ hbA
              clear hK K
              (try simp only [Act.put, List.setIfInBounds_toArray, List.set_cons_zero, List.set_cons_succ])
              refine wpAnyH_ready (rs := [8, 14]) (by kernel_rfl) (by simp) ?_
              refine AllReadyH.cons (o := { dst := some 62, op := Op.call { callee := Callee.value (Operand.func 9), args := #[Operand.tmp 54, Operand.tmp 61], argTypes := #[27, 23] }, type := 9, pos := "keeps.go:184", after := #[{ on := 0, ground := Ground.data }, { on := 7, ground := Ground.data }, { on := 7, ground := Ground.chain }], guard := none }) rfl (fun K hK => ?_) ?_
              · go_simp
                refine (source_c ms (unhide HM).ok.ok hMlen (O.take i ++ [f]) (unhide HF4) _ _ _ wA ((unhide HVi).below hbA) (unhide HFA) (by rw [List.length_append, hol, List.length_singleton]; omega)).mono ?_
                rintro e wS ⟨rfl, hbS0⟩
                have hbS : Below wi.heap.size wi wS := below_t hbA hbS0
                dsimp only
                refine hK.out _ _ ?_ (fun hHeld => ?_)
                · exact unhide HWc _ hbS
                clear hK K
                (try simp only [Act.put, List.setIfInBounds_toArray, List.set_cons_zero, List.set_cons_succ])
                refine wpAnyH_ready (rs := [9, 14]) (by kernel_rfl) (by simp) ?_
                refine AllReadyH.cons (o := { dst := some 63, op := Op.call { callee := Callee.value (Operand.func 8), args := #[Operand.tmp 62], argTypes := #[9] }, type := 32, pos := "keeps.go:184", after := #[{ on := 8, ground := Ground.data }, { on := 8, ground := Ground.chain }], guard := none }) rfl (fun K hK => ?_) ?_
                · go_simp
                  refine (unhide HAF2 wS (below_t hBi hbS)).mono ?_
                  rintro e wM ⟨rfl, hbM0⟩
                  have hbM : Below wi.heap.size wi wM := below_t hbS hbM0
                  dsimp only
                  refine hK.out _ _ ?_ (fun hHeld => ?_)
                  · exact unhide HWc _ hbM
                  clear hK K
                  (try simp only [Act.put, List.setIfInBounds_toArray, List.set_cons_zero, List.set_cons_succ])
                  refine wpAnyH_take (i := 10) (oi := { dst := some 53, op := Op.move (Operand.tmp 63), type := 32, pos := "keeps.go:184", after := #[{ on := 9, ground := Ground.data }], guard := none }) (v := ?v10x7) rfl (by kernel_rfl) (by kernel_rfl) (by kernel_rfl) (fun _ _ _ h => h) (Or.inl ⟨by rfl, ?hy10x7⟩) (by assumption) ?rest10x7
                  case hy10x7 => (intro w' hSw; (try dsimp only at hSw); go_simp; (try with_reducible rfl))
                  (try simp only [Act.put, List.setIfInBounds_toArray, List.set_cons_zero, List.set_cons_succ])
                  refine wpAnyH_take (i := 11) (oi := { dst := some 64, op := Op.extract (Operand.tmp 53) 0, type := 30, pos := "keeps.go:184", after := #[{ on := 10, ground := Ground.data }], guard := none }) (v := ?v11x8) rfl (by kernel_rfl) (by kernel_rfl) (by kernel_rfl) (fun _ _ _ h => h) (Or.inl ⟨by rfl, ?hy11x8⟩) (by assumption) ?rest11x8
                  case hy11x8 => (intro w' hSw; (try dsimp only at hSw); go_simp; (try with_reducible rfl))
                  (try simp only [Act.put, List.setIfInBounds_toArray, List.set_cons_zero, List.set_cons_succ])
                  refine wpAnyH_take (i := 12) (oi := { dst := some 65, op := Op.extract (Operand.tmp 53) 1, type := 3, pos := "keeps.go:184", after := #[{ on := 10, ground := Ground.data }, { on := 15, ground := Ground.gcOnly Departure.lateStores }], guard := none }) (v := ?v12x9) rfl (by kernel_rfl) (by kernel_rfl) (by kernel_rfl) (fun _ _ _ h => h) (Or.inl ⟨by rfl, ?hy12x9⟩) (by assumption) ?rest12x9
                  case hy12x9 => (intro w' hSw; (try dsimp only at hSw); go_simp; (try with_reducible rfl))
                  (try simp only [Act.put, List.setIfInBounds_toArray, List.set_cons_zero, List.set_cons_succ])
                  refine wpAnyH_take (i := 13) (oi := { dst := some 66, op := Op.extract (Operand.tmp 53) 2, type := 31, pos := "keeps.go:184", after := #[{ on := 10, ground := Ground.data }, { on := 16, ground := Ground.gcOnly Departure.lateStores }], guard := none }) (v := ?v13x10) rfl (by kernel_rfl) (by kernel_rfl) (by kernel_rfl) (fun _ _ _ h => h) (Or.inl ⟨by rfl, ?hy13x10⟩) (by assumption) ?rest13x10
                  case hy13x10 => (intro w' hSw; (try dsimp only at hSw); go_simp; (try with_reducible rfl))
                  (try simp only [Act.put, List.setIfInBounds_toArray, List.set_cons_zero, List.set_cons_succ])
                  refine wpAnyH_ready (rs := [14]) (by kernel_rfl) (by simp) ?_
                  refine AllReadyH.cons (o := { dst := some 15, op := Op.alloc 30, type := 0, pos := "keeps.go:184", after := #[], guard := none }) rfl (fun K hK => ?_) ?_
                  · go_simp
                    refine hK.out _ _ ?_ (fun hHeld => ?_)
                    · exact unhide HWc _ (below_t hbM (below_a _ _))
                    clear hK K
                    (try simp only [Act.put, List.setIfInBounds_toArray, List.set_cons_zero, List.set_cons_succ])
                    have hbX := box_new wM (.cells #[.int .i64 0, .string ⟨#[]⟩] 30)
                    have v0 := box_cell hbX 0
                    have v1 := box_cell hbX 1
                    simp only [List.getElem?_toArray, List.getElem?_cons_zero, List.getElem?_cons_succ] at v0 v1
                    have g0 := box_free hbX 0
                    have g1 := box_free hbX 1
                    have hlx := lt_of_box hbX
                    have hbxF := box_new wM (.cells #[.int .i64 AO, .string (bstr AB)] 30)
                    have hbF := below_t hbM (below_a wM (.cells #[.int .i64 AO, .string (bstr AB)] 30))
                    refine wpAnyH_ready (rs := [15]) (by kernel_rfl) (by simp) ?_
                    refine AllReadyH.cons (o := { dst := none, op := Op.store 30 (Operand.tmp 15) (Operand.tmp 64), type := 0, pos := "keeps.go:184", after := #[{ on := 14, ground := Ground.data }, { on := 11, ground := Ground.data }, { on := 9, ground := Ground.chain }, { on := 0, ground := Ground.phase }, { on := 1, ground := Ground.phase }, { on := 2, ground := Ground.phase }, { on := 3, ground := Ground.phase }, { on := 4, ground := Ground.phase }, { on := 5, ground := Ground.phase }, { on := 6, ground := Ground.phase }, { on := 7, ground := Ground.phase }, { on := 8, ground := Ground.phase }, { on := 9, ground := Ground.phase }, { on := 10, ground := Ground.phase }, { on := 11, ground := Ground.phase }, { on := 12, ground := Ground.textOnly Departure.lateStores }, { on := 13, ground := Ground.textOnly Departure.lateStores }, { on := 14, ground := Ground.phase }], guard := none }) rfl (fun K hK => ?_) ?_
                    · go_simp
                      refine hK.out _ _ ?_ (fun hHeld => ?_)
                      · exact unhide HWc _ hbF
                      clear hK K
                      (try simp only [Act.put, List.setIfInBounds_toArray, List.set_cons_zero, List.set_cons_succ])
                      refine wpAnyH_take (i := 16) (oi := { dst := some 16, op := Op.assign (Operand.tmp 65), type := 3, pos := "keeps.go:184", after := #[{ on := 12, ground := Ground.data }, { on := 15, ground := Ground.chain }, { on := 0, ground := Ground.phase }, { on := 1, ground := Ground.phase }, { on := 2, ground := Ground.phase }, { on := 3, ground := Ground.phase }, { on := 4, ground := Ground.phase }, { on := 5, ground := Ground.phase }, { on := 6, ground := Ground.phase }, { on := 7, ground := Ground.phase }, { on := 8, ground := Ground.phase }, { on := 9, ground := Ground.phase }, { on := 10, ground := Ground.phase }, { on := 11, ground := Ground.phase }, { on := 12, ground := Ground.phase }, { on := 13, ground := Ground.textOnly Departure.lateStores }, { on := 14, ground := Ground.phase }, { on := 15, ground := Ground.phase }], guard := none }) (v := ?v16x11) rfl (by kernel_rfl) (by kernel_rfl) (by kernel_rfl) (fun _ _ _ h => h) (Or.inl ⟨by rfl, ?hy16x11⟩) (by assumption) ?rest16x11
                      case hy16x11 => (intro w' hSw; (try dsimp only at hSw); go_simp; (try with_reducible rfl))
                      (try simp only [Act.put, List.setIfInBounds_toArray, List.set_cons_zero, List.set_cons_succ])
                      refine wpAnyH_take (i := 17) (oi := { dst := some 17, op := Op.assign (Operand.tmp 66), type := 31, pos := "keeps.go:184", after := #[{ on := 13, ground := Ground.data }, { on := 16, ground := Ground.chain }, { on := 0, ground := Ground.phase }, { on := 1, ground := Ground.phase }, { on := 2, ground := Ground.phase }, { on := 3, ground := Ground.phase }, { on := 4, ground := Ground.phase }, { on := 5, ground := Ground.phase }, { on := 6, ground := Ground.phase }, { on := 7, ground := Ground.phase }, { on := 8, ground := Ground.phase }, { on := 9, ground := Ground.phase }, { on := 10, ground := Ground.phase }, { on := 11, ground := Ground.phase }, { on := 12, ground := Ground.phase }, { on := 13, ground := Ground.phase }, { on := 14, ground := Ground.phase }, { on := 15, ground := Ground.phase }, { on := 16, ground := Ground.phase }], guard := none }) (v := ?v17x12) rfl (by kernel_rfl) (by kernel_rfl) (by kernel_rfl) (fun _ _ _ h => h) (Or.inl ⟨by rfl, ?hy17x12⟩) (by assumption) ?rest17x12
                      case hy17x12 => (intro w' hSw; (try dsimp only at hSw); go_simp; (try with_reducible rfl))
                      (try simp only [Act.put, List.setIfInBounds_toArray, List.set_cons_zero, List.set_cons_succ])
                      refine wpAnyH_done (by kernel_rfl) ?_ _
                      (try refine NoPanic.normal ?_)
                      generalize wM.alloc (.cells #[.int .i64 AO, .string (bstr AB)] 30) = wF at *
                      generalize hbk : wM.heap.size = bk at hbxF ⊢
                      clear hbk v0 v1 g0 g1 hlx
                      have h7F := below_t h7i hbF
                      have q0 := box_cell (bbox h7F (unhide Hib)) 0
                      have q1 := box_cell (bbox h7F (unhide Hib)) 1
                      have e0 := box_cell hbxF 0
                      have e1 := box_cell hbxF 1
                      simp only [List.getElem?_toArray, List.getElem?_cons_zero, List.getElem?_cons_succ] at q0 q1 e0 e1
                      have hlq := lt_of_box (bbox h7F (unhide Hib))
                      have hlF := lt_of_box hbxF
                      have hfin := below_t hbi hbF
                      have hwf : IntKind.i64.wrap ((f : Int) + 1) = (f : Int) + 1 := IntWalk.i64_in _ (by omega)
                      by_cases hfo' : f = o
                      · have hA := (unhide Hasm2).1 hfo'
                        simp only [Prod.mk.injEq] at hA
                        obtain ⟨⟨rfl, rfl⟩, rfl, rfl⟩ := hA
                        have Hfo := hide hfo'
                        clear hfo' Hasm2 HAF2
                        go_wp2
                        go_roundw
                        case rel => exact ⟨f + 1, by go_num, .inr ⟨by rw [unhide Hfo], by rw [unhide Hfo]⟩, hfin⟩
                        case measure => simp [intOf]; omega
                      · have hA := (unhide Hasm2).2 (by omega)
                        simp only at hA
                        have hA' : ¬ AE = 0 := hA
                        clear Hasm2 HAF2 hA
                        go_wp2
                        go_roundw
                        case rel => exact ⟨f + 1, by go_num, .inl ⟨rfl, by omega, by omega⟩, hfin⟩
                        case measure => simp [intOf]; omega
                    exact AllReadyH.nil
                  exact AllReadyH.nil
                refine AllReadyH.cons (o := { dst := some 15, op := Op.alloc 30, type := 0, pos := "keeps.go:184", after := #[], guard := none }) rfl (fun K hK => ?_) ?_
                · go_simp
                  refine hK.out _ _ ?_ (fun hHeld => ?_)
                  · exact unhide HWc _ (below_t hbS (below_a _ _))
                  clear hK K
                  (try simp only [Act.put, List.setIfInBounds_toArray, List.set_cons_zero, List.set_cons_succ])
                  have hbX := box_new wS (.cells #[.int .i64 0, .string ⟨#[]⟩] 30)
                  refine wpAnyH_ready (rs := [9]) (by kernel_rfl) (by simp) ?_
                  refine AllReadyH.cons (o := { dst := some 63, op := Op.call { callee := Callee.value (Operand.func 8), args := #[Operand.tmp 62], argTypes := #[9] }, type := 32, pos := "keeps.go:184", after := #[{ on := 8, ground := Ground.data }, { on := 8, ground := Ground.chain }], guard := none }) rfl (fun K hK => ?_) ?_
                  · go_simp
                    refine (unhide HAF2 (wS.alloc (.cells #[.int .i64 0, .string ⟨#[]⟩] 30)) (below_t hBi (below_t hbS (below_a _ _)))).mono ?_
                    rintro e wM ⟨rfl, hbM0⟩
                    have hbM : Below wi.heap.size wi wM := below_t (below_t hbS (below_a _ _)) hbM0
                    have hbX9 := bbox hbM0 hbX
                    dsimp only
                    refine hK.out _ _ ?_ (fun hHeld => ?_)
                    · exact unhide HWc _ hbM
                    clear hK K
                    (try simp only [Act.put, List.setIfInBounds_toArray, List.set_cons_zero, List.set_cons_succ])
                    refine wpAnyH_take (i := 10) (oi := { dst := some 53, op := Op.move (Operand.tmp 63), type := 32, pos := "keeps.go:184", after := #[{ on := 9, ground := Ground.data }], guard := none }) (v := ?v10x13) rfl (by kernel_rfl) (by kernel_rfl) (by kernel_rfl) (fun _ _ _ h => h) (Or.inl ⟨by rfl, ?hy10x13⟩) (by assumption) ?rest10x13
                    case hy10x13 => (intro w' hSw; (try dsimp only at hSw); go_simp; (try with_reducible rfl))
                    (try simp only [Act.put, List.setIfInBounds_toArray, List.set_cons_zero, List.set_cons_succ])
                    refine wpAnyH_take (i := 11) (oi := { dst := some 64, op := Op.extract (Operand.tmp 53) 0, type := 30, pos := "keeps.go:184", after := #[{ on := 10, ground := Ground.data }], guard := none }) (v := ?v11x14) rfl (by kernel_rfl) (by kernel_rfl) (by kernel_rfl) (fun _ _ _ h => h) (Or.inl ⟨by rfl, ?hy11x14⟩) (by assumption) ?rest11x14
                    case hy11x14 => (intro w' hSw; (try dsimp only at hSw); go_simp; (try with_reducible rfl))
                    (try simp only [Act.put, List.setIfInBounds_toArray, List.set_cons_zero, List.set_cons_succ])
                    refine wpAnyH_take (i := 12) (oi := { dst := some 65, op := Op.extract (Operand.tmp 53) 1, type := 3, pos := "keeps.go:184", after := #[{ on := 10, ground := Ground.data }, { on := 15, ground := Ground.gcOnly Departure.lateStores }], guard := none }) (v := ?v12x15) rfl (by kernel_rfl) (by kernel_rfl) (by kernel_rfl) (fun _ _ _ h => h) (Or.inl ⟨by rfl, ?hy12x15⟩) (by assumption) ?rest12x15
                    case hy12x15 => (intro w' hSw; (try dsimp only at hSw); go_simp; (try with_reducible rfl))
                    (try simp only [Act.put, List.setIfInBounds_toArray, List.set_cons_zero, List.set_cons_succ])
                    refine wpAnyH_take (i := 13) (oi := { dst := some 66, op := Op.extract (Operand.tmp 53) 2, type := 31, pos := "keeps.go:184", after := #[{ on := 10, ground := Ground.data }, { on := 16, ground := Ground.gcOnly Departure.lateStores }], guard := none }) (v := ?v13x16) rfl (by kernel_rfl) (by kernel_rfl) (by kernel_rfl) (fun _ _ _ h => h) (Or.inl ⟨by rfl, ?hy13x16⟩) (by assumption) ?rest13x16
                    case hy13x16 => (intro w' hSw; (try dsimp only at hSw); go_simp; (try with_reducible rfl))
                    (try simp only [Act.put, List.setIfInBounds_toArray, List.set_cons_zero, List.set_cons_succ])
                    have v0 := box_cell hbX9 0
                    have v1 := box_cell hbX9 1
                    simp only [List.getElem?_toArray, List.getElem?_cons_zero, List.getElem?_cons_succ] at v0 v1
                    have g0 := box_free hbX9 0
                    have g1 := box_free hbX9 1
                    have hlx := lt_of_box hbX9
                    have hbxF := set_two (u := .int .i64 AO) (v := .string (bstr AB)) hbX9
                    have hbF : Below wi.heap.size wi _ := below_set2 (x := .int .i64 AO) (y := .string (bstr AB)) hbM (below_size hbS)
                    refine wpAnyH_ready (rs := [15]) (by kernel_rfl) (by simp) ?_
                    refine AllReadyH.cons (o := { dst := none, op := Op.store 30 (Operand.tmp 15) (Operand.tmp 64), type := 0, pos := "keeps.go:184", after := #[{ on := 14, ground := Ground.data }, { on := 11, ground := Ground.data }, { on := 9, ground := Ground.chain }, { on := 0, ground := Ground.phase }, { on := 1, ground := Ground.phase }, { on := 2, ground := Ground.phase }, { on := 3, ground := Ground.phase }, { on := 4, ground := Ground.phase }, { on := 5, ground := Ground.phase }, { on := 6, ground := Ground.phase }, { on := 7, ground := Ground.phase }, { on := 8, ground := Ground.phase }, { on := 9, ground := Ground.phase }, { on := 10, ground := Ground.phase }, { on := 11, ground := Ground.phase }, { on := 12, ground := Ground.textOnly Departure.lateStores }, { on := 13, ground := Ground.textOnly Departure.lateStores }, { on := 14, ground := Ground.phase }], guard := none }) rfl (fun K hK => ?_) ?_
                    · go_simp
                      refine hK.out _ _ ?_ (fun hHeld => ?_)
                      · exact unhide HWc _ hbF
                      clear hK K
                      (try simp only [Act.put, List.setIfInBounds_toArray, List.set_cons_zero, List.set_cons_succ])
                      refine wpAnyH_take (i := 16) (oi := { dst := some 16, op := Op.assign (Operand.tmp 65), type := 3, pos := "keeps.go:184", after := #[{ on := 12, ground := Ground.data }, { on := 15, ground := Ground.chain }, { on := 0, ground := Ground.phase }, { on := 1, ground := Ground.phase }, { on := 2, ground := Ground.phase }, { on := 3, ground := Ground.phase }, { on := 4, ground := Ground.phase }, { on := 5, ground := Ground.phase }, { on := 6, ground := Ground.phase }, { on := 7, ground := Ground.phase }, { on := 8, ground := Ground.phase }, { on := 9, ground := Ground.phase }, { on := 10, ground := Ground.phase }, { on := 11, ground := Ground.phase }, { on := 12, ground := Ground.phase }, { on := 13, ground := Ground.textOnly Departure.lateStores }, { on := 14, ground := Ground.phase }, { on := 15, ground := Ground.phase }], guard := none }) (v := ?v16x17) rfl (by kernel_rfl) (by kernel_rfl) (by kernel_rfl) (fun _ _ _ h => h) (Or.inl ⟨by rfl, ?hy16x17⟩) (by assumption) ?rest16x17
                      case hy16x17 => (intro w' hSw; (try dsimp only at hSw); go_simp; (try with_reducible rfl))
                      (try simp only [Act.put, List.setIfInBounds_toArray, List.set_cons_zero, List.set_cons_succ])
                      refine wpAnyH_take (i := 17) (oi := { dst := some 17, op := Op.assign (Operand.tmp 66), type := 31, pos := "keeps.go:184", after := #[{ on := 13, ground := Ground.data }, { on := 16, ground := Ground.chain }, { on := 0, ground := Ground.phase }, { on := 1, ground := Ground.phase }, { on := 2, ground := Ground.phase }, { on := 3, ground := Ground.phase }, { on := 4, ground := Ground.phase }, { on := 5, ground := Ground.phase }, { on := 6, ground := Ground.phase }, { on := 7, ground := Ground.phase }, { on := 8, ground := Ground.phase }, { on := 9, ground := Ground.phase }, { on := 10, ground := Ground.phase }, { on := 11, ground := Ground.phase }, { on := 12, ground := Ground.phase }, { on := 13, ground := Ground.phase }, { on := 14, ground := Ground.phase }, { on := 15, ground := Ground.phase }, { on := 16, ground := Ground.phase }], guard := none }) (v := ?v17x18) rfl (by kernel_rfl) (by kernel_rfl) (by kernel_rfl) (fun _ _ _ h => h) (Or.inl ⟨by rfl, ?hy17x18⟩) (by assumption) ?rest17x18
                      case hy17x18 => (intro w' hSw; (try dsimp only at hSw); go_simp; (try with_reducible rfl))
                      (try simp only [Act.put, List.setIfInBounds_toArray, List.set_cons_zero, List.set_cons_succ])
                      refine wpAnyH_done (by kernel_rfl) ?_ _
                      (try refine NoPanic.normal ?_)
                      generalize (wM.setCell ⟨wS.heap.size, 0, none⟩ (.int .i64 AO)).setCell ⟨wS.heap.size, 1, none⟩ (.string (bstr AB)) = wF at *
                      generalize hbk : wS.heap.size = bk at hbxF ⊢
                      clear hbk v0 v1 g0 g1 hlx
                      have h7F := below_t h7i hbF
                      have q0 := box_cell (bbox h7F (unhide Hib)) 0
                      have q1 := box_cell (bbox h7F (unhide Hib)) 1
                      have e0 := box_cell hbxF 0
                      have e1 := box_cell hbxF 1
                      simp only [List.getElem?_toArray, List.getElem?_cons_zero, List.getElem?_cons_succ] at q0 q1 e0 e1
                      have hlq := lt_of_box (bbox h7F (unhide Hib))
                      have hlF := lt_of_box hbxF
                      have hfin := below_t hbi hbF
                      have hwf : IntKind.i64.wrap ((f : Int) + 1) = (f : Int) + 1 := IntWalk.i64_in _ (by omega)
                      by_cases hfo' : f = o
                      · have hA := (unhide Hasm2).1 hfo'
                        simp only [Prod.mk.injEq] at hA
                        obtain ⟨⟨rfl, rfl⟩, rfl, rfl⟩ := hA
                        have Hfo := hide hfo'
                        clear hfo' Hasm2 HAF2
                        go_wp2
                        go_roundw
                        case rel => exact ⟨f + 1, by go_num, .inr ⟨by rw [unhide Hfo], by rw [unhide Hfo]⟩, hfin⟩
                        case measure => simp [intOf]; omega
                      · have hA := (unhide Hasm2).2 (by omega)
                        simp only at hA
                        have hA' : ¬ AE = 0 := hA
                        clear Hasm2 HAF2 hA
                        go_wp2
                        go_roundw
                        case rel => exact ⟨f + 1, by go_num, .inl ⟨rfl, by omega, by omega⟩, hfin⟩
                        case measure => simp [intOf]; omega
                    exact AllReadyH.nil
                  exact AllReadyH.nil
                exact AllReadyH.nil
              refine AllReadyH.cons (o := { dst := some 15, op := Op.alloc 30, type := 0, pos := "keeps.go:184", after := #[], guard := none }) rfl (fun K hK => ?_) ?_
              · go_simp
                refine hK.out _ _ ?_ (fun hHeld => ?_)
                · exact unhide HWc _ (below_t hbA (below_a _ _))
                clear hK K
                (try simp only [Act.put, List.setIfInBounds_toArray, List.set_cons_zero, List.set_cons_succ])
                have hbX := box_new wA (.cells #[.int .i64 0, .string ⟨#[]⟩] 30)
                refine wpAnyH_ready (rs := [8]) (by kernel_rfl) (by simp) ?_
                refine AllReadyH.cons (o := { dst := some 62, op := Op.call { callee := Callee.value (Operand.func 9), args := #[Operand.tmp 54, Operand.tmp 61], argTypes := #[27, 23] }, type := 9, pos := "keeps.go:184", after := #[{ on := 0, ground := Ground.data }, { on := 7, ground := Ground.data }, { on := 7, ground := Ground.chain }], guard := none }) rfl (fun K hK => ?_) ?_
                · go_simp
                  refine (source_c ms (unhide HM).ok.ok hMlen (O.take i ++ [f]) (unhide HF4) _ _ _ (wA.alloc (.cells #[.int .i64 0, .string ⟨#[]⟩] 30)) ((unhide HVi).below (below_t hbA (below_a _ _))) ((unhide HFA).below (below_a _ _)) (by rw [List.length_append, hol, List.length_singleton]; omega)).mono ?_
                  rintro e wS ⟨rfl, hbS0⟩
                  have hbS : Below wi.heap.size wi wS := below_t (below_t hbA (below_a _ _)) hbS0
                  have hbX8 := bbox hbS0 hbX
                  dsimp only
                  refine hK.out _ _ ?_ (fun hHeld => ?_)
                  · exact unhide HWc _ hbS
                  clear hK K
                  (try simp only [Act.put, List.setIfInBounds_toArray, List.set_cons_zero, List.set_cons_succ])
                  refine wpAnyH_ready (rs := [9]) (by kernel_rfl) (by simp) ?_
                  refine AllReadyH.cons (o := { dst := some 63, op := Op.call { callee := Callee.value (Operand.func 8), args := #[Operand.tmp 62], argTypes := #[9] }, type := 32, pos := "keeps.go:184", after := #[{ on := 8, ground := Ground.data }, { on := 8, ground := Ground.chain }], guard := none }) rfl (fun K hK => ?_) ?_
                  · go_simp
                    refine (unhide HAF2 wS (below_t hBi hbS)).mono ?_
                    rintro e wM ⟨rfl, hbM0⟩
                    have hbM : Below wi.heap.size wi wM := below_t hbS hbM0
                    have hbX9 := bbox hbM0 hbX8
                    dsimp only
                    refine hK.out _ _ ?_ (fun hHeld => ?_)
                    · exact unhide HWc _ hbM
                    clear hK K
                    (try simp only [Act.put, List.setIfInBounds_toArray, List.set_cons_zero, List.set_cons_succ])
                    refine wpAnyH_take (i := 10) (oi := { dst := some 53, op := Op.move (Operand.tmp 63), type := 32, pos := "keeps.go:184", after := #[{ on := 9, ground := Ground.data }], guard := none }) (v := ?v10x19) rfl (by kernel_rfl) (by kernel_rfl) (by kernel_rfl) (fun _ _ _ h => h) (Or.inl ⟨by rfl, ?hy10x19⟩) (by assumption) ?rest10x19
                    case hy10x19 => (intro w' hSw; (try dsimp only at hSw); go_simp; (try with_reducible rfl))
                    (try simp only [Act.put, List.setIfInBounds_toArray, List.set_cons_zero, List.set_cons_succ])
                    refine wpAnyH_take (i := 11) (oi := { dst := some 64, op := Op.extract (Operand.tmp 53) 0, type := 30, pos := "keeps.go:184", after := #[{ on := 10, ground := Ground.data }], guard := none }) (v := ?v11x20) rfl (by kernel_rfl) (by kernel_rfl) (by kernel_rfl) (fun _ _ _ h => h) (Or.inl ⟨by rfl, ?hy11x20⟩) (by assumption) ?rest11x20
                    case hy11x20 => (intro w' hSw; (try dsimp only at hSw); go_simp; (try with_reducible rfl))
                    (try simp only [Act.put, List.setIfInBounds_toArray, List.set_cons_zero, List.set_cons_succ])
                    refine wpAnyH_take (i := 12) (oi := { dst := some 65, op := Op.extract (Operand.tmp 53) 1, type := 3, pos := "keeps.go:184", after := #[{ on := 10, ground := Ground.data }, { on := 15, ground := Ground.gcOnly Departure.lateStores }], guard := none }) (v := ?v12x21) rfl (by kernel_rfl) (by kernel_rfl) (by kernel_rfl) (fun _ _ _ h => h) (Or.inl ⟨by rfl, ?hy12x21⟩) (by assumption) ?rest12x21
                    case hy12x21 => (intro w' hSw; (try dsimp only at hSw); go_simp; (try with_reducible rfl))
                    (try simp only [Act.put, List.setIfInBounds_toArray, List.set_cons_zero, List.set_cons_succ])
                    refine wpAnyH_take (i := 13) (oi := { dst := some 66, op := Op.extract (Operand.tmp 53) 2, type := 31, pos := "keeps.go:184", after := #[{ on := 10, ground := Ground.data }, { on := 16, ground := Ground.gcOnly Departure.lateStores }], guard := none }) (v := ?v13x22) rfl (by kernel_rfl) (by kernel_rfl) (by kernel_rfl) (fun _ _ _ h => h) (Or.inl ⟨by rfl, ?hy13x22⟩) (by assumption) ?rest13x22
                    case hy13x22 => (intro w' hSw; (try dsimp only at hSw); go_simp; (try with_reducible rfl))
                    (try simp only [Act.put, List.setIfInBounds_toArray, List.set_cons_zero, List.set_cons_succ])
                    have v0 := box_cell hbX9 0
                    have v1 := box_cell hbX9 1
                    simp only [List.getElem?_toArray, List.getElem?_cons_zero, List.getElem?_cons_succ] at v0 v1
                    have g0 := box_free hbX9 0
                    have g1 := box_free hbX9 1
                    have hlx := lt_of_box hbX9
                    have hbxF := set_two (u := .int .i64 AO) (v := .string (bstr AB)) hbX9
                    have hbF : Below wi.heap.size wi _ := below_set2 (x := .int .i64 AO) (y := .string (bstr AB)) hbM (below_size hbA)
                    refine wpAnyH_ready (rs := [15]) (by kernel_rfl) (by simp) ?_
                    refine AllReadyH.cons (o := { dst := none, op := Op.store 30 (Operand.tmp 15) (Operand.tmp 64), type := 0, pos := "keeps.go:184", after := #[{ on := 14, ground := Ground.data }, { on := 11, ground := Ground.data }, { on := 9, ground := Ground.chain }, { on := 0, ground := Ground.phase }, { on := 1, ground := Ground.phase }, { on := 2, ground := Ground.phase }, { on := 3, ground := Ground.phase }, { on := 4, ground := Ground.phase }, { on := 5, ground := Ground.phase }, { on := 6, ground := Ground.phase }, { on := 7, ground := Ground.phase }, { on := 8, ground := Ground.phase }, { on := 9, ground := Ground.phase }, { on := 10, ground := Ground.phase }, { on := 11, ground := Ground.phase }, { on := 12, ground := Ground.textOnly Departure.lateStores }, { on := 13, ground := Ground.textOnly Departure.lateStores }, { on := 14, ground := Ground.phase }], guard := none }) rfl (fun K hK => ?_) ?_
                    · go_simp
                      refine hK.out _ _ ?_ (fun hHeld => ?_)
                      · exact unhide HWc _ hbF
                      clear hK K
                      (try simp only [Act.put, List.setIfInBounds_toArray, List.set_cons_zero, List.set_cons_succ])
                      refine wpAnyH_take (i := 16) (oi := { dst := some 16, op := Op.assign (Operand.tmp 65), type := 3, pos := "keeps.go:184", after := #[{ on := 12, ground := Ground.data }, { on := 15, ground := Ground.chain }, { on := 0, ground := Ground.phase }, { on := 1, ground := Ground.phase }, { on := 2, ground := Ground.phase }, { on := 3, ground := Ground.phase }, { on := 4, ground := Ground.phase }, { on := 5, ground := Ground.phase }, { on := 6, ground := Ground.phase }, { on := 7, ground := Ground.phase }, { on := 8, ground := Ground.phase }, { on := 9, ground := Ground.phase }, { on := 10, ground := Ground.phase }, { on := 11, ground := Ground.phase }, { on := 12, ground := Ground.phase }, { on := 13, ground := Ground.textOnly Departure.lateStores }, { on := 14, ground := Ground.phase }, { on := 15, ground := Ground.phase }], guard := none }) (v := ?v16x23) rfl (by kernel_rfl) (by kernel_rfl) (by kernel_rfl) (fun _ _ _ h => h) (Or.inl ⟨by rfl, ?hy16x23⟩) (by assumption) ?rest16x23
                      case hy16x23 => (intro w' hSw; (try dsimp only at hSw); go_simp; (try with_reducible rfl))
                      (try simp only [Act.put, List.setIfInBounds_toArray, List.set_cons_zero, List.set_cons_succ])
                      refine wpAnyH_take (i := 17) (oi := { dst := some 17, op := Op.assign (Operand.tmp 66), type := 31, pos := "keeps.go:184", after := #[{ on := 13, ground := Ground.data }, { on := 16, ground := Ground.chain }, { on := 0, ground := Ground.phase }, { on := 1, ground := Ground.phase }, { on := 2, ground := Ground.phase }, { on := 3, ground := Ground.phase }, { on := 4, ground := Ground.phase }, { on := 5, ground := Ground.phase }, { on := 6, ground := Ground.phase }, { on := 7, ground := Ground.phase }, { on := 8, ground := Ground.phase }, { on := 9, ground := Ground.phase }, { on := 10, ground := Ground.phase }, { on := 11, ground := Ground.phase }, { on := 12, ground := Ground.phase }, { on := 13, ground := Ground.phase }, { on := 14, ground := Ground.phase }, { on := 15, ground := Ground.phase }, { on := 16, ground := Ground.phase }], guard := none }) (v := ?v17x24) rfl (by kernel_rfl) (by kernel_rfl) (by kernel_rfl) (fun _ _ _ h => h) (Or.inl ⟨by rfl, ?hy17x24⟩) (by assumption) ?rest17x24
                      case hy17x24 => (intro w' hSw; (try dsimp only at hSw); go_simp; (try with_reducible rfl))
                      (try simp only [Act.put, List.setIfInBounds_toArray, List.set_cons_zero, List.set_cons_succ])
                      refine wpAnyH_done (by kernel_rfl) ?_ _
                      (try refine NoPanic.normal ?_)
                      generalize (wM.setCell ⟨wA.heap.size, 0, none⟩ (.int .i64 AO)).setCell ⟨wA.heap.size, 1, none⟩ (.string (bstr AB)) = wF at *
                      generalize hbk : wA.heap.size = bk at hbxF ⊢
                      clear hbk v0 v1 g0 g1 hlx
                      have h7F := below_t h7i hbF
                      have q0 := box_cell (bbox h7F (unhide Hib)) 0
                      have q1 := box_cell (bbox h7F (unhide Hib)) 1
                      have e0 := box_cell hbxF 0
                      have e1 := box_cell hbxF 1
                      simp only [List.getElem?_toArray, List.getElem?_cons_zero, List.getElem?_cons_succ] at q0 q1 e0 e1
                      have hlq := lt_of_box (bbox h7F (unhide Hib))
                      have hlF := lt_of_box hbxF
                      have hfin := below_t hbi hbF
                      have hwf : IntKind.i64.wrap ((f : Int) + 1) = (f : Int) + 1 := IntWalk.i64_in _ (by omega)
                      by_cases hfo' : f = o
                      · have hA := (unhide Hasm2).1 hfo'
                        simp only [Prod.mk.injEq] at hA
                        obtain ⟨⟨rfl, rfl⟩, rfl, rfl⟩ := hA
                        have Hfo := hide hfo'
                        clear hfo' Hasm2 HAF2
                        go_wp2
                        go_roundw
                        case rel => exact ⟨f + 1, by go_num, .inr ⟨by rw [unhide Hfo], by rw [unhide Hfo]⟩, hfin⟩
                        case measure => simp [intOf]; omega
                      · have hA := (unhide Hasm2).2 (by omega)
                        simp only at hA
                        have hA' : ¬ AE = 0 := hA
                        clear Hasm2 HAF2 hA
                        go_wp2
                        go_roundw
                        case rel => exact ⟨f + 1, by go_num, .inl ⟨rfl, by omega, by omega⟩, hfin⟩
                        case measure => simp [intOf]; omega
                    exact AllReadyH.nil
                  exact AllReadyH.nil
                exact AllReadyH.nil
              exact AllReadyH.nil
            refine AllReadyH.cons (o := { dst := some 15, op := Op.alloc 30, type := 0, pos := "keeps.go:184", after := #[], guard := none }) rfl (fun K hK => ?_) ?_
            · go_simp
              refine hK.out _ _ ?_ (fun hHeld => ?_)
              · exact unhide HWc _ (below_t (below_t (below_d (Below.refl _ wi)) (below_a _ _)) (below_a _ _))
              clear hK K
              (try simp only [Act.put, List.setIfInBounds_toArray, List.set_cons_zero, List.set_cons_succ])
              have hbX := box_new (wi.drew.alloc (.cells #[.int .i64 (f : Int)] 3)) (.cells #[.int .i64 0, .string ⟨#[]⟩] 30)
              rw [show (wi.drew.alloc (.cells #[.int .i64 (f : Int)] 3)).heap.size = wi.heap.size + 1 by simp] at hbX
              refine wpAnyH_ready (rs := [7]) (by kernel_rfl) (by simp) ?_
              refine AllReadyH.cons (o := { dst := some 61, op := Op.call { callee := Callee.builtin Builtin.append, args := #[Operand.tmp 58, Operand.tmp 60], argTypes := #[23, 23] }, type := 23, pos := "keeps.go:184", after := #[{ on := 4, ground := Ground.data }, { on := 6, ground := Ground.data }], guard := none }) rfl (fun K hK => ?_) ?_
              · refine step_append_grows rfl (.tmp 58) (.tmp 60) 23 rfl 3 i0 (.int .i64 0) 1 8 Tryd.underlying23 hi0 hz0 hz1 hz2 rfl (by decide) pf i i _ rfl (unhide HN) (by rw [List.length_map, hol, Nat.mul_one]) (unhide Hcw _ (below_t (below_t (below_d (Below.refl _ wi)) (below_a _ _)) (below_a _ _))) _ 1 1 [.int .i64 (f : Int)] rfl rfl (cell_one_old wi.drew _ _ _) (int_one _) (by omega) (by unfold maxLen; omega) (by omega) ?_
                intro vA wA hownA hgrowA
                have hbA : Below wi.heap.size wi wA := below_grow (below_t (below_t (below_d (Below.refl _ wi)) (below_a _ _)) (below_a _ _)) hgrowA
                have HFA : Hid (FormsAt wA vA (O.take i ++ [f])) := hide (forms_of hol hownA)
                have hbX7 := grow_box hgrowA hbX
                clear hownA hgrowA
                obtain ⟨pA, cA, hvA⟩ : ∃ p c, vA = .slice p (i + 1) c := forms_shape (unhide HFA) (by rw [List.length_append, hol]; rfl)
                subst hvA
                refine hK.out _ _ ?_ (fun hHeld => ?_)
                · exact unhide HWc _ hbA
                clear hK K
                (try simp only [Act.put, List.setIfInBounds_toArray, List.set_cons_zero, List.set_cons_succ])
                refine wpAnyH_ready (rs := [8]) (by kernel_rfl) (by simp) ?_
                refine AllReadyH.cons (o := { dst := some 62, op := Op.call { callee := Callee.value (Operand.func 9), args := #[Operand.tmp 54, Operand.tmp 61], argTypes := #[27, 23] }, type := 9, pos := "keeps.go:184", after := #[{ on := 0, ground := Ground.data }, { on := 7, ground := Ground.data }, { on := 7, ground := Ground.chain }], guard := none }) rfl (fun K hK => ?_) ?_
                · go_simp
                  refine (source_c ms (unhide HM).ok.ok hMlen (O.take i ++ [f]) (unhide HF4) _ _ _ wA ((unhide HVi).below hbA) (unhide HFA) (by rw [List.length_append, hol, List.length_singleton]; omega)).mono ?_
                  rintro e wS ⟨rfl, hbS0⟩
                  have hbS : Below wi.heap.size wi wS := below_t hbA hbS0
                  have hbX8 := bbox hbS0 hbX7
                  dsimp only
                  refine hK.out _ _ ?_ (fun hHeld => ?_)
                  · exact unhide HWc _ hbS
                  clear hK K
                  (try simp only [Act.put, List.setIfInBounds_toArray, List.set_cons_zero, List.set_cons_succ])
                  refine wpAnyH_ready (rs := [9]) (by kernel_rfl) (by simp) ?_
                  refine AllReadyH.cons (o := { dst := some 63, op := Op.call { callee := Callee.value (Operand.func 8), args := #[Operand.tmp 62], argTypes := #[9] }, type := 32, pos := "keeps.go:184", after := #[{ on := 8, ground := Ground.data }, { on := 8, ground := Ground.chain }], guard := none }) rfl (fun K hK => ?_) ?_
                  · go_simp
                    refine (unhide HAF2 wS (below_t hBi hbS)).mono ?_
                    rintro e wM ⟨rfl, hbM0⟩
                    have hbM : Below wi.heap.size wi wM := below_t hbS hbM0
                    have hbX9 := bbox hbM0 hbX8
                    dsimp only
                    refine hK.out _ _ ?_ (fun hHeld => ?_)
                    · exact unhide HWc _ hbM
                    clear hK K
                    (try simp only [Act.put, List.setIfInBounds_toArray, List.set_cons_zero, List.set_cons_succ])
                    refine wpAnyH_take (i := 10) (oi := { dst := some 53, op := Op.move (Operand.tmp 63), type := 32, pos := "keeps.go:184", after := #[{ on := 9, ground := Ground.data }], guard := none }) (v := ?v10x25) rfl (by kernel_rfl) (by kernel_rfl) (by kernel_rfl) (fun _ _ _ h => h) (Or.inl ⟨by rfl, ?hy10x25⟩) (by assumption) ?rest10x25
                    case hy10x25 => (intro w' hSw; (try dsimp only at hSw); go_simp; (try with_reducible rfl))
                    (try simp only [Act.put, List.setIfInBounds_toArray, List.set_cons_zero, List.set_cons_succ])
                    refine wpAnyH_take (i := 11) (oi := { dst := some 64, op := Op.extract (Operand.tmp 53) 0, type := 30, pos := "keeps.go:184", after := #[{ on := 10, ground := Ground.data }], guard := none }) (v := ?v11x26) rfl (by kernel_rfl) (by kernel_rfl) (by kernel_rfl) (fun _ _ _ h => h) (Or.inl ⟨by rfl, ?hy11x26⟩) (by assumption) ?rest11x26
                    case hy11x26 => (intro w' hSw; (try dsimp only at hSw); go_simp; (try with_reducible rfl))
                    (try simp only [Act.put, List.setIfInBounds_toArray, List.set_cons_zero, List.set_cons_succ])
                    refine wpAnyH_take (i := 12) (oi := { dst := some 65, op := Op.extract (Operand.tmp 53) 1, type := 3, pos := "keeps.go:184", after := #[{ on := 10, ground := Ground.data }, { on := 15, ground := Ground.gcOnly Departure.lateStores }], guard := none }) (v := ?v12x27) rfl (by kernel_rfl) (by kernel_rfl) (by kernel_rfl) (fun _ _ _ h => h) (Or.inl ⟨by rfl, ?hy12x27⟩) (by assumption) ?rest12x27
                    case hy12x27 => (intro w' hSw; (try dsimp only at hSw); go_simp; (try with_reducible rfl))
                    (try simp only [Act.put, List.setIfInBounds_toArray, List.set_cons_zero, List.set_cons_succ])
                    refine wpAnyH_take (i := 13) (oi := { dst := some 66, op := Op.extract (Operand.tmp 53) 2, type := 31, pos := "keeps.go:184", after := #[{ on := 10, ground := Ground.data }, { on := 16, ground := Ground.gcOnly Departure.lateStores }], guard := none }) (v := ?v13x28) rfl (by kernel_rfl) (by kernel_rfl) (by kernel_rfl) (fun _ _ _ h => h) (Or.inl ⟨by rfl, ?hy13x28⟩) (by assumption) ?rest13x28
                    case hy13x28 => (intro w' hSw; (try dsimp only at hSw); go_simp; (try with_reducible rfl))
                    (try simp only [Act.put, List.setIfInBounds_toArray, List.set_cons_zero, List.set_cons_succ])
                    have v0 := box_cell hbX9 0
                    have v1 := box_cell hbX9 1
                    simp only [List.getElem?_toArray, List.getElem?_cons_zero, List.getElem?_cons_succ] at v0 v1
                    have g0 := box_free hbX9 0
                    have g1 := box_free hbX9 1
                    have hlx := lt_of_box hbX9
                    have hbxF := set_two (u := .int .i64 AO) (v := .string (bstr AB)) hbX9
                    have hbF : Below wi.heap.size wi _ := below_set2 (x := .int .i64 AO) (y := .string (bstr AB)) hbM (Nat.le_succ _)
                    refine wpAnyH_ready (rs := [15]) (by kernel_rfl) (by simp) ?_
                    refine AllReadyH.cons (o := { dst := none, op := Op.store 30 (Operand.tmp 15) (Operand.tmp 64), type := 0, pos := "keeps.go:184", after := #[{ on := 14, ground := Ground.data }, { on := 11, ground := Ground.data }, { on := 9, ground := Ground.chain }, { on := 0, ground := Ground.phase }, { on := 1, ground := Ground.phase }, { on := 2, ground := Ground.phase }, { on := 3, ground := Ground.phase }, { on := 4, ground := Ground.phase }, { on := 5, ground := Ground.phase }, { on := 6, ground := Ground.phase }, { on := 7, ground := Ground.phase }, { on := 8, ground := Ground.phase }, { on := 9, ground := Ground.phase }, { on := 10, ground := Ground.phase }, { on := 11, ground := Ground.phase }, { on := 12, ground := Ground.textOnly Departure.lateStores }, { on := 13, ground := Ground.textOnly Departure.lateStores }, { on := 14, ground := Ground.phase }], guard := none }) rfl (fun K hK => ?_) ?_
                    · go_simp
                      refine hK.out _ _ ?_ (fun hHeld => ?_)
                      · exact unhide HWc _ hbF
                      clear hK K
                      (try simp only [Act.put, List.setIfInBounds_toArray, List.set_cons_zero, List.set_cons_succ])
                      refine wpAnyH_take (i := 16) (oi := { dst := some 16, op := Op.assign (Operand.tmp 65), type := 3, pos := "keeps.go:184", after := #[{ on := 12, ground := Ground.data }, { on := 15, ground := Ground.chain }, { on := 0, ground := Ground.phase }, { on := 1, ground := Ground.phase }, { on := 2, ground := Ground.phase }, { on := 3, ground := Ground.phase }, { on := 4, ground := Ground.phase }, { on := 5, ground := Ground.phase }, { on := 6, ground := Ground.phase }, { on := 7, ground := Ground.phase }, { on := 8, ground := Ground.phase }, { on := 9, ground := Ground.phase }, { on := 10, ground := Ground.phase }, { on := 11, ground := Ground.phase }, { on := 12, ground := Ground.phase }, { on := 13, ground := Ground.textOnly Departure.lateStores }, { on := 14, ground := Ground.phase }, { on := 15, ground := Ground.phase }], guard := none }) (v := ?v16x29) rfl (by kernel_rfl) (by kernel_rfl) (by kernel_rfl) (fun _ _ _ h => h) (Or.inl ⟨by rfl, ?hy16x29⟩) (by assumption) ?rest16x29
                      case hy16x29 => (intro w' hSw; (try dsimp only at hSw); go_simp; (try with_reducible rfl))
                      (try simp only [Act.put, List.setIfInBounds_toArray, List.set_cons_zero, List.set_cons_succ])
                      refine wpAnyH_take (i := 17) (oi := { dst := some 17, op := Op.assign (Operand.tmp 66), type := 31, pos := "keeps.go:184", after := #[{ on := 13, ground := Ground.data }, { on := 16, ground := Ground.chain }, { on := 0, ground := Ground.phase }, { on := 1, ground := Ground.phase }, { on := 2, ground := Ground.phase }, { on := 3, ground := Ground.phase }, { on := 4, ground := Ground.phase }, { on := 5, ground := Ground.phase }, { on := 6, ground := Ground.phase }, { on := 7, ground := Ground.phase }, { on := 8, ground := Ground.phase }, { on := 9, ground := Ground.phase }, { on := 10, ground := Ground.phase }, { on := 11, ground := Ground.phase }, { on := 12, ground := Ground.phase }, { on := 13, ground := Ground.phase }, { on := 14, ground := Ground.phase }, { on := 15, ground := Ground.phase }, { on := 16, ground := Ground.phase }], guard := none }) (v := ?v17x30) rfl (by kernel_rfl) (by kernel_rfl) (by kernel_rfl) (fun _ _ _ h => h) (Or.inl ⟨by rfl, ?hy17x30⟩) (by assumption) ?rest17x30
                      case hy17x30 => (intro w' hSw; (try dsimp only at hSw); go_simp; (try with_reducible rfl))
                      (try simp only [Act.put, List.setIfInBounds_toArray, List.set_cons_zero, List.set_cons_succ])
                      refine wpAnyH_done (by kernel_rfl) ?_ _
                      (try refine NoPanic.normal ?_)
                      generalize (wM.setCell ⟨wi.heap.size + 1, 0, none⟩ (.int .i64 AO)).setCell ⟨wi.heap.size + 1, 1, none⟩ (.string (bstr AB)) = wF at *
                      generalize hbk : wi.heap.size + 1 = bk at hbxF ⊢
                      clear hbk v0 v1 g0 g1 hlx
                      have h7F := below_t h7i hbF
                      have q0 := box_cell (bbox h7F (unhide Hib)) 0
                      have q1 := box_cell (bbox h7F (unhide Hib)) 1
                      have e0 := box_cell hbxF 0
                      have e1 := box_cell hbxF 1
                      simp only [List.getElem?_toArray, List.getElem?_cons_zero, List.getElem?_cons_succ] at q0 q1 e0 e1
                      have hlq := lt_of_box (bbox h7F (unhide Hib))
                      have hlF := lt_of_box hbxF
                      have hfin := below_t hbi hbF
                      have hwf : IntKind.i64.wrap ((f : Int) + 1) = (f : Int) + 1 := IntWalk.i64_in _ (by omega)
                      by_cases hfo' : f = o
                      · have hA := (unhide Hasm2).1 hfo'
                        simp only [Prod.mk.injEq] at hA
                        obtain ⟨⟨rfl, rfl⟩, rfl, rfl⟩ := hA
                        have Hfo := hide hfo'
                        clear hfo' Hasm2 HAF2
                        go_wp2
                        go_roundw
                        case rel => exact ⟨f + 1, by go_num, .inr ⟨by rw [unhide Hfo], by rw [unhide Hfo]⟩, hfin⟩
                        case measure => simp [intOf]; omega
                      · have hA := (unhide Hasm2).2 (by omega)
                        simp only at hA
                        have hA' : ¬ AE = 0 := hA
                        clear Hasm2 HAF2 hA
                        go_wp2
                        go_roundw
                        case rel => exact ⟨f + 1, by go_num, .inl ⟨rfl, by omega, by omega⟩, hfin⟩
                        case measure => simp [intOf]; omega
                    exact AllReadyH.nil
                  exact AllReadyH.nil
                exact AllReadyH.nil
              exact AllReadyH.nil
            exact AllReadyH.nil
          refine AllReadyH.cons (o := { dst := some 15, op := Op.alloc 30, type := 0, pos := "keeps.go:184", after := #[], guard := none }) rfl (fun K hK => ?_) ?_
          · go_simp
            refine hK.out _ _ ?_ (fun hHeld => ?_)
            · exact unhide HWc _ (below_t (below_d (Below.refl _ wi)) (below_a _ _))
            clear hK K
            (try simp only [Act.put, List.setIfInBounds_toArray, List.set_cons_zero, List.set_cons_succ])
            have hbX := box_new wi.drew (.cells #[.int .i64 0, .string ⟨#[]⟩] 30)
            rw [show wi.drew.heap.size = wi.heap.size by simp] at hbX
            refine wpAnyH_ready (rs := [6]) (by kernel_rfl) (by simp) ?_
            refine AllReadyH.cons (o := { dst := some 60, op := Op.buildSlice 23 1 #[(0, Operand.tmp 59)], type := 23, pos := "keeps.go:184", after := #[{ on := 5, ground := Ground.data }], guard := none }) rfl (fun K hK => ?_) ?_
            · go_simp
              refine hK.out _ _ ?_ (fun hHeld => ?_)
              · exact unhide HWc _ (below_t (below_t (below_d (Below.refl _ wi)) (below_a _ _)) (below_a _ _))
              clear hK K
              (try simp only [Act.put, List.setIfInBounds_toArray, List.set_cons_zero, List.set_cons_succ])
              have hbX6 := bbox (below_a (wi.drew.alloc (.cells #[.int .i64 0, .string ⟨#[]⟩] 30)) (.cells #[.int .i64 (f : Int)] 3)) hbX
              refine wpAnyH_ready (rs := [7]) (by kernel_rfl) (by simp) ?_
              refine AllReadyH.cons (o := { dst := some 61, op := Op.call { callee := Callee.builtin Builtin.append, args := #[Operand.tmp 58, Operand.tmp 60], argTypes := #[23, 23] }, type := 23, pos := "keeps.go:184", after := #[{ on := 4, ground := Ground.data }, { on := 6, ground := Ground.data }], guard := none }) rfl (fun K hK => ?_) ?_
              · refine step_append_grows rfl (.tmp 58) (.tmp 60) 23 rfl 3 i0 (.int .i64 0) 1 8 Tryd.underlying23 hi0 hz0 hz1 hz2 rfl (by decide) pf i i _ rfl (unhide HN) (by rw [List.length_map, hol, Nat.mul_one]) (unhide Hcw _ (below_t (below_t (below_d (Below.refl _ wi)) (below_a _ _)) (below_a _ _))) _ 1 1 [.int .i64 (f : Int)] rfl rfl (cell_one_eq (wi.drew.alloc (.cells #[.int .i64 0, .string ⟨#[]⟩] 30)) _ _ (by simp)) (int_one _) (by omega) (by unfold maxLen; omega) (by omega) ?_
                intro vA wA hownA hgrowA
                have hbA : Below wi.heap.size wi wA := below_grow (below_t (below_t (below_d (Below.refl _ wi)) (below_a _ _)) (below_a _ _)) hgrowA
                have HFA : Hid (FormsAt wA vA (O.take i ++ [f])) := hide (forms_of hol hownA)
                have hbX7 := grow_box hgrowA hbX6
                clear hownA hgrowA
                obtain ⟨pA, cA, hvA⟩ : ∃ p c, vA = .slice p (i + 1) c := forms_shape (unhide HFA) (by rw [List.length_append, hol]; rfl)
                subst hvA
                refine hK.out _ _ ?_ (fun hHeld => ?_)
                · exact unhide HWc _ hbA
                clear hK K
                (try simp only [Act.put, List.setIfInBounds_toArray, List.set_cons_zero, List.set_cons_succ])
                refine wpAnyH_ready (rs := [8]) (by kernel_rfl) (by simp) ?_
                refine AllReadyH.cons (o := { dst := some 62, op := Op.call { callee := Callee.value (Operand.func 9), args := #[Operand.tmp 54, Operand.tmp 61], argTypes := #[27, 23] }, type := 9, pos := "keeps.go:184", after := #[{ on := 0, ground := Ground.data }, { on := 7, ground := Ground.data }, { on := 7, ground := Ground.chain }], guard := none }) rfl (fun K hK => ?_) ?_
                · go_simp
                  refine (source_c ms (unhide HM).ok.ok hMlen (O.take i ++ [f]) (unhide HF4) _ _ _ wA ((unhide HVi).below hbA) (unhide HFA) (by rw [List.length_append, hol, List.length_singleton]; omega)).mono ?_
                  rintro e wS ⟨rfl, hbS0⟩
                  have hbS : Below wi.heap.size wi wS := below_t hbA hbS0
                  have hbX8 := bbox hbS0 hbX7
                  dsimp only
                  refine hK.out _ _ ?_ (fun hHeld => ?_)
                  · exact unhide HWc _ hbS
                  clear hK K
                  (try simp only [Act.put, List.setIfInBounds_toArray, List.set_cons_zero, List.set_cons_succ])
                  refine wpAnyH_ready (rs := [9]) (by kernel_rfl) (by simp) ?_
                  refine AllReadyH.cons (o := { dst := some 63, op := Op.call { callee := Callee.value (Operand.func 8), args := #[Operand.tmp 62], argTypes := #[9] }, type := 32, pos := "keeps.go:184", after := #[{ on := 8, ground := Ground.data }, { on := 8, ground := Ground.chain }], guard := none }) rfl (fun K hK => ?_) ?_
                  · go_simp
                    refine (unhide HAF2 wS (below_t hBi hbS)).mono ?_
                    rintro e wM ⟨rfl, hbM0⟩
                    have hbM : Below wi.heap.size wi wM := below_t hbS hbM0
                    have hbX9 := bbox hbM0 hbX8
                    dsimp only
                    refine hK.out _ _ ?_ (fun hHeld => ?_)
                    · exact unhide HWc _ hbM
                    clear hK K
                    (try simp only [Act.put, List.setIfInBounds_toArray, List.set_cons_zero, List.set_cons_succ])
                    refine wpAnyH_take (i := 10) (oi := { dst := some 53, op := Op.move (Operand.tmp 63), type := 32, pos := "keeps.go:184", after := #[{ on := 9, ground := Ground.data }], guard := none }) (v := ?v10x31) rfl (by kernel_rfl) (by kernel_rfl) (by kernel_rfl) (fun _ _ _ h => h) (Or.inl ⟨by rfl, ?hy10x31⟩) (by assumption) ?rest10x31
                    case hy10x31 => (intro w' hSw; (try dsimp only at hSw); go_simp; (try with_reducible rfl))
                    (try simp only [Act.put, List.setIfInBounds_toArray, List.set_cons_zero, List.set_cons_succ])
                    refine wpAnyH_take (i := 11) (oi := { dst := some 64, op := Op.extract (Operand.tmp 53) 0, type := 30, pos := "keeps.go:184", after := #[{ on := 10, ground := Ground.data }], guard := none }) (v := ?v11x32) rfl (by kernel_rfl) (by kernel_rfl) (by kernel_rfl) (fun _ _ _ h => h) (Or.inl ⟨by rfl, ?hy11x32⟩) (by assumption) ?rest11x32
                    case hy11x32 => (intro w' hSw; (try dsimp only at hSw); go_simp; (try with_reducible rfl))
                    (try simp only [Act.put, List.setIfInBounds_toArray, List.set_cons_zero, List.set_cons_succ])
                    refine wpAnyH_take (i := 12) (oi := { dst := some 65, op := Op.extract (Operand.tmp 53) 1, type := 3, pos := "keeps.go:184", after := #[{ on := 10, ground := Ground.data }, { on := 15, ground := Ground.gcOnly Departure.lateStores }], guard := none }) (v := ?v12x33) rfl (by kernel_rfl) (by kernel_rfl) (by kernel_rfl) (fun _ _ _ h => h) (Or.inl ⟨by rfl, ?hy12x33⟩) (by assumption) ?rest12x33
                    case hy12x33 => (intro w' hSw; (try dsimp only at hSw); go_simp; (try with_reducible rfl))
                    (try simp only [Act.put, List.setIfInBounds_toArray, List.set_cons_zero, List.set_cons_succ])
                    refine wpAnyH_take (i := 13) (oi := { dst := some 66, op := Op.extract (Operand.tmp 53) 2, type := 31, pos := "keeps.go:184", after := #[{ on := 10, ground := Ground.data }, { on := 16, ground := Ground.gcOnly Departure.lateStores }], guard := none }) (v := ?v13x34) rfl (by kernel_rfl) (by kernel_rfl) (by kernel_rfl) (fun _ _ _ h => h) (Or.inl ⟨by rfl, ?hy13x34⟩) (by assumption) ?rest13x34
                    case hy13x34 => (intro w' hSw; (try dsimp only at hSw); go_simp; (try with_reducible rfl))
                    (try simp only [Act.put, List.setIfInBounds_toArray, List.set_cons_zero, List.set_cons_succ])
                    have v0 := box_cell hbX9 0
                    have v1 := box_cell hbX9 1
                    simp only [List.getElem?_toArray, List.getElem?_cons_zero, List.getElem?_cons_succ] at v0 v1
                    have g0 := box_free hbX9 0
                    have g1 := box_free hbX9 1
                    have hlx := lt_of_box hbX9
                    have hbxF := set_two (u := .int .i64 AO) (v := .string (bstr AB)) hbX9
                    have hbF : Below wi.heap.size wi _ := below_set2 (x := .int .i64 AO) (y := .string (bstr AB)) hbM (Nat.le_refl _)
                    refine wpAnyH_ready (rs := [15]) (by kernel_rfl) (by simp) ?_
                    refine AllReadyH.cons (o := { dst := none, op := Op.store 30 (Operand.tmp 15) (Operand.tmp 64), type := 0, pos := "keeps.go:184", after := #[{ on := 14, ground := Ground.data }, { on := 11, ground := Ground.data }, { on := 9, ground := Ground.chain }, { on := 0, ground := Ground.phase }, { on := 1, ground := Ground.phase }, { on := 2, ground := Ground.phase }, { on := 3, ground := Ground.phase }, { on := 4, ground := Ground.phase }, { on := 5, ground := Ground.phase }, { on := 6, ground := Ground.phase }, { on := 7, ground := Ground.phase }, { on := 8, ground := Ground.phase }, { on := 9, ground := Ground.phase }, { on := 10, ground := Ground.phase }, { on := 11, ground := Ground.phase }, { on := 12, ground := Ground.textOnly Departure.lateStores }, { on := 13, ground := Ground.textOnly Departure.lateStores }, { on := 14, ground := Ground.phase }], guard := none }) rfl (fun K hK => ?_) ?_
                    · go_simp
                      refine hK.out _ _ ?_ (fun hHeld => ?_)
                      · exact unhide HWc _ hbF
                      clear hK K
                      (try simp only [Act.put, List.setIfInBounds_toArray, List.set_cons_zero, List.set_cons_succ])
                      refine wpAnyH_take (i := 16) (oi := { dst := some 16, op := Op.assign (Operand.tmp 65), type := 3, pos := "keeps.go:184", after := #[{ on := 12, ground := Ground.data }, { on := 15, ground := Ground.chain }, { on := 0, ground := Ground.phase }, { on := 1, ground := Ground.phase }, { on := 2, ground := Ground.phase }, { on := 3, ground := Ground.phase }, { on := 4, ground := Ground.phase }, { on := 5, ground := Ground.phase }, { on := 6, ground := Ground.phase }, { on := 7, ground := Ground.phase }, { on := 8, ground := Ground.phase }, { on := 9, ground := Ground.phase }, { on := 10, ground := Ground.phase }, { on := 11, ground := Ground.phase }, { on := 12, ground := Ground.phase }, { on := 13, ground := Ground.textOnly Departure.lateStores }, { on := 14, ground := Ground.phase }, { on := 15, ground := Ground.phase }], guard := none }) (v := ?v16x35) rfl (by kernel_rfl) (by kernel_rfl) (by kernel_rfl) (fun _ _ _ h => h) (Or.inl ⟨by rfl, ?hy16x35⟩) (by assumption) ?rest16x35
                      case hy16x35 => (intro w' hSw; (try dsimp only at hSw); go_simp; (try with_reducible rfl))
                      (try simp only [Act.put, List.setIfInBounds_toArray, List.set_cons_zero, List.set_cons_succ])
                      refine wpAnyH_take (i := 17) (oi := { dst := some 17, op := Op.assign (Operand.tmp 66), type := 31, pos := "keeps.go:184", after := #[{ on := 13, ground := Ground.data }, { on := 16, ground := Ground.chain }, { on := 0, ground := Ground.phase }, { on := 1, ground := Ground.phase }, { on := 2, ground := Ground.phase }, { on := 3, ground := Ground.phase }, { on := 4, ground := Ground.phase }, { on := 5, ground := Ground.phase }, { on := 6, ground := Ground.phase }, { on := 7, ground := Ground.phase }, { on := 8, ground := Ground.phase }, { on := 9, ground := Ground.phase }, { on := 10, ground := Ground.phase }, { on := 11, ground := Ground.phase }, { on := 12, ground := Ground.phase }, { on := 13, ground := Ground.phase }, { on := 14, ground := Ground.phase }, { on := 15, ground := Ground.phase }, { on := 16, ground := Ground.phase }], guard := none }) (v := ?v17x36) rfl (by kernel_rfl) (by kernel_rfl) (by kernel_rfl) (fun _ _ _ h => h) (Or.inl ⟨by rfl, ?hy17x36⟩) (by assumption) ?rest17x36
                      case hy17x36 => (intro w' hSw; (try dsimp only at hSw); go_simp; (try with_reducible rfl))
                      (try simp only [Act.put, List.setIfInBounds_toArray, List.set_cons_zero, List.set_cons_succ])
                      refine wpAnyH_done (by kernel_rfl) ?_ _
                      (try refine NoPanic.normal ?_)
                      generalize (wM.setCell ⟨wi.heap.size, 0, none⟩ (.int .i64 AO)).setCell ⟨wi.heap.size, 1, none⟩ (.string (bstr AB)) = wF at *
                      generalize hbk : wi.heap.size = bk at hbxF ⊢
                      clear hbk v0 v1 g0 g1 hlx
                      have h7F := below_t h7i hbF
                      have q0 := box_cell (bbox h7F (unhide Hib)) 0
                      have q1 := box_cell (bbox h7F (unhide Hib)) 1
                      have e0 := box_cell hbxF 0
                      have e1 := box_cell hbxF 1
                      simp only [List.getElem?_toArray, List.getElem?_cons_zero, List.getElem?_cons_succ] at q0 q1 e0 e1
                      have hlq := lt_of_box (bbox h7F (unhide Hib))
                      have hlF := lt_of_box hbxF
                      have hfin := below_t hbi hbF
                      have hwf : IntKind.i64.wrap ((f : Int) + 1) = (f : Int) + 1 := IntWalk.i64_in _ (by omega)
                      by_cases hfo' : f = o
                      · have hA := (unhide Hasm2).1 hfo'
                        simp only [Prod.mk.injEq] at hA
                        obtain ⟨⟨rfl, rfl⟩, rfl, rfl⟩ := hA
                        have Hfo := hide hfo'
                        clear hfo' Hasm2 HAF2
                        go_wp2
                        go_roundw
                        case rel => exact ⟨f + 1, by go_num, .inr ⟨by rw [unhide Hfo], by rw [unhide Hfo]⟩, hfin⟩
                        case measure => simp [intOf]; omega
                      · have hA := (unhide Hasm2).2 (by omega)
                        simp only at hA
                        have hA' : ¬ AE = 0 := hA
                        clear Hasm2 HAF2 hA
                        go_wp2
                        go_roundw
                        case rel => exact ⟨f + 1, by go_num, .inl ⟨rfl, by omega, by omega⟩, hfin⟩
                        case measure => simp [intOf]; omega
                    exact AllReadyH.nil
                  exact AllReadyH.nil
                exact AllReadyH.nil
              exact AllReadyH.nil
            exact AllReadyH.nil
          exact AllReadyH.nil
        · have hno : ((o : Int) == 0) = false := by rw [beq_eq_false_iff_ne]; omega
          have hno' : ¬ (o : Int) = 0 := by omega
          have hif : (i : Int) ≤ (cf : Int) := by omega
          have h7i := below_t hbr hbi
          have hsl : (if i = 0 then pf else Option.map (fun x => x.add 0) pf) = pf := by
            split
            · rfl
            · cases pf with
              | none => rfl
              | some b =>
                obtain ⟨_, g1, rfl⟩ := unhide Hsome b rfl
                rw [Option.map_some, Addr.add_lit]
          have HN : Hid (pf = none → i = 0 ∧ i = 0) := hide fun h => ⟨(unhide Hnone h).1, (unhide Hnone h).1⟩
          have hol : (O.take i).length = i := by rw [List.length_take, unhide Hol]; omega
          have Hcw : Hid (∀ W, Below wi.heap.size wi W → ∀ b, pf = some b → ∀ j u, ((O.take i).map fun (f : Nat) => Value.int .i64 (f : Int))[j]? = some u → W.cell? (b.add j) = some u) := hide (fun W hb b hpb j u hu => by
            have h1 := unhide Hcells b hpb j u hu
            obtain ⟨_, g1, rfl⟩ := unhide Hsome b hpb
            have e : (⟨g1, 0, none⟩ : Addr).add j = ⟨g1, j, none⟩ := by rw [Addr.add_lit, Nat.zero_add]
            rw [e] at h1 ⊢
            have hl1 := lt_of_cell h1
            rw [← h1, ← hbi.cell (p := ⟨g1, j, none⟩) hl1]
            exact hb.cell (p := ⟨g1, j, none⟩) (Nat.lt_of_lt_of_le hl1 hbi.size))
          have hf4 : ¬ (f : Int) ≤ 3 ∨ (f : Int) ≤ 3 := by omega
          have hwi : IntKind.i64.wrap ((i : Int) + 1) = (i : Int) + 1 := IntWalk.i64_in _ (by omega)
          have hszi := h7i.size
          rcases hf4 with hf4 | hf4
          all_goals
            go_wp2_with (at_builtin; refine wpList_append_grows _ rfl _ _ 23 rfl 3 i0 (.int .i64 0) 1 8 Tryd.underlying23 hi0 hz0 hz1 hz2 rfl (by decide) pf i i _ rfl (unhide HN) (by rw [List.length_map, hol, Nat.mul_one]) (unhide Hcw _ (below_a _ _)) ⟨wi.heap.size, 0, none⟩ 1 1 [.int .i64 (o : Int)] rfl rfl (cell_one_new _ _ _) (int_one _) (by omega) (by unfold maxLen; omega) (by omega) ?_; intro vA wA hownA hgrowA)
            have hbA : Below wi.heap.size wi wA := below_grow (below_a _ _) hgrowA
            have Hrow' : Hid (World.ownsRow wA w7.heap.size 3 1 vA (i + 1) ((O.take (i + 1)).map fun (f : Nat) => Value.int .i64 (f : Int))) := hide (by
              rw [unhide HOs, List.map_append]
              exact row_base' hownA (by rw [World.size_alloc]; omega))
            clear hownA hgrowA
            go_wp2
            go_roundw
            case rel => exact ⟨i + 1, by omega, unhide Hrow', by go_num, below_t hbr (below_t hbi hbA)⟩
            case measure => simp [intOf]; omega
    · have hltI : ¬ (i : Int) < (J : Int) := by omega
      obtain rfl : i = J := by omega
      have hOt : O.take i = O := List.take_of_length_le (by rw [unhide Holen]; omega)
      rw [hOt] at Hrow
      have hOl : O.length = i := unhide Holen
      have x0 := box_cell (bbox hbr (unhide Hbx7)) 0
      have x1 := box_cell (bbox hbr (unhide Hbx7)) 1
      have x2 := box_cell (bbox hbr (unhide Hbx7)) 2
      have x3 := box_cell (bbox hbr (unhide Hbx7)) 3
      have x4 := box_cell (bbox hbr (unhide Hbx7)) 4
      simp only [List.getElem?_toArray, List.getElem?_cons_zero, List.getElem?_cons_succ] at x0 x1 x2 x3 x4
      have hlg := lt_of_box (bbox hbr (unhide Hbx7))
      have HF4 : Hid (∀ x ∈ O, x < 4) := hide (fun x hx => by
        obtain ⟨k, hk, rfl⟩ := List.getElem_of_mem hx
        have := unhide Horng k (by omega)
        rw [List.getD_eq_getElem?_getD, List.getElem?_eq_getElem hk] at this
        simp only [Option.getD_some] at this
        omega)
      have hag := unhide Hagree O (fun i => .inr rfl)
      have HasmO := hide (fun W hb => unhide HAF O W hb)
      rw [hag] at HasmO
      clear hag
      go_wp2_with fail
      refine (source_c ms (unhide HM).ok.ok hMlen O (unhide HF4) _ _ _ wo ((unhide HV7).below hbr) (forms_row hOl (unhide Hrow)) (by omega)).mono ?_
      rintro e w8 ⟨rfl, hb8⟩
      clear x0 x1 x2 x3 x4
      go_wp2_with fail
      refine (unhide HasmO w8 (below_t hB7 (below_t hbr hb8))).mono ?_
      rintro e w9 ⟨rfl, hb9⟩
      have h79 := below_t hbr (below_t hb8 hb9)
      have y0 := box_cell (bbox h79 (unhide Hib)) 0
      have y1 := box_cell (bbox h79 (unhide Hib)) 1
      simp only [List.getElem?_toArray, List.getElem?_cons_zero, List.getElem?_cons_succ] at y0 y1
      have hlq := lt_of_box (bbox h79 (unhide Hib))
      have hb10 := below_a w9 (.cells #[.int .i64 0, .string (bstr IB)] 30)
      have h710 := below_t h79 hb10
      have hB10 := below_t hB7 h710
      by_cases hJ0 : i = 0
      · have hJI : ((i : Int) == 0) = true := by rw [beq_iff_eq]; omega
        have hJI' : (i : Int) = 0 := by omega
        go_wp2
        go_ret
        exact ⟨rfl, hB10⟩
      · have hJI : ((i : Int) == 0) = false := by rw [beq_eq_false_iff_ne]; omega
        have hJI' : ¬ (i : Int) = 0 := by omega
        obtain ⟨gf, hpf⟩ : ∃ gf, pf = some ⟨gf, 0, none⟩ := by
          cases pf with
          | none => exact (hJ0 (unhide Hnone rfl).1).elim
          | some b =>
            obtain ⟨_, g1, rfl⟩ := unhide Hsome b rfl
            exact ⟨g1, rfl⟩
        subst hpf
        have hb8' := below_t (below_t hb8 hb9) hb10
        have Hrow10 := hide (ownsRow_below (unhide Hrow) hb8')
        have HV10 := hide ((unhide HV7).below h710)
        have Hbx10 := hide (bbox h710 (unhide Hbx7))
        have hsz10 := h710.size
        have hbg : w7.heap.size ≤ gf := by
          have := ((unhide Hrow).lt gf rfl).1
          exact this
        go_upto_region 26 with fail
        generalize w9.alloc (.cells #[.int .i64 0, .string (bstr IB)] 30) = w10 at *
        clear hb8 hb9 hb10 hb8' y0 y1 hlq h79
        go_wp2_with fail
        have hpr := Strd.pick_range z (i : Int) (by omega)
        refine (pick_c z (i : Int) w10 (unhide Hz) (by omega)).mono ?_
        rintro e w11 ⟨rfl, hw11⟩
        rw [hw11]
        clear hw11
        obtain ⟨k, hk⟩ : ∃ k : Nat, Strd.pick z (i : Int) = (k : Int) := ⟨(Strd.pick z (i : Int)).toNat, by omega⟩
        rw [hk] at hpr ⊢
        have hki : k < i := by omega
        have hkI : (k : Int) < (i : Int) := by omega
        clear hk
        obtain ⟨hck, hfk, hlk⟩ := row_cell (unhide Hrow10) hki
        have hOk : ((O.map fun (f : Nat) => Value.int .i64 (f : Int)))[k]? = some (.int .i64 (O.getD k 0 : Int)) := by
          rw [List.getElem?_map, List.getD_eq_getElem?_getD, List.getElem?_eq_getElem (by omega)]; rfl
        rw [hOk] at hck
        have hrk := unhide Horng k (by omega)
        by_cases ho1 : O.getD k 0 = 1
        · have ho1' : ((O.getD k 0 : Int) == 1) = true := by rw [beq_iff_eq]; omega
          have ho1'' : (O.getD k 0 : Int) = 1 := by omega
          generalize (O.getD k 0 : Int) = ok at *
          clear hOk hrk ho1
          go_wp2
          go_ret
          exact ⟨rfl, hB10⟩
        · have ho1' : ((O.getD k 0 : Int) == 1) = false := by rw [beq_eq_false_iff_ne]; omega
          have ho1'' : ¬ (O.getD k 0 : Int) = 1 := by omega
          have hsub : IntKind.i64.wrap ((O.getD k 0 : Int) - 1) = (O.getD k 0 : Int) - 1 := IntWalk.i64_in _ (by omega)
          have hbs : Below w7.heap.size w7 (w10.setCell ⟨gf, k, none⟩ (.int .i64 ((O.getD k 0 : Int) - 1))) := h710.setCell (p := ⟨gf, k, none⟩) hbg _
          have Hrow11 : Hid (FormsAt (w10.setCell ⟨gf, k, none⟩ (.int .i64 ((O.getD k 0 : Int) - 1))) (.slice (some ⟨gf, 0, none⟩) i cf) (O.set k (O.getD k 0 - 1))) := hide (by
            refine forms_row (b := w7.heap.size) (n := i) (by rw [List.length_set]; exact hOl) ?_
            have := row_put (x := .int .i64 ((O.getD k 0 : Int) - 1)) (unhide Hrow10) hki
            rw [List.map_set]
            have e : ((O.getD k 0 - 1 : Nat) : Int) = (O.getD k 0 : Int) - 1 := by omega
            rw [e]
            exact this)
          have hset : (O.set k (O.getD k 0 - 1)).getD k 0 = O.getD k 0 - 1 := by
            rw [List.getD_eq_getElem?_getD, List.getElem?_set_self (by omega)]; rfl
          have HF4' : Hid (∀ x ∈ O.set k (O.getD k 0 - 1), x < 4) := hide (fun x hx => by
            rcases List.mem_or_eq_of_mem_set hx with h | h
            · exact unhide HF4 x h
            · subst h; omega)
          have hbad := unhide Hless (O.set k (O.getD k 0 - 1)) (unhide HF4') k (by omega) (by rw [hset]; omega) (by rw [hset]; omega)
          have HasmB := hide (fun W hb => unhide HAF (O.set k (O.getD k 0 - 1)) W hb)
          have hsl2 : (O.set k (O.getD k 0 - 1)).length ≤ 2 ^ 40 := by rw [List.length_set]; omega
          generalize Strd.assemble (Strd.srcOf (Strd.pairs ms (O.set k (O.getD k 0 - 1)))) = Ab at *
          obtain ⟨⟨AO, AB⟩, AL, AE⟩ := Ab
          simp only at hbad HasmB
          clear hset hOk
          generalize O.set k (O.getD k 0 - 1) = O2 at *
          generalize (O.getD k 0 : Int) = ok at *
          have Hbad := hide hbad
          clear hbad
          go_upto_region 32 with fail
          generalize w10.setCell ⟨gf, k, none⟩ (.int .i64 (ok - 1)) = w12 at *
          have x0 := box_cell (bbox hbs (unhide Hbx7)) 0
          have x1 := box_cell (bbox hbs (unhide Hbx7)) 1
          have x2 := box_cell (bbox hbs (unhide Hbx7)) 2
          have x3 := box_cell (bbox hbs (unhide Hbx7)) 3
          have x4 := box_cell (bbox hbs (unhide Hbx7)) 4
          simp only [List.getElem?_toArray, List.getElem?_cons_zero, List.getElem?_cons_succ] at x0 x1 x2 x3 x4
          have hlg2 := lt_of_box (bbox hbs (unhide Hbx7))
          go_wp2_with fail
          refine (source_c ms (unhide HM).ok.ok hMlen O2 (unhide HF4') _ _ _ w12 ((unhide HV7).below hbs) (unhide Hrow11) hsl2).mono ?_
          rintro e w13 ⟨rfl, hb13⟩
          clear x0 x1 x2 x3 x4
          have h713 := below_t hbs hb13
          go_wp2_with fail
          refine (unhide HasmB w13 (below_t hB7 h713)).mono ?_
          rintro e w14 ⟨rfl, hb14⟩
          have hfin := below_t hB7 (below_t h713 (below_t hb14 (below_a w14 (.cells #[.int .i64 AO, .string (bstr AB)] 30))))
          rcases unhide Hbad with hAE | hAE
          · subst hAE
            go_wp2
            go_ret
            exact ⟨rfl, hfin⟩
          · subst hAE
            go_wp2
            go_ret
            exact ⟨rfl, hfin⟩
end Go.Proofs.YtegiloiojloaoaaDoor
