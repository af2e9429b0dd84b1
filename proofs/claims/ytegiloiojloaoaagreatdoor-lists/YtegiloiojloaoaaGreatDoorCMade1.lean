/- The contract of striderkeep.made. -/
import Derived.Test.YtegiloiojloaoaaGreatDoorCMad
import Derived.Deep.DeepCutAuto
import Derived.Deep.CutRange
import Derived.Deep.CutBlock
import Derived.Lib.QuietBelow
import Derived.BigQuiet
set_option linter.unusedVariables false
set_option linter.unusedSimpArgs false
namespace Go.Proofs.YtegiloiojloaoaaGreatDoor
open Go.RowKit Go.Shelf Go.Sort Go.Maps

def I64 (z : Int) : Prop := -2^63 ≤ z ∧ z < 2^63
def ItemsAt (w : World) (v : Value) (xs : List Strd.Item) : Prop := (xs = [] ∧ ∃ p cap, v = .slice p 0 cap) ∨ ∃ b off cap, v = .slice (some ⟨b, off, none⟩) xs.length cap ∧ b < w.heap.size ∧ ∀ i (h : i < xs.length), (w.cell? ⟨b, off + i * 4, none⟩ = some (.int .i64 xs[i].kind) ∧ w.cell? ⟨b, off + i * 4 + 1, none⟩ = some (.int .i64 xs[i].a) ∧ w.cell? ⟨b, off + i * 4 + 2, none⟩ = some (.int .i64 xs[i].b) ∧ w.cell? ⟨b, off + i * 4 + 3, none⟩ = some (.int .i64 xs[i].mark)) ∧ (I64 xs[i].kind ∧ I64 xs[i].a ∧ I64 xs[i].b ∧ I64 xs[i].mark)
theorem ItemsAt.shape {w : World} {v : Value} {xs : List Strd.Item} (h : ItemsAt w v xs) : ∃ p cap, v = .slice p xs.length cap := by
  rcases h with ⟨rfl, p, cap, rfl⟩ | ⟨b, off, cap, rfl, _⟩
  · exact ⟨p, cap, rfl⟩
  · exact ⟨_, _, rfl⟩
/-- The made lines in memory. -/
def MadeAt (base g : Nat) (ms : List Strd.ML) (many : Int) (w : World) : Prop := ∃ vr vl vw vt, MadeX base g vr vl vw vt (ms.map fun m => m.rest.body.text) (ms.map (·.label)) (ms.map (·.word)) (ms.map (·.to)) many w
theorem MadeAt.below {base g : Nat} {ms : List Strd.ML} {many : Int} {w w1 : World} (h : MadeAt base g ms many w) (hb : Below w.heap.size w w1) : MadeAt base g ms many w1 := by
  obtain ⟨a, b, c, d, h⟩ := h; exact ⟨a, b, c, d, h.below hb⟩
theorem MadeAt.many {base g : Nat} {ms : List Strd.ML} {many : Int} {w : World} (h : MadeAt base g ms many w) : w.cell? ⟨g, 4, none⟩ = some (.int .i64 many) ∧ w.frozen? ⟨g, 4, none⟩ = false ∧ g < w.heap.size ∧ ∀ n, MadeAt base g ms n (w.setCell ⟨g, 4, none⟩ (.int .i64 n)) ∧ Kept base MTag w (w.setCell ⟨g, 4, none⟩ (.int .i64 n)) := by
  obtain ⟨a, b, c, d, h⟩ := h
  refine ⟨h.cells.2.2.2.2, box_free h.box 4, lt_of_box h.box, fun n => ⟨⟨a, b, c, d, ⟨?_, row_set h.rr h.box (by decide), row_set h.rl h.box (by decide), row_set h.rw' h.box (by decide), row_set h.rt h.box (by decide), h.lw, h.lt, h.wt, h.gb, by rw [setCell_size]; exact h.wb⟩⟩, kept_set44 (Kept.refl _ _ _) h.box h.box h.gb⟩⟩
  simp [World.setCell, Array.getElem?_modify, h.box]
theorem MadeAt.add {base g : Nat} {ms : List Strd.ML} {many : Int} {w : World} (h : MadeAt base g ms many w) (hl : ms.length ≤ 1000) (m : Strd.ML) :
    Calls Tryz.prog 33 #[.pointer (some ⟨g, 0, none⟩), .int .i64 m.label, .int .i64 m.word, .int .i64 m.to, .string (bstr m.rest.body.text)] w fun e w' => e = .returned (.tuple #[]) ∧ MadeAt base g (ms ++ [m]) many w' ∧ Kept base MTag w w' := by
  obtain ⟨a, b, c, d, h⟩ := h
  refine (add_m base g a b c d _ _ _ _ many m.label m.word m.to m.rest.body.text w h (by simp; omega) (by simp; omega) (by simp; omega) (by simp; omega)).mono ?_
  rintro e w' ⟨h1, ⟨a', b', c', d', h2⟩, h3⟩
  exact ⟨h1, ⟨a', b', c', d', by simpa using h2⟩, h3⟩
theorem kboxM {base : Nat} {W w1 : World} {b : Nat} {cs : Array Value} {t : TypeId} (hk : Kept base MTag W w1) (hb : W.heap[b]? = some (.cells cs t (0, 0))) (h3 : t ≠ 3) (h9 : t ≠ 9) (h44 : t ≠ 44) : w1.heap[b]? = some (.cells cs t (0, 0)) := by
  rw [hk.block b (lt_of_box hb) (.inr fun o ho hd => by
    rw [hb] at ho
    cases ho
    rcases hd with ⟨_, _, h⟩ | ⟨_, _, h⟩ | ⟨_, _, h⟩
    · cases h; exact h3 rfl
    · cases h; exact h9 rfl
    · cases h; exact h44 rfl)]
  exact hb
theorem kboxLt {base : Nat} {W w1 : World} {b : Nat} {D : Obj → Prop} {o : Obj} (hk : Kept base D W w1) (hb : W.heap[b]? = some o) (h : b < base) : w1.heap[b]? = some o := by
  rw [hk.block b (lt_of_box hb) (.inl h)]; exact hb
theorem mark_odd (m : Int) : (m.tmod 2 != 0) = decide (m % 2 ≠ 0) := by
  have h1 := Int.tmod_add_mul_tdiv m 2
  have h2 := Int.emod_add_mul_ediv m 2
  have h3 := Int.emod_nonneg m (show (2 : Int) ≠ 0 by decide)
  have h4 := Int.emod_lt_of_pos m (show (0 : Int) < 2 by decide)
  by_cases h : m % 2 = 0
  · have : m.tmod 2 = 0 := Int.tmod_eq_zero_of_dvd (Int.dvd_of_emod_eq_zero h)
    simp [h, this]
  · have : m.tmod 2 ≠ 0 := fun e => h (Int.emod_eq_zero_of_dvd (Int.dvd_of_tmod_eq_zero e))
    simp [h, this]
def itemLabel (x : Strd.Item) (many : Nat) : Int := if x.mark % 2 ≠ 0 ∧ many < 6 then (many : Int) else -1
def nextMany (x : Strd.Item) (many : Nat) : Nat := if x.mark % 2 ≠ 0 ∧ many < 6 then many + 1 else many
theorem made_step (many : Nat) (x : Strd.Item) (t : List Strd.Item) : Strd.madeFrom many (x :: t) = Strd.itemML x (itemLabel x many) :: Strd.madeFrom (nextMany x many) t := by
  by_cases h : x.mark % 2 ≠ 0 ∧ many < 6
  · rw [Strd.madeFrom, if_pos h]; unfold itemLabel nextMany; rw [if_pos h, if_pos h]
  · rw [Strd.madeFrom, if_neg h]; unfold itemLabel nextMany; rw [if_neg h, if_neg h]
/-- The made lines as a value. -/
def MadeV (base : Nat) (w : World) (cs : Array Value) (ms : List Strd.ML) : Prop := ∃ vr vl vw vt, cs = #[vr, vl, vw, vt, .int .i64 6] ∧ StrsAt base w vr (ms.map fun m => m.rest.body.text) ∧ IntsAt 3 base w vl (ms.map (·.label)) ∧ IntsAt 3 base w vw (ms.map (·.word)) ∧ IntsAt 3 base w vt (ms.map (·.to))
theorem pick_b (c n : Int) (w : World) (hc : I64 c) (hn : 0 < n ∧ n < 2^40) (q : Nat) (hq : Strd.pick c n = q) :
    Calls Tryz.prog 17 #[.int .i64 c, .int .i64 n] w fun e w' => e = .returned (.int .i64 (q : Int)) ∧ Below w.heap.size w w' := (pick_c c n w hc hn).mono fun e w' ⟨h1, h2⟩ => by
  subst h2; rw [← hq]; exact ⟨h1, Below.refl _ _⟩
theorem dec_b (n : Nat) (w : World) (hn : n < 2 ^ 40) (D : Strd.Bs) (hD : Strd.dec n = D) :
    Calls Tryz.prog 19 #[.int .i64 (n : Int)] w fun e w' => e = .returned (.string (bstr D)) ∧ Below w.heap.size w w' := (decimal_c n w hn).mono fun e w' ⟨h1, h2⟩ => by
  subst h2; rw [← hD]; exact ⟨h1, Below.refl _ _⟩
theorem left_step (many : Nat) (h : many < 6) : Strd.leftFrom many = ⟨(many : Int), -1, 0, .rts⟩ :: Strd.leftFrom (many + 1) := by
  unfold Strd.leftFrom
  rw [show 6 - many = (6 - (many + 1)) + 1 by omega, List.range'_succ]
  rfl
theorem left_end : Strd.leftFrom 6 = [] := rfl
def manyIn (g : Nat) (w : World) : Nat := match w.cell? ⟨g, 4, none⟩ with | some (.int _ v) => v.toNat | _ => 0
theorem manyIn_of {base g : Nat} {ms : List Strd.ML} {many : Int} {w : World} (h : MadeAt base g ms many w) : manyIn g w = many.toNat := by
  unfold manyIn; rw [h.many.1]
theorem made_one (p1 p2 p3 p4 : Option Addr) (n1 n2 n3 n4 c1 c2 c3 c4 : Nat) (z : Int) : (#[Value.slice p1 n1 c1, .slice p2 n2 c2, .slice p3 n3 c3, .slice p4 n4 c4, .int .i64 z]).all (·.oneCell') = true := by simp [Value.oneCell']
set_option maxRecDepth 1000000 in
set_option maxHeartbeats 4000000 in
theorem made_c (v : Value) (xs : List Strd.Item) (w : World) (hI : ItemsAt w v xs) (hx : xs.length ≤ 9223372036854775807) :
    Calls Tryz.prog 15 #[v] w fun e w' => ∃ cs, e = .returned (.agg cs) ∧ MadeV (w.heap.size + 1) w' cs (Strd.made xs) ∧ Below w.heap.size w w' := by
  obtain ⟨p, cap, rfl⟩ := hI.shape
  generalize hM : Strd.made xs = M
  unfold Strd.made at hM
  have HM := hide hM
  have HI := hide hI
  clear hM hI
  have hb0 := below_a w (.cells #[.slice none 0 0, .slice none 0 0, .slice none 0 0, .slice none 0 0, .int .i64 0] 44)
  have Hx0 := hide (box_new w (.cells #[.slice none 0 0, .slice none 0 0, .slice none 0 0, .slice none 0 0, .int .i64 0] 44))
  go_enter Tryz.func15, Tryz.ntmps15
  have hb1 := below_a (w.alloc (.cells #[.slice none 0 0, .slice none 0 0, .slice none 0 0, .slice none 0 0, .int .i64 0] 44)) (.cells #[.slice none 0 0, .slice none 0 0, .slice none 0 0, .slice none 0 0, .int .i64 0] 44)
  have Hx1 := hide (box_new (w.alloc (.cells #[.slice none 0 0, .slice none 0 0, .slice none 0 0, .slice none 0 0, .int .i64 0] 44)) (.cells #[.slice none 0 0, .slice none 0 0, .slice none 0 0, .slice none 0 0, .int .i64 0] 44))
  have Hx0' := hide (bbox hb1 (unhide Hx0))
  have hB := below_t hb0 hb1
  rw [show (w.alloc (.cells #[.slice none 0 0, .slice none 0 0, .slice none 0 0, .slice none 0 0, .int .i64 0] 44)).heap.size = w.heap.size + 1 by simp] at Hx1
  go_upto_region 2 with fail
  clear hb0 hb1 Hx0
  generalize (w.alloc (.cells #[.slice none 0 0, .slice none 0 0, .slice none 0 0, .slice none 0 0, .int .i64 0] 44)).alloc (.cells #[.slice none 0 0, .slice none 0 0, .slice none 0 0, .slice none 0 0, .int .i64 0] 44) = w0 at *
  have hM0 : MadeAt (w.heap.size + 1) (w.heap.size + 1) [] 0 w0 := ⟨_, _, _, _, ⟨unhide Hx1, World.ownsRow_nil _ _ _ _, World.ownsRow_nil _ _ _ _, World.ownsRow_nil _ _ _ _, World.ownsRow_nil _ _ _ _, fun k h => (by cases h), fun k h => (by cases h), fun k h => (by cases h), Nat.le_refl _, by have := lt_of_box (unhide Hx1); omega⟩⟩
  have HM0 := hide hM0
  clear hM0
  have hg1 := lt_of_box (unhide Hx1)
  go_wp2_with fail
  go_loopw [4] (fun c wr => ∃ (i many : Nat) (ms : List Strd.ML), i ≤ 34 ∧ i ≤ xs.length ∧ c = .int .i64 i ∧ many ≤ 6 ∧ ms.length = i ∧ ms ++ Strd.madeFrom many ((xs.take 34).drop i) = M ∧ MadeAt (w.heap.size + 1) (w.heap.size + 1) ms many wr ∧ Kept (w.heap.size + 1) MTag w0 wr) (fun c _ => 34 - (intOf c).toNat)
  case atStart => exact ⟨0, 0, [], by omega, by omega, rfl, by omega, rfl, by rw [List.nil_append, List.drop_zero]; exact unhide HM, unhide HM0, Kept.refl _ _ _⟩
  case round =>
    obtain ⟨i, many, ms, hi34, hix, rfl, hmany, hml, hMeq, hMA, hKr⟩ := hrel
    have HMeq := hide hMeq
    have HMA := hide hMA
    clear hMeq hMA
    have hin : (i : Int) ≤ 34 := by omega
    by_cases hgo : i < xs.length ∧ i < 34
    · obtain ⟨hlt, hlt34⟩ := hgo
      rcases unhide HI with ⟨hnil, _⟩ | ⟨b, off, cap', hv, hbl, hcells⟩
      · rw [hnil] at hlt; simp at hlt
      · simp only [Value.slice.injEq] at hv
        obtain ⟨rfl, _, rfl⟩ := hv
        obtain ⟨⟨c0, c1, c2, c3⟩, r0, r1, r2, r3⟩ := hcells i hlt
        have Hdrop : Hid ((xs.take 34).drop i = xs[i] :: (xs.take 34).drop (i + 1)) := hide (by
          have : i < (xs.take 34).length := by rw [List.length_take]; omega
          rw [List.drop_eq_getElem_cons this, List.getElem_take])
        generalize xs[i] = x at *
        have hbr : ∀ j u, w.cell? ⟨b, off + i * 4 + j, none⟩ = some u → wr.cell? ⟨b, off + i * 4 + j, none⟩ = some u := fun j u hu => by
          have e1 := (hB.cell (p := ⟨b, off + i * 4 + j, none⟩) hbl).trans hu
          rw [← e1]
          exact World.cell?_of_block (hKr.block b (Nat.lt_of_lt_of_le hbl hB.size) (.inl (by omega)))
        have k0 := hbr 0 _ c0
        have k1 := hbr 1 _ c1
        have k2 := hbr 2 _ c2
        have k3 := hbr 3 _ c3
        simp only [Nat.add_zero] at k0
        have hbwr : b < wr.heap.size := Nat.lt_of_lt_of_le (Nat.lt_of_lt_of_le hbl hB.size) hKr.size
        have hin2 : (i : Int) < (xs.length : Int) := by omega
        have hin3 : (i : Int) < 34 := by omega
        clear c0 c1 c2 c3 hbr hcells
        have hb1 := below_a wr (.cells #[.int .i64 x.kind, .int .i64 x.a, .int .i64 x.b, .int .i64 x.mark] 79)
        have Hxx := hide (box_new wr (.cells #[.int .i64 x.kind, .int .i64 x.a, .int .i64 x.b, .int .i64 x.mark] 79))
        go_upto_region 7 with fail
        have HMa := hide ((unhide HMA).below hb1)
        have hKa : Kept (w.heap.size + 1) MTag w0 _ := hKr.trans (.of_below hb1)
        clear k0 k1 k2 k3
        generalize wr.alloc (.cells #[.int .i64 x.kind, .int .i64 x.a, .int .i64 x.b, .int .i64 x.mark] 79) = wa at *
        have d3 := box_cell (unhide Hxx) 3
        simp only [List.getElem?_toArray, List.getElem?_cons_zero, List.getElem?_cons_succ] at d3
        have hld := lt_of_box (unhide Hxx)
        obtain ⟨m4, mf, hgl, hset⟩ := (unhide HMa).many
        have Hset := hide hset
        clear hset
        go_cut [34] (fun c wc => c = .bool (decide (x.mark % 2 ≠ 0 ∧ many < 6)) ∧ wc = wa)
        case first =>
          by_cases hmk : x.mark % 2 ≠ 0
          · have ht : ¬ x.mark.tmod 2 = 0 := fun e => hmk (Int.emod_eq_zero_of_dvd (Int.dvd_of_tmod_eq_zero e))
            have htb : (x.mark.tmod 2 != 0) = true := by simp [ht]
            by_cases hm6 : many < 6
            · have Hd : Hid (decide (x.mark % 2 ≠ 0 ∧ many < 6) = true) := hide (by simp [hmk, hm6])
              have hm6i : (many : Int) < 6 := by omega
              clear hmk
              go_wp2
              go_meet
              exact ⟨by rw [unhide Hd], rfl⟩
            · have Hd : Hid (decide (x.mark % 2 ≠ 0 ∧ many < 6) = false) := hide (by simp [hm6])
              have hm6i : ¬ (many : Int) < 6 := by omega
              clear hmk
              go_wp2
              go_meet
              exact ⟨by rw [unhide Hd], rfl⟩
          · have hmk' : x.mark % 2 = 0 := by omega
            have ht : x.mark.tmod 2 = 0 := Int.tmod_eq_zero_of_dvd (Int.dvd_of_emod_eq_zero hmk')
            have Hd : Hid (decide (x.mark % 2 ≠ 0 ∧ many < 6) = false) := hide (by simp [hmk'])
            clear hmk hmk'
            go_wp2
            go_meet
            exact ⟨by rw [unhide Hd], rfl⟩
        case rest =>
          obtain ⟨rfl, rfl⟩ := hcut
          have hlab : itemLabel x many = if x.mark % 2 ≠ 0 ∧ many < 6 then (many : Int) else -1 := rfl
          have hnxt : nextMany x many = if x.mark % 2 ≠ 0 ∧ many < 6 then many + 1 else many := rfl
          generalize hDD : decide (x.mark % 2 ≠ 0 ∧ many < 6) = DD
          have HDD := hide hDD
          have Hlab := hide hlab
          have Hnxt := hide hnxt
          generalize hlb : itemLabel x many = lb at *
          have Hlb := hide hlb
          generalize hnm : nextMany x many = nm at *
          have Hnm := hide hnm
          clear hlab hnxt hDD hnm hlb
          go_upto_if 34 with fail
          go_cut [6] (fun c wd => c = .int .i64 lb ∧ MadeAt (w.heap.size + 1) (w.heap.size + 1) ms nm wd ∧ wd.heap[wr.heap.size]? = some (.cells #[.int .i64 x.kind, .int .i64 x.a, .int .i64 x.b, .int .i64 x.mark] 79 (0, 0)) ∧ Kept (w.heap.size + 1) MTag w0 wd)
          case first =>
            cases DD
            · have Hc : Hid (¬ (x.mark % 2 ≠ 0 ∧ many < 6)) := hide (of_decide_eq_false (unhide HDD))
              go_wp2
              go_meet
              exact ⟨by rw [unhide Hlab, if_neg (unhide Hc)], by rw [unhide Hnxt, if_neg (unhide Hc)]; exact unhide HMa, unhide Hxx, hKa⟩
            · have Hc : Hid (x.mark % 2 ≠ 0 ∧ many < 6) := hide (of_decide_eq_true (unhide HDD))
              have ew : IntKind.i64.wrap ((many : Int) + 1) = (many : Int) + 1 := IntWalk.i64_in _ (by omega)
              obtain ⟨hs1, hs2⟩ := unhide Hset ((many : Int) + 1)
              have Hs1 := hide hs1
              have Hs2 := hide hs2
              clear hs1 hs2
              go_wp2
              go_meet
              exact ⟨by rw [unhide Hlab, if_pos (unhide Hc)], by rw [unhide Hnxt, if_pos (unhide Hc)]; exact unhide Hs1, kboxM (unhide Hs2) (unhide Hxx) (by decide) (by decide) (by decide), hKa.trans (unhide Hs2)⟩
          case rest =>
            obtain ⟨rfl, hMd, hxd, hKd⟩ := hcut
            have HMd := hide hMd
            have Hxd := hide hxd
            have e0 := box_cell hxd 0
            have e1 := box_cell hxd 1
            have e2 := box_cell hxd 2
            simp only [List.getElem?_toArray, List.getElem?_cons_zero, List.getElem?_cons_succ] at e0 e1 e2
            have hle := lt_of_box hxd
            clear hMd hxd m4 mf d3
            have hKr9 := Strd.pick_range x.kind 9 (by omega)
            have hIML : Strd.itemML x lb = if Strd.pick x.kind 9 < 4 then ⟨lb, Strd.pick x.a 18, Strd.pick x.b 6, .nop⟩
              else if Strd.pick x.kind 9 = 4 then ⟨lb, -1, 0, .ds (2 * Strd.pick x.a 513).toNat⟩
              else if Strd.pick x.kind 9 = 5 then ⟨lb, -1, 0, .moveq (Strd.pick x.a 128).toNat (Strd.pick x.b 8).toNat⟩
              else if Strd.pick x.kind 9 = 6 then ⟨lb, -1, 0, .addi (Strd.pick x.a 20).toNat (Strd.pick x.b 8).toNat⟩
              else if Strd.pick x.kind 9 = 7 then ⟨lb, -1, 0, .dcw (Strd.pick x.a 65536).toNat (Strd.pick x.b 65536).toNat⟩
              else ⟨lb, -1, 0, .nop⟩ := rfl
            have hIL := Strd.item_label x lb
            generalize hKK : Strd.pick x.kind 9 = K at *
            have HML := hide hIML
            generalize hMM : Strd.itemML x lb = mm at *
            have HMM := hide hMM
            have HIL := hide hIL
            have HKK := hide hKK
            clear hIML hKK hMM hIL
            go_wp2_with fail
            refine (pick_c x.kind 9 _ r0 (by omega)).mono ?_
            rintro e w2 ⟨rfl, hw2⟩
            rw [hw2, unhide HKK]
            clear hw2 w2
            go_upto_block 2 with fail
            go_cut [7, 8, 9] (fun c7 c8 c9 wd => c7 = .int .i64 mm.word ∧ c8 = .int .i64 mm.to ∧ c9 = .string (bstr mm.rest.body.text) ∧ Below wc.heap.size wc wd)
            case first =>
              by_cases h4 : K < 4
              · have Hm : Hid (mm = ⟨lb, Strd.pick x.a 18, Strd.pick x.b 6, .nop⟩) := hide (by rw [unhide HML, if_pos h4])
                have hb4 : decide (K < 4) = true := by simp [h4]
                go_wp2_with fail
                refine (pick_c x.a 18 _ r1 (by omega)).mono ?_
                rintro e w2 ⟨rfl, hw2⟩
                rw [hw2]
                clear hw2 w2
                generalize hp1 : Strd.pick x.a 18 = p1 at *
                go_wp2_with fail
                refine (pick_c x.b 6 _ r2 (by omega)).mono ?_
                rintro e w2 ⟨rfl, hw2⟩
                rw [hw2]
                clear hw2 w2
                generalize hp2 : Strd.pick x.b 6 = p2 at *
                go_wp2_with fail
                go_meet
                exact ⟨by rw [unhide Hm], by rw [unhide Hm], by rw [unhide Hm]; rfl, Below.refl _ _⟩
              · have hb4 : decide (K < 4) = false := by simp [h4]
                have h4i : ¬ K < 4 := h4
                by_cases h5 : K = 4
                · have Hm : Hid (mm = ⟨lb, -1, 0, .ds (2 * Strd.pick x.a 513).toNat⟩) := hide (by rw [unhide HML, if_neg h4, if_pos h5])
                  have hb5 : (K == 4) = true := by simp [h5]
                  clear h5
                  have hr1 := Strd.pick_range x.a 513 (by omega)
                  go_wp2_with fail
                  refine (pick_c x.a 513 _ r1 (by omega)).mono ?_
                  rintro e w2 ⟨rfl, hw2⟩
                  rw [hw2]
                  clear hw2 w2
                  obtain ⟨q, hq⟩ : ∃ q : Nat, Strd.pick x.a 513 = q := ⟨(Strd.pick x.a 513).toNat, by omega⟩
                  rw [hq] at Hm hr1 ⊢
                  have ew : IntKind.i64.wrap (2 * (q : Int)) = 2 * (q : Int) := IntWalk.i64_in _ (by omega)
                  obtain ⟨D, hD⟩ : ∃ D, Strd.dec (2 * q) = D := ⟨_, rfl⟩
                  have hdl := Strd.dec_len (2 * q) 4 (by omega)
                  rw [hD] at hdl
                  have s1 : ¬ 9223372036854775807 < 3 + List.length D := by omega
                  have HD := hide hD
                  clear hD hdl
                  go_wp2_with fail
                  rw [show 2 * (q : Int) = ((2 * q : Nat) : Int) by omega]
                  refine (dec_b (2 * q) _ (by omega) D (unhide HD)).mono ?_
                  rintro e w2 ⟨rfl, hb2⟩
                  go_wp2
                  go_meet
                  exact ⟨by rw [unhide Hm], by rw [unhide Hm], by rw [unhide Hm]; exact congrArg Value.string (bytes_ext (by
                    have e : (2 * (q : Int)).toNat = 2 * q := by omega
                    simp [Strd.Rest.body, Strd.Body.text, e, unhide HD])), hb2⟩
                · by_cases h6 : K = 5
                  · have h7 : True := trivial
                    have hr1 := Strd.pick_range x.a 128 (by omega)
                    have hr2 := Strd.pick_range x.b 8 (by omega)
                    obtain ⟨q1, hq1⟩ : ∃ q : Nat, Strd.pick x.a 128 = q := ⟨(Strd.pick x.a 128).toNat, by omega⟩
                    obtain ⟨q2, hq2⟩ : ∃ q : Nat, Strd.pick x.b 8 = q := ⟨(Strd.pick x.b 8).toNat, by omega⟩
                    obtain ⟨D1, hD1⟩ : ∃ D, Strd.dec q1 = D := ⟨_, rfl⟩
                    obtain ⟨D2, hD2⟩ : ∃ D, Strd.dec q2 = D := ⟨_, rfl⟩
                    have l1 := Strd.dec_len q1 4 (by omega)
                    have l2 := Strd.dec_len q2 4 (by omega)
                    rw [hD1] at l1
                    rw [hD2] at l2
                    have Hm : Hid (mm = ⟨lb, -1, 0, .moveq q1 q2⟩) := hide (by rw [unhide HML, if_neg h4, if_neg h5, if_pos h6, hq1, hq2, Int.toNat_natCast, Int.toNat_natCast])
                    have cP1 : ∀ d os, Calls Tryz.prog 17 #[.int .i64 x.a, .int .i64 128] (grow (redrawn wc d) os) fun e w'' => e = .returned (.int .i64 (q1 : Int)) ∧ ∃ p : Regrown, w'' = grow (redrawn wc p.d) p.os := fun d os => Calls.regrown_of (pick_b x.a 128 _ r1 (by omega) q1 hq1)
                    have cP2 : ∀ d os, Calls Tryz.prog 17 #[.int .i64 x.b, .int .i64 8] (grow (redrawn wc d) os) fun e w'' => e = .returned (.int .i64 (q2 : Int)) ∧ ∃ p : Regrown, w'' = grow (redrawn wc p.d) p.os := fun d os => Calls.regrown_of (pick_b x.b 8 _ r2 (by omega) q2 hq2)
                    have cD1 : ∀ d os, Calls Tryz.prog 19 #[.int .i64 (q1 : Int)] (grow (redrawn wc d) os) fun e w'' => e = .returned (.string (bstr D1)) ∧ ∃ p : Regrown, w'' = grow (redrawn wc p.d) p.os := fun d os => Calls.regrown_of (dec_b q1 _ (by omega) D1 hD1)
                    have cD2 : ∀ d os, Calls Tryz.prog 19 #[.int .i64 (q2 : Int)] (grow (redrawn wc d) os) fun e w'' => e = .returned (.string (bstr D2)) ∧ ∃ p : Regrown, w'' = grow (redrawn wc p.d) p.os := fun d os => Calls.regrown_of (dec_b q2 _ (by omega) D2 hD2)
                    have e1' := cell_regrown e1
                    have e2' := cell_regrown e2
                    have s1 : ¬ 9223372036854775807 < 7 + List.length D1 := by omega
                    have s2 : ¬ 9223372036854775807 < 7 + List.length D1 + 2 := by omega
                    have s3 : ¬ 9223372036854775807 < 7 + List.length D1 + 2 + List.length D2 := by omega
                    have HD1 := hide hD1
                    have HD2 := hide hD2
                    clear hD1 hD2 hq1 hq2 hr1 hr2 l1 l2
                    have hb5p : (K == 5) = true := by simp [h6]
                    clear h6 h7
                    go_upto_region 20 with fail
                    refine wp_region_quiet_below (by kernel_rfl) (by kernel_rfl) ?_
                    iterate 2 (go_big_quiet_step (fail))
                    go_big_quiet_step (exact cP1 _ _)
                    go_big_quiet_step (exact cD1 _ _)
                    iterate 4 (go_big_quiet_step (fail))
                    go_big_quiet_step (exact cP2 _ _)
                    go_big_quiet_step (exact cD2 _ _)
                    iterate 2 (go_big_quiet_step (fail))
                    refine wpQuiet_nil ?_
                    intro _ hw'
                    obtain ⟨⟨dq, osq⟩, hw''⟩ := hw'
                    subst hw''
                    go_wp2
                    go_meet
                    exact ⟨by rw [unhide Hm], by rw [unhide Hm], by rw [unhide Hm]; exact congrArg Value.string (bytes_ext (by simp [Strd.Rest.body, Strd.Body.text, unhide HD1, unhide HD2])), below_regrown wc dq osq⟩
                  · by_cases h7 : K = 6
                    · skip
                      have hr1 := Strd.pick_range x.a 20 (by omega)
                      have hr2 := Strd.pick_range x.b 8 (by omega)
                      obtain ⟨q1, hq1⟩ : ∃ q : Nat, Strd.pick x.a 20 = q := ⟨(Strd.pick x.a 20).toNat, by omega⟩
                      obtain ⟨q2, hq2⟩ : ∃ q : Nat, Strd.pick x.b 8 = q := ⟨(Strd.pick x.b 8).toNat, by omega⟩
                      obtain ⟨D1, hD1⟩ : ∃ D, Strd.dec q1 = D := ⟨_, rfl⟩
                      obtain ⟨D2, hD2⟩ : ∃ D, Strd.dec q2 = D := ⟨_, rfl⟩
                      have l1 := Strd.dec_len q1 4 (by omega)
                      have l2 := Strd.dec_len q2 4 (by omega)
                      rw [hD1] at l1
                      rw [hD2] at l2
                      have Hm : Hid (mm = ⟨lb, -1, 0, .addi q1 q2⟩) := hide (by rw [unhide HML, if_neg h4, if_neg h5, if_neg h6, if_pos h7, hq1, hq2, Int.toNat_natCast, Int.toNat_natCast])
                      have cP1 : ∀ d os, Calls Tryz.prog 17 #[.int .i64 x.a, .int .i64 20] (grow (redrawn wc d) os) fun e w'' => e = .returned (.int .i64 (q1 : Int)) ∧ ∃ p : Regrown, w'' = grow (redrawn wc p.d) p.os := fun d os => Calls.regrown_of (pick_b x.a 20 _ r1 (by omega) q1 hq1)
                      have cP2 : ∀ d os, Calls Tryz.prog 17 #[.int .i64 x.b, .int .i64 8] (grow (redrawn wc d) os) fun e w'' => e = .returned (.int .i64 (q2 : Int)) ∧ ∃ p : Regrown, w'' = grow (redrawn wc p.d) p.os := fun d os => Calls.regrown_of (pick_b x.b 8 _ r2 (by omega) q2 hq2)
                      have cD1 : ∀ d os, Calls Tryz.prog 19 #[.int .i64 (q1 : Int)] (grow (redrawn wc d) os) fun e w'' => e = .returned (.string (bstr D1)) ∧ ∃ p : Regrown, w'' = grow (redrawn wc p.d) p.os := fun d os => Calls.regrown_of (dec_b q1 _ (by omega) D1 hD1)
                      have cD2 : ∀ d os, Calls Tryz.prog 19 #[.int .i64 (q2 : Int)] (grow (redrawn wc d) os) fun e w'' => e = .returned (.string (bstr D2)) ∧ ∃ p : Regrown, w'' = grow (redrawn wc p.d) p.os := fun d os => Calls.regrown_of (dec_b q2 _ (by omega) D2 hD2)
                      have e1' := cell_regrown e1
                      have e2' := cell_regrown e2
                      have s1 : ¬ 9223372036854775807 < 6 + List.length D1 := by omega
                      have s2 : ¬ 9223372036854775807 < 6 + List.length D1 + 2 := by omega
                      have s3 : ¬ 9223372036854775807 < 6 + List.length D1 + 2 + List.length D2 := by omega
                      have HD1 := hide hD1
                      have HD2 := hide hD2
                      clear hD1 hD2 hq1 hq2 hr1 hr2 l1 l2
                      have hb6p : (K == 6) = true := by simp [h7]
                      clear h7
                      go_upto_region 22 with fail
                      refine wp_region_quiet_below (by kernel_rfl) (by kernel_rfl) ?_
                      iterate 2 (go_big_quiet_step (fail))
                      go_big_quiet_step (exact cP1 _ _)
                      go_big_quiet_step (exact cD1 _ _)
                      iterate 4 (go_big_quiet_step (fail))
                      go_big_quiet_step (exact cP2 _ _)
                      go_big_quiet_step (exact cD2 _ _)
                      iterate 2 (go_big_quiet_step (fail))
                      refine wpQuiet_nil ?_
                      intro _ hw'
                      obtain ⟨⟨dq, osq⟩, hw''⟩ := hw'
                      subst hw''
                      go_wp2
                      go_meet
                      exact ⟨by rw [unhide Hm], by rw [unhide Hm], by rw [unhide Hm]; exact congrArg Value.string (bytes_ext (by simp [Strd.Rest.body, Strd.Body.text, unhide HD1, unhide HD2])), below_regrown wc dq osq⟩
                    · by_cases h8 : K = 7
                      · skip
                        have hr1 := Strd.pick_range x.a 65536 (by omega)
                        have hr2 := Strd.pick_range x.b 65536 (by omega)
                        obtain ⟨q1, hq1⟩ : ∃ q : Nat, Strd.pick x.a 65536 = q := ⟨(Strd.pick x.a 65536).toNat, by omega⟩
                        obtain ⟨q2, hq2⟩ : ∃ q : Nat, Strd.pick x.b 65536 = q := ⟨(Strd.pick x.b 65536).toNat, by omega⟩
                        obtain ⟨D1, hD1⟩ : ∃ D, Strd.dec q1 = D := ⟨_, rfl⟩
                        obtain ⟨D2, hD2⟩ : ∃ D, Strd.dec q2 = D := ⟨_, rfl⟩
                        have l1 := Strd.dec_len q1 4 (by omega)
                        have l2 := Strd.dec_len q2 4 (by omega)
                        rw [hD1] at l1
                        rw [hD2] at l2
                        have Hm : Hid (mm = ⟨lb, -1, 0, .dcw q1 q2⟩) := hide (by rw [unhide HML, if_neg h4, if_neg h5, if_neg h6, if_neg h7, if_pos h8, hq1, hq2, Int.toNat_natCast, Int.toNat_natCast])
                        have cP1 : ∀ d os, Calls Tryz.prog 17 #[.int .i64 x.a, .int .i64 65536] (grow (redrawn wc d) os) fun e w'' => e = .returned (.int .i64 (q1 : Int)) ∧ ∃ p : Regrown, w'' = grow (redrawn wc p.d) p.os := fun d os => Calls.regrown_of (pick_b x.a 65536 _ r1 (by omega) q1 hq1)
                        have cP2 : ∀ d os, Calls Tryz.prog 17 #[.int .i64 x.b, .int .i64 65536] (grow (redrawn wc d) os) fun e w'' => e = .returned (.int .i64 (q2 : Int)) ∧ ∃ p : Regrown, w'' = grow (redrawn wc p.d) p.os := fun d os => Calls.regrown_of (pick_b x.b 65536 _ r2 (by omega) q2 hq2)
                        have cD1 : ∀ d os, Calls Tryz.prog 19 #[.int .i64 (q1 : Int)] (grow (redrawn wc d) os) fun e w'' => e = .returned (.string (bstr D1)) ∧ ∃ p : Regrown, w'' = grow (redrawn wc p.d) p.os := fun d os => Calls.regrown_of (dec_b q1 _ (by omega) D1 hD1)
                        have cD2 : ∀ d os, Calls Tryz.prog 19 #[.int .i64 (q2 : Int)] (grow (redrawn wc d) os) fun e w'' => e = .returned (.string (bstr D2)) ∧ ∃ p : Regrown, w'' = grow (redrawn wc p.d) p.os := fun d os => Calls.regrown_of (dec_b q2 _ (by omega) D2 hD2)
                        have e1' := cell_regrown e1
                        have e2' := cell_regrown e2
                        have s1 : ¬ 9223372036854775807 < 5 + List.length D1 := by omega
                        have s2 : ¬ 9223372036854775807 < 5 + List.length D1 + 1 := by omega
                        have s3 : ¬ 9223372036854775807 < 5 + List.length D1 + 1 + List.length D2 := by omega
                        have HD1 := hide hD1
                        have HD2 := hide hD2
                        clear hD1 hD2 hq1 hq2 hr1 hr2 l1 l2
                        have hb7p : (K == 7) = true := by simp [h8]
                        clear h8
                        go_upto_region 24 with fail
                        refine wp_region_quiet_below (by kernel_rfl) (by kernel_rfl) ?_
                        iterate 2 (go_big_quiet_step (fail))
                        go_big_quiet_step (exact cP1 _ _)
                        go_big_quiet_step (exact cD1 _ _)
                        iterate 4 (go_big_quiet_step (fail))
                        go_big_quiet_step (exact cP2 _ _)
                        go_big_quiet_step (exact cD2 _ _)
                        iterate 2 (go_big_quiet_step (fail))
                        refine wpQuiet_nil ?_
                        intro _ hw'
                        obtain ⟨⟨dq, osq⟩, hw''⟩ := hw'
                        subst hw''
                        go_wp2
                        go_meet
                        exact ⟨by rw [unhide Hm], by rw [unhide Hm], by rw [unhide Hm]; exact congrArg Value.string (bytes_ext (by simp [Strd.Rest.body, Strd.Body.text, unhide HD1, unhide HD2])), below_regrown wc dq osq⟩
                      · have Hm : Hid (mm = ⟨lb, -1, 0, .nop⟩) := hide (by rw [unhide HML, if_neg h4, if_neg h5, if_neg h6, if_neg h7, if_neg h8])
                        go_wp2
                        go_meet
                        exact ⟨by rw [unhide Hm], by rw [unhide Hm], by rw [unhide Hm]; rfl, Below.refl _ _⟩
            case rest =>
              obtain ⟨rfl, rfl, rfl, hbd⟩ := hcut
              have HM2 := hide ((unhide HMd).below hbd)
              have hK2 : Kept (w.heap.size + 1) MTag w0 _ := hKd.trans (.of_below hbd)
              have hadd := (unhide HM2).add (by omega) mm
              rw [unhide HIL] at hadd
              have Hadd := hide hadd
              have hnm6 : nm ≤ 6 := by
                have := unhide Hnxt
                split at this <;> omega
              have Heq : Hid ((ms ++ [mm]) ++ Strd.madeFrom nm ((xs.take 34).drop (i + 1)) = M) := hide (by
                rw [← unhide HMeq, unhide Hdrop, made_step, unhide Hlb, unhide Hnm, unhide HMM]
                simp)
              clear hadd e0 e1 e2
              go_wp2_with fail
              refine (unhide Hadd).mono ?_
              rintro e w3 ⟨rfl, hM3, hK3⟩
              have HM3 := hide hM3
              clear hM3
              go_wp2
              go_roundw
              case rel => exact ⟨i + 1, nm, ms ++ [mm], by omega, by omega, by go_num, hnm6, by simp [hml], unhide Heq, unhide HM3, hK2.trans hK3⟩
              case measure => simp [intOf]; omega
    · have Hend : Hid (ms ++ Strd.leftFrom many = M) := hide (by
        rw [← unhide HMeq, List.drop_eq_nil_of_le (by rw [List.length_take]; omega)]
        rfl)
      have hml40 : ms.length ≤ 34 := by omega
      go_upto_region 3 with fail
      go_cut [19] (fun c wz => c = .bool false ∧ wz = wr)
      case first =>
        by_cases hlen : i < xs.length
        · have h1 : (i : Int) < (xs.length : Int) := by omega
          have h2 : ¬ (i : Int) < 34 := by omega
          go_wp2
          go_meet
          exact ⟨rfl, rfl⟩
        · have h1 : ¬ (i : Int) < (xs.length : Int) := by omega
          go_wp2
          go_meet
          exact ⟨rfl, rfl⟩
      case rest =>
        obtain ⟨rfl, hwz⟩ := hcut
        have HMA2 := hide (unhide HMA)
        rw [← hwz] at hKr HMA2
        clear hgo hin hwz HMA HMeq
        go_wp2_with fail
        go_loopw [] (fun wq => ∃ (many : Nat) (ms : List Strd.ML), many ≤ 6 ∧ ms.length ≤ 34 + many ∧ ms ++ Strd.leftFrom many = M ∧ MadeAt (w.heap.size + 1) (w.heap.size + 1) ms many wq ∧ Kept (w.heap.size + 1) MTag w0 wq) (fun wq => 6 - manyIn (w.heap.size + 1) wq)
        case atStart => exact ⟨many, ms, hmany, by omega, unhide Hend, unhide HMA2, hKr⟩
        case round =>
          obtain ⟨mq, msq, hmq, hlq, heq, hMq, hKq⟩ := hrel
          obtain ⟨m4, mf, hgl, hset⟩ := hMq.many
          have HMq := hide hMq
          have Heq := hide heq
          clear hMq heq hset
          by_cases hm6 : mq < 6
          · have hm6i : (mq : Int) < 6 := by omega
            have hadd : Calls Tryz.prog 33 #[.pointer (some ⟨w.heap.size + 1, 0, none⟩), .int .i64 (mq : Int), .int .i64 (-1), .int .i64 0, .string ⟨#[114, 116, 115]⟩] _ fun e w' => e = .returned (.tuple #[]) ∧ MadeAt (w.heap.size + 1) (w.heap.size + 1) (msq ++ [⟨(mq : Int), -1, 0, .rts⟩]) mq w' ∧ Kept (w.heap.size + 1) MTag _ w' := (unhide HMq).add (by omega) ⟨(mq : Int), -1, 0, .rts⟩
            have Hadd := hide hadd
            have Hnew : Hid ((msq ++ [⟨(mq : Int), -1, 0, .rts⟩]) ++ Strd.leftFrom (mq + 1) = M) := hide (by
              rw [← unhide Heq, left_step mq hm6]; simp)
            clear hadd
            go_wp2_with fail
            refine (unhide Hadd).mono ?_
            rintro e w3 ⟨rfl, hM3, hK3⟩
            obtain ⟨m5, mf5, hgl5, hset5⟩ := hM3.many
            obtain ⟨hs1, hs2⟩ := hset5 ((mq : Int) + 1)
            have Hs1 := hide hs1
            have Hmi := hide (manyIn_of (unhide HMq))
            have Hmi2 := hide (manyIn_of hs1)
            have ew : IntKind.i64.wrap ((mq : Int) + 1) = (mq : Int) + 1 := IntWalk.i64_in _ (by omega)
            have hK5 := (hKq.trans hK3).trans hs2
            clear hset5 hs1 hs2 hM3 m4 mf
            go_wp2
            go_roundw
            case rel => exact ⟨mq + 1, msq ++ [⟨(mq : Int), -1, 0, .rts⟩], by omega, by rw [List.length_append, List.length_singleton]; omega, unhide Hnew, unhide Hs1, hK5⟩
            case measure => rw [unhide Hmi, unhide Hmi2]; omega
          · obtain rfl : mq = 6 := by omega
            have Hend2 : Hid (msq = M) := hide (by rw [← unhide Heq, left_end, List.append_nil])
            have hbx0 := kboxLt hKq (unhide Hx0') (by omega)
            obtain ⟨vr, vl, vw, vt, hX⟩ := unhide HMq
            obtain ⟨pr, cr, rfl⟩ := own_shape hX.rr
            obtain ⟨pl, cl, rfl⟩ := own_shape hX.rl
            obtain ⟨pw, cw, rfl⟩ := own_shape hX.rw'
            obtain ⟨pt, ct, rfl⟩ := own_shape hX.rt
            obtain ⟨z0, z1, z2, z3, z4⟩ := hX.cells
            have hlz := lt_of_box hX.box
            have HX := hide hX
            have Hbx0 := hide hbx0
            have hBq : Below w.heap.size w _ := hB.trans (by
              have h1 := hKq.below (base := w.heap.size + 1) (by have := lt_of_box (unhide Hx1); omega)
              exact ⟨h1.os, h1.tape, h1.output, h1.size, fun k hk => h1.block k (by omega)⟩)
            clear hX hbx0 m4 mf
            simp only [List.length_map] at z0 z1 z2 z3 z4 HX
            go_wp2_with (refine wpList_store_row rfl 44 (.tmp 2) (.tmp 119) rfl w.heap.size #[.slice pr msq.length cr, .slice pl msq.length cl, .slice pw msq.length cw, .slice pt msq.length ct, .int .i64 6] rfl rfl 44 #[.slice none 0 0, .slice none 0 0, .slice none 0 0, .slice none 0 0, .int .i64 0] (by exact unhide Hbx0) (by kernel_rfl) rfl (made_one _ _ _ _ _ _ _ _ _ _ _ _ _) ?_)
            refine bodyPost_ret (v := .agg #[.slice pr msq.length cr, .slice pl msq.length cl, .slice pw msq.length cw, .slice pt msq.length ct, .int .i64 6]) (by exact results_cell1 Tryz.results15 _ _ w.heap.size 44 _ _ _ rfl (by exact row_at (unhide Hbx0)) Tryz.underlying44 rfl (by kernel_rfl)) rfl ?_
            have hX := unhide HX
            refine ⟨_, rfl, ⟨_, _, _, _, rfl, ?_, ?_, ?_, ?_⟩, below_row hBq (Nat.le_refl _) _⟩
            · rw [← unhide Hend2]; exact row_kept hX.rr fun k hk => setRow_other _ _ _ _ (by have := (row_tag hX.rr hk).1; omega)
            · rw [← unhide Hend2]; exact row_kept hX.rl fun k hk => setRow_other _ _ _ _ (by have := (row_tag hX.rl hk).1; omega)
            · rw [← unhide Hend2]; exact row_kept hX.rw' fun k hk => setRow_other _ _ _ _ (by have := (row_tag hX.rw' hk).1; omega)
            · rw [← unhide Hend2]; exact row_kept hX.rt fun k hk => setRow_other _ _ _ _ (by have := (row_tag hX.rt hk).1; omega)
end Go.Proofs.YtegiloiojloaoaaGreatDoor
