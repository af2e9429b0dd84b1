/- The contracts of (*Plan).Names and of Names. -/
import Derived.Test.YtegiloiojloaoaaGreatDoorCWrg
import Derived.Test.YtegiloiojloaoaaGreatDoorCIter
import Derived.Test.YtegiloiojloaoaaGreatDoorCRch
set_option linter.unusedVariables false
set_option linter.unusedSimpArgs false
namespace Go.Proofs.YtegiloiojloaoaaGreatDoor
open Go.RowKit Go.Shelf Go.Sort Go.Maps

/-- The labels of lines, those that are none left out. -/
def labelsOf (lines : List Strd.Line) : List Strd.Bs := (lines.map (·.label)).filter (· != [])
def namesOf (lines : List Strd.Line) (st : List Int) : List (Strd.Bs × Int) := ((labelsOf lines).mergeSort leB).map fun n => (n, Strd.placeOf lines st n)
def nameCells (l : List (Strd.Bs × Int)) : List Value := (l.map fun p => [Value.string (bstr p.1), .int .i64 p.2]).flatten
def NamesAt (base : Nat) (w : World) (v : Value) (l : List (Strd.Bs × Int)) : Prop := w.ownsRow base 37 2 v l.length (nameCells l)
theorem NamesAt.below {base : Nat} {w w' : World} {v : Value} {l : List (Strd.Bs × Int)} (h : NamesAt base w v l) (hb : Below w.heap.size w w') : NamesAt base w' v l := ownsRow_below h hb
theorem nameCells_snoc (l : List (Strd.Bs × Int)) (p : Strd.Bs × Int) : nameCells (l ++ [p]) = nameCells l ++ [Value.string (bstr p.1), .int .i64 p.2] := by simp [nameCells]
theorem nameCells_len (l : List (Strd.Bs × Int)) : (nameCells l).length = l.length * 2 := by
  induction l with
  | nil => rfl
  | cons p l ih => simp only [nameCells, List.map_cons, List.flatten_cons, List.length_append, List.length_cons, List.length_nil] at ih ⊢; omega
theorem mem_labels (lines : List Strd.Line) (n : Strd.Bs) : n ∈ labelsOf lines ↔ n ≠ [] ∧ ∃ l ∈ lines, l.label = n := by
  unfold labelsOf
  rw [List.mem_filter, List.mem_map]
  constructor
  · rintro ⟨⟨l, h1, h2⟩, h3⟩
    exact ⟨by simpa using h3, l, h1, h2⟩
  · rintro ⟨h3, l, h1, h2⟩
    exact ⟨⟨l, h1, h2⟩, by simpa using h3⟩
theorem labels_nodup (lines : List Strd.Line) (h : Strd.Fresh lines) : (labelsOf lines).Nodup := by
  unfold labelsOf
  rw [List.Nodup, List.pairwise_filter, List.pairwise_map]
  exact h.imp fun h0 h1 _ => h0 (by simpa using h1)
theorem hasLabel_mem (lines : List Strd.Line) (n : Strd.Bs) : Strd.hasLabel lines n = true ↔ n ∈ labelsOf lines := by
  rw [mem_labels]
  unfold Strd.hasLabel
  rw [Bool.and_eq_true, List.any_eq_true]
  simp
/-- The keys of the labels' map are the labels. -/
theorem keys_labels {w : World} {gm n : Nat} {lines : List Strd.Line} {D : DataW Unit} (hown : w.ownsMap Tryz.prog 9 (plainElem Tryz.prog 3) gm n D) (hhas : ∀ s : Strd.Bs, Maps.has D (.string s) = Strd.hasLabel lines s) (hf : Strd.Fresh lines) : (labelsOf lines).Perm (strKeys D) := by
  obtain ⟨es, hD, hpw, _⟩ := hown.entries law9
  obtain ⟨es', hD', hko⟩ := hown.keysOf
  obtain rfl : es = es' := by rw [hD] at hD'; simpa using hD'
  subst hD
  exact perm_strKeys hpw (fun p hp => by obtain ⟨v, hv⟩ := hko p hp; obtain ⟨x, _, hx, _⟩ := Maps.keyOf_str Tryz.underlying9 hv; exact ⟨x, hx⟩) (labels_nodup lines hf) (fun x => by rw [hhas]; exact (hasLabel_mem lines x).symm)
theorem keys_size {H : Type} (D : DataW H) : (strKeys D).length = Maps.size D := by
  cases D <;> simp [strKeys, Maps.size]
theorem sorted_c (gm nn : Nat) (D0 : DataW Unit) (w : World) (hown : w.ownsMap Tryz.prog 9 (plainElem Tryz.prog 3) gm nn D0) (hmax : Maps.size D0 ≤ 2 ^ 20) :
    Calls Tryz.prog 44 #[.func (.func 82) #[] #[.pointer (some ⟨w.heap.size, 0, none⟩)]] (w.alloc (.cells #[.map (some gm)] 62)) fun e w' => ∃ (v : Value), e = .returned v ∧
      w'.ownsRow (w.alloc (.cells #[.map (some gm)] 62)).heap.size 9 1 v (Maps.size D0) (((strKeys D0).mergeSort leB).map encStr) ∧ Below (w.alloc (.cells #[.map (some gm)] 62)).heap.size (w.alloc (.cells #[.map (some gm)] 62)) w' := by
  refine ((callsIn_wide (n := 5)).1 (Tryz.slices_Sorted_keys_44_45 gm nn D0 _ w hown (by unfold maxLen; omega) (by omega))).mono ?_
  rintro e w' ⟨v, ss, rfl, hS, hrow, _, hb⟩
  refine ⟨v, rfl, ?_, hb⟩
  have h1 := mergeSort_of_perm hS
  have h2 : ss.length = Maps.size D0 := by rw [hS.length_eq, keys_size]
  rw [h2] at hrow
  rw [← h1]
  exact hrow
theorem keys_c (gm : Nat) (W : World) : Calls Tryz.prog 45 #[.map (some gm)] W fun e w' => e = .returned (.func (.func 82) #[] #[.pointer (some ⟨W.heap.size, 0, none⟩)]) ∧ w' = W.alloc (.cells #[.map (some gm)] 62) :=
  (callsIn_wide (n := 5)).1 (Tryz.maps_Keys_45 (some gm) W)
set_option maxHeartbeats 400000 in
theorem clone_c (s : ByteArray) (w : World) (hs : s.size ≤ 2 ^ 20) : Calls Tryz.prog 46 #[.string s] w fun e w' => e = .returned (.string s) ∧ Below w.heap.size w w' := by
  go_enter Tryz.func46, Tryz.ntmps46
  go_wp2_with fail
  refine (Tryz.stringslite_Clone s _ (by omega)).mono ?_
  rintro e w1 ⟨rfl, hb⟩
  go_wp2
  go_ret
  exact ⟨rfl, hb⟩
theorem Tryz.info37 : (Tryz.prog.info? 37).map (fun i => (i.zero, i.size, i.bytes)) = some (some (.agg #[.string ⟨#[]⟩, .int .i64 0]), 2, 24) := by kernel_rfl
theorem cells_two_new (w : World) (x y : Value) (e : TypeId) : ∀ j u, [x, y][j]? = some u → (w.alloc (.cells #[x, y] e)).cell? ((⟨w.heap.size, 0, none⟩ : Addr).add j) = some u := fun j u h => by
  rw [Addr.add_lit, Nat.zero_add, box_cell (box_new w (.cells #[x, y] e)) j, List.getElem?_toArray]
  exact h
theorem two_one (s : Strd.Bs) (n : Int) : ∀ u ∈ [Value.string (bstr s), .int .i64 n], u.oneCell' = true := by
  intro u hu
  simp only [List.mem_cons, List.not_mem_nil, or_false] at hu
  rcases hu with rfl | rfl <;> rfl
theorem row_base {w : World} {b b' n size : Nat} {e : TypeId} {v : Value} {xs : List Value} (h : w.ownsRow b e size v n xs) (hb : b' ≤ b) : w.ownsRow b' e size v n xs := by
  refine ⟨h.1, ?_⟩
  rcases h.2 with h0 | ⟨g, cap, cur, rfl, h1, h2⟩
  · exact .inl h0
  · exact .inr ⟨g, cap, cur, rfl, Nat.le_trans hb h1, h2⟩
theorem sorted_name {w : World} {base n : Nat} {v : Value} {ss : List Strd.Bs} (h : w.ownsRow base 9 1 v n (ss.map encStr)) (k : Nat) (hk : k < ss.length) : ∃ g cap, v = .slice (some ⟨g, 0, none⟩) n cap ∧ g < w.heap.size ∧ w.cell? ⟨g, k, none⟩ = some (.string (bstr ss[k])) := by
  rcases h.2 with ⟨rfl, h0⟩ | ⟨g, cap, cur, rfl, hb, hx, h1, h2, h3, h4⟩
  · have := h.1
    rw [List.length_map] at this
    omega
  · refine ⟨g, cap, rfl, lt_of_box hx, ?_⟩
    have hl := h.1
    rw [List.length_map] at hl
    rw [box_cell hx k]
    have : (cur.toList.take (n * 1))[k]? = some (encStr ss[k]) := by rw [h4, List.getElem?_map, List.getElem?_eq_getElem hk]; rfl
    rw [List.getElem?_take, if_pos (by omega), Array.getElem?_toList] at this
    exact this
set_option maxRecDepth 1000000 in
set_option maxHeartbeats 4000000 in
theorem PNames_c (base gp : Nat) (r : Strd.Rd) (fs st : List Int) (w : World) (hP : PlanAt base w gp r fs st) (hlen : r.lines.length ≤ 2 ^ 20) (hfr : Strd.Fresh r.lines) (hnm : ∀ l ∈ r.lines, l.label.length ≤ 2 ^ 20) :
    Calls Tryz.prog 32 #[.pointer (some ⟨gp, 0, none⟩)] w fun e w' => ∃ v, e = .returned v ∧ NamesAt w.heap.size w' v (namesOf r.lines st) ∧ Below w.heap.size w w' := by
  have HP := hide hP
  obtain ⟨⟨p, cap, gm, qs, vf, vs, hbx, _, hLab, _, hf, hs⟩, _, _, _⟩ := hP
  obtain ⟨D, hown, hhas, hat⟩ := hLab
  have hperm := keys_labels hown hhas hfr
  have hsz : Maps.size D = (labelsOf r.lines).length := by rw [← keys_size, hperm.length_eq]
  have hll : (labelsOf r.lines).length ≤ 2 ^ 20 := Nat.le_trans (List.length_filter_le _ _) (by rw [List.length_map]; exact hlen)
  have hsort : (strKeys D).mergeSort leB = (labelsOf r.lines).mergeSort leB := (mergeSort_of_perm hperm).symm
  have hslen : ((labelsOf r.lines).mergeSort leB).length = Maps.size D := by rw [hsz]; exact (List.mergeSort_perm _ _).length_eq
  have hmem : ∀ n ∈ (labelsOf r.lines).mergeSort leB, n ≠ [] ∧ n.length ≤ 2 ^ 20 := fun n hn => by
    have h1 := (mem_labels r.lines n).1 ((List.mergeSort_perm _ _).mem_iff.1 hn)
    obtain ⟨h2, l, h3, h4⟩ := h1
    exact ⟨h2, by rw [← h4]; exact hnm l h3⟩
  have HNm : Hid (namesOf r.lines st = ((labelsOf r.lines).mergeSort leB).map fun n => (n, Strd.placeOf r.lines st n)) := hide rfl
  generalize namesOf r.lines st = NM at *
  generalize (labelsOf r.lines).mergeSort leB = ss at *
  have hN : Maps.size D ≤ 2 ^ 20 := by omega
  have Hown := hide hown
  have Hsort := hide hsort
  have Hmem := hide hmem
  have Hbx := hide hbx
  have c2 := box_cell hbx 2
  simp only [List.getElem?_toArray, List.getElem?_cons_zero, List.getElem?_cons_succ] at c2
  have hgl := lt_of_box hbx
  have hlenm := hown.len Tryz.underlying62
  generalize hMS : Maps.size D = N at *
  have HMS := hide hMS
  clear hperm hsort hown hhas hat hsz hll hmem hbx hf hs hMS
  obtain ⟨i0, hi, hz0, hz1, hz2⟩ := info_parts Tryz.info37
  go_enter Tryz.func32, Tryz.ntmps32
  go_wp2_with (at_make; refine wpList_make_own _ rfl _ _ 33 rfl w.heap.size 37 i0 (.agg #[.string ⟨#[]⟩, .int .i64 0]) 2 Tryz.underlying33 hi hz0 hz1 .i64 .i64 _ N rfl rfl rfl (by rw [hz2]; omega) (by unfold maxLen; omega) (Nat.le_refl _) ?_; intro w1 hrow0 hgrow0; have hb1 : Below w.heap.size w w1 := ⟨hgrow0.os, hgrow0.tape, hgrow0.output, hgrow0.size, fun k hk => hgrow0.block k hk (by simp)⟩; have Hrow0 := hide hrow0; have c2' := (hb1.cell (p := ⟨gp, 2, none⟩) hgl).trans c2; have hgl1 := Nat.lt_of_lt_of_le hgl hb1.size; clear hrow0 hgrow0)
  refine (keys_c gm w1).mono ?_
  rintro e w2 ⟨rfl, hw2⟩
  have Hown1 := hide (ownsMap_block (unhide Hown) (hb1.block gm (unhide Hown).lt))
  have csort := sorted_c gm _ D w1 (unhide Hown1) (by rw [unhide HMS]; omega)
  rw [unhide HMS, unhide Hsort] at csort
  rw [← hw2] at csort
  have hb2 : Below w1.heap.size w1 w2 := by rw [hw2]; exact below_a _ _
  have Csort := hide csort
  clear hw2 csort
  go_wp2_with fail
  refine (unhide Csort).mono ?_
  rintro e w3 ⟨v3, rfl, hrow3, hb3⟩
  obtain ⟨p3, c3, rfl⟩ := own_shape hrow3
  have Hrow3 := hide hrow3
  have hB3 := below_t hb1 (below_t hb2 hb3)
  have Hr3 := hide (ownsRow_below (ownsRow_below (unhide Hrow0) hb2) hb3)
  clear hrow3
  go_wp2_with fail
  have Hs3 := hide (row_base (unhide Hrow3) (Nat.le_trans hb1.size hb2.size))
  go_loopw [3, 21] (fun c4 c21 wr => ∃ k : Nat, k ≤ N ∧ World.ownsRow wr w.heap.size 37 2 c4 k (nameCells (NM.take k)) ∧ c21 = .int .i64 k ∧ Below w.heap.size w wr ∧ World.ownsRow wr w.heap.size 9 1 (.slice p3 N c3) N (ss.map encStr)) (fun _ c _ => N - (intOf c).toNat)
  case atStart => exact ⟨0, by omega, unhide Hr3, rfl, hB3, unhide Hs3⟩
  case round =>
    obtain ⟨k, hk, hrow, rfl, hbr, hsr⟩ := hrel
    have Hrow := hide hrow
    have Hsr := hide hsr
    obtain ⟨p4, c4, rfl⟩ := own_shape hrow
    have hslen' := hslen
    by_cases hlt : k < N
    · have hltI : (k : Int) < (N : Int) := by omega
      obtain ⟨g3, cap3, hv3, hg3, hc3⟩ := sorted_name hsr k (by rw [hslen]; exact hlt)
      have Hsn : Hid (NM.take (k + 1) = NM.take k ++ [(ss[k]'(by rw [hslen]; exact hlt), Strd.placeOf r.lines st (ss[k]'(by rw [hslen]; exact hlt)))]) := hide (by
        have hl : NM.length = N := by rw [unhide HNm, List.length_map, hslen]
        rw [List.take_succ_eq_append_getElem (by rw [hl]; exact hlt)]
        congr 2
        have : NM[k]? = some (ss[k]'(by rw [hslen]; exact hlt), Strd.placeOf r.lines st (ss[k]'(by rw [hslen]; exact hlt))) := by
          rw [unhide HNm, List.getElem?_map, List.getElem?_eq_getElem (by rw [hslen]; exact hlt)]; rfl
        rw [List.getElem?_eq_getElem (by rw [hl]; exact hlt)] at this
        exact Option.some.inj this)
      have hname := unhide Hmem _ (List.getElem_mem (l := ss) (n := k) (by rw [hslen]; exact hlt))
      have hntk : (NM.take k).length = k := by rw [List.length_take, unhide HNm, List.length_map, hslen]; omega
      generalize ss[k]'(by rw [hslen]; exact hlt) = nm at *
      obtain ⟨hn0, hnl⟩ := hname
      have Hn0 := hide hn0
      simp only [Value.slice.injEq] at hv3
      obtain ⟨hp3, _, hc3'⟩ := hv3
      subst hp3
      have hwk : IntKind.i64.wrap ((k : Int) + 1) = (k : Int) + 1 := IntWalk.i64_in _ (by omega)
      clear hrow hsr hslen hslen' hn0 hc3' hntk
      go_wp2_with fail
      refine (clone_c (bstr nm) wr (by rw [bstr_size]; exact hnl)).mono ?_
      rintro e w4 ⟨rfl, hb4⟩
      have hB4 := below_t hbr hb4
      go_wp2_with fail
      refine (place_c base gp r fs st (bstr nm) w4 ((unhide HP).below hB4) (by rw [bstr_list]; exact unhide Hn0) (by rw [bstr_size]; exact hnl) (by omega)).mono ?_
      rintro e w5 ⟨rfl, hb5⟩
      rw [bstr_list]
      have hB5 := below_t hB4 hb5
      have Hrow5 := hide (ownsRow_below (ownsRow_below (unhide Hrow) hb4) hb5)
      have Hsr5 := hide (ownsRow_below (ownsRow_below (unhide Hsr) hb4) hb5)
      generalize Strd.placeOf r.lines st nm = pl at *
      go_wp2_with (first | (at_builtin; refine wpList_append_own _ rfl _ _ 33 rfl w.heap.size 37 i0 (.agg #[.string ⟨#[]⟩, .int .i64 0]) 2 24 Tryz.underlying33 hi hz0 hz1 hz2 rfl (by decide) _ _ _ rfl ((unhide Hrow5).alloc _) ⟨w5.heap.size, 0, none⟩ 1 1 [.string (bstr nm), .int .i64 pl] ?cx rfl ?c1 ?c2 ?c3 ?c4 ?c5 ?_) | go_in)
      case cx => rfl
      case c1 => exact cells_two_new _ _ _ _
      case c2 => exact two_one _ _
      case c3 => unfold maxLen; omega
      case c4 => omega
      case c5 => rw [World.size_alloc]; have := hB5.size; omega
      intro v6 w6 hown hgrow _
      have hb6 : Below w.heap.size w w6 := Below.grown (hB5.alloc hB5.size _) hgrow (by rw [World.size_alloc]; have := hB5.size; omega) (fun k e => by have := ((unhide Hrow5).lt _ e).1; omega)
      have Hs6 : Hid (World.ownsRow w6 w.heap.size 9 1 (.slice (some ⟨g3, 0, none⟩) N c3) N (ss.map encStr)) := hide (row_kept ((unhide Hsr5).alloc _) (fun k' hk' => by
        refine hgrow.block k' ?_ (fun e => ?_)
        · exact ((((unhide Hsr5).alloc _).lt) k' hk').2
        · exact dis_tags (unhide Hrow5) (unhide Hsr5) (by decide) k' e.symm hk'))
      clear hgrow
      go_wp2
      go_roundw
      case rel =>
        refine ⟨k + 1, by omega, ?_, by go_num, hb6, unhide Hs6⟩
        rw [unhide Hsn, nameCells_snoc]
        exact hown
      case measure => simp [intOf]; omega
    · have hltI : ¬ (k : Int) < (N : Int) := by omega
      obtain rfl : k = N := by omega
      have Hfin : Hid (NamesAt w.heap.size wr (.slice p4 k c4) NM) := hide (by
        have hl : NM.length = k := by rw [unhide HNm, List.length_map, hslen]
        unfold NamesAt
        have := unhide Hrow
        rw [List.take_of_length_le (by omega)] at this
        rw [hl]
        exact this)
      clear hrow hsr
      go_wp2
      go_ret
      exact ⟨_, rfl, unhide Hfin, hbr⟩
/-- Labels of what is read: none twice, none longer than the source. -/
structure LabR (r : Strd.Rd) (n : Nat) : Prop where
  fresh : Strd.Fresh r.lines
  short : ∀ l ∈ r.lines, l.label.length ≤ n
theorem add_labR (r : Strd.Rd) (t : Strd.Bs) (n : Nat) (ht : t.length ≤ n) (h : LabR r n) : LabR (Strd.add r t).1 n := by
  unfold Strd.add
  split
  · exact h
  · rename_i l hl
    split
    · exact h
    · rename_i hh
      split
      · exact h
      · simp only
        split
        · exact h
        · refine ⟨List.pairwise_append.2 ⟨h.fresh, List.pairwise_singleton _ _, fun a ha b hb h0 e => ?_⟩, fun x hx => ?_⟩
          · rw [List.mem_singleton] at hb
            subst hb
            apply hh
            unfold Strd.hasLabel
            rw [Bool.and_eq_true, List.any_eq_true]
            exact ⟨by rw [← e]; simpa using h0, a, ha, by rw [e]; simp⟩
          · rcases List.mem_append.1 hx with hx | hx
            · exact h.short x hx
            · rw [List.mem_singleton] at hx
              subst hx
              exact Nat.le_trans (readLine_label t _ hl) ht
theorem addAll_labR : ∀ (ts : List Strd.Bs) (k : Nat) (r : Strd.Rd) (n : Nat), (∀ t ∈ ts, t.length ≤ n) → LabR r n → LabR (Strd.addAll k r ts).1 n
  | [], _, _, _, _, h => h
  | t :: ts, k, r, n, ht, h => by
    have h1 := add_labR r t n (ht t (by simp)) h
    unfold Strd.addAll
    simp only
    split
    · exact addAll_labR ts _ _ n (fun x hx => ht x (by simp [hx])) h1
    · exact h1
theorem source_labR (s : Strd.Bs) : LabR (Strd.readSource s).1 4000 := by
  unfold Strd.readSource
  split
  · exact ⟨List.Pairwise.nil, fun l hl => by cases hl⟩
  · rename_i hs
    have h := split_len 10 s
    exact addAll_labR _ 0 _ _ (fun t ht => by have := h.2.1 t ht; omega) ⟨List.Pairwise.nil, fun l hl => by cases hl⟩
/-- What Names answers. -/
def namesAns (s : Strd.Bs) : List (Strd.Bs × Int) := if (layOutOf s).2.2 ≠ 0 then [] else namesOf (Strd.readSource s).1.lines (layOutOf s).1.2
set_option maxRecDepth 1000000 in
set_option maxHeartbeats 4000000 in
theorem Names_c (s : ByteArray) (w : World) (hs : s.size ≤ 2 ^ 20) (h11 : 11 ≤ w.heap.size) (hT : Tabs w) :
    Calls Tryz.prog 13 #[.string s] w fun e w' => ∃ v, e = .returned (.tuple #[v, .int .i64 (layOutOf s.data.toList).2.1, .int .i64 (layOutOf s.data.toList).2.2]) ∧ NamesAt w.heap.size w' v (namesAns s.data.toList) ∧ ((layOutOf s.data.toList).2.2 ≠ 0 → v = .slice none 0 0) ∧ Below w.heap.size w w' := by
  have hlab := source_labR s.data.toList
  have hWr := source_wfR s.data.toList
  have CL := hide (layOut_c s w hs h11 hT)
  have Hln : Hid ((layOutOf s.data.toList).2.2 = 0 → (layOutOf s.data.toList).2.1 = 0) := hide (fun h => by rw [layOut_ok _ h])
  have HA : Hid (namesAns s.data.toList = if (layOutOf s.data.toList).2.2 ≠ 0 then [] else namesOf (Strd.readSource s.data.toList).1.lines (layOutOf s.data.toList).1.2) := hide rfl
  generalize namesAns s.data.toList = NA at *
  generalize layOutOf s.data.toList = Y at *
  generalize (Strd.readSource s.data.toList).1 = r at *
  obtain ⟨⟨fs, st⟩, ln, er⟩ := Y
  simp only at CL HA Hln ⊢
  go_enter Tryz.func13, Tryz.ntmps13
  go_wp2_with fail
  refine (unhide CL).mono ?_
  rintro e w1 ⟨ps, rfl, ⟨o3, p3, n3, c3, m3, p4, n4, c4, p5, n5, c5, rfl⟩, hpv, hb1⟩
  have hb2 := below_a w1 (.cells #[.int .i64 o3, .slice p3 n3 c3, .map m3, .slice p4 n4 c4, .slice p5 n5 c5] 67)
  have Hg := hide (box_new w1 (.cells #[.int .i64 o3, .slice p3 n3 c3, .map m3, .slice p4 n4 c4, .slice p5 n5 c5] 67))
  have HPl : Hid (er = 0 → ∃ base, PlanAt base (w1.alloc (.cells #[.int .i64 o3, .slice p3 n3 c3, .map m3, .slice p4 n4 c4, .slice p5 n5 c5] 67)) w1.heap.size r fs st) := hide fun h => by
    obtain ⟨base, _, h2, p, cap, gm, qs, vf, vs, e, hL, hLab, hgm, hf, hs', h8, h9⟩ := hpv h
    rw [e] at hb2 Hg ⊢
    exact ⟨base, ⟨p, cap, gm, qs, vf, vs, unhide Hg, hL.below hb2, hLab.below hb2, hgm, hf.below hb2, hs'.below hb2⟩, h2, h8, h9⟩
  clear hpv
  by_cases her : er = 0
  · subst her
    obtain ⟨base, hPl⟩ := unhide HPl rfl
    have HP := hide hPl
    have Hna : Hid (namesOf r.lines st = NA) := hide (by rw [unhide HA]; simp)
    have hln := unhide Hln rfl
    subst hln
    have hB2 := below_t hb1 hb2
    clear HPl HA hPl Hln
    go_upto_region 4 with fail
    generalize w1.alloc (.cells #[.int .i64 o3, .slice p3 n3 c3, .map m3, .slice p4 n4 c4, .slice p5 n5 c5] 67) = w2 at *
    generalize w1.heap.size = g at *
    go_wp2_with fail
    refine (PNames_c base g r fs st w2 (unhide HP) hWr.len hlab.fresh (fun l hl => Nat.le_trans (hlab.short l hl) (by omega))).mono ?_
    rintro e w3 ⟨v, rfl, hN, hb3⟩
    have hB3 := below_t hB2 hb3
    have HN : Hid (NamesAt w.heap.size w3 v NA) := hide (by rw [← unhide Hna]; exact row_base hN hB2.size)
    clear hN
    go_wp2
    refine bodyPost_ret (v := .tuple #[v, .int .i64 0, .int .i64 0]) (by simp [results, Tryz.results13]) rfl ?_
    exact ⟨v, rfl, unhide HN, fun h => (h rfl).elim, hB3⟩
  · have Hna : Hid (NA = []) := hide (by rw [unhide HA, if_pos her])
    clear HA HPl
    go_wp2
    refine bodyPost_ret (v := .tuple #[.slice none 0 0, .int .i64 (ln : Int), .int .i64 er]) (by simp [results, Tryz.results13]) rfl ?_
    exact ⟨_, rfl, by rw [unhide Hna]; exact World.ownsRow_nil _ _ _ _, fun _ => rfl, below_t hb1 hb2⟩
end Go.Proofs.YtegiloiojloaoaaGreatDoor
