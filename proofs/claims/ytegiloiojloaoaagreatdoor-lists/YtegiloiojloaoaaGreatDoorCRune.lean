/- strings.IndexRune of a sign beyond ASCII in a text of ASCII. -/
import Derived.Test.YtegiloiojloaoaaGreatDoorCSigns
import Derived.Deep.QuietTactic
import Derived.BigQuiet
set_option linter.unusedVariables false
set_option linter.unusedSimpArgs false
namespace Go.Proofs.YtegiloiojloaoaaGreatDoor
open Go.RowKit Go.Shelf

theorem dec3_valid (a : Nat) (t : Strd.Bs) : Utf8.valid ((dec3 a t).1 : Int) = true := by
  rw [valid_iff]
  unfold dec3
  simp only [Bool.and_eq_true, beq_iff_eq, decide_eq_true_eq, valid_iff, ge_iff_le]
  repeat' split
  all_goals (dsimp only; omega)

set_option maxRecDepth 1000000 in
set_option maxHeartbeats 2000000 in
theorem IndexRune_error (s : ByteArray) (w : World) (hs : s.size ≤ 1000) (hascii : ∀ b ∈ s.data.toList, b.toNat < 128) :
    Calls Tryz.prog 198 #[.string s, .int .i32 65533] w fun e w' => e = .returned (.int .i64 (-1)) ∧ Below w.heap.size w w' := by
  have Hascii := hide hascii
  clear hascii
  go_enter Tryz.func198, Tryz.ntmps198
  go_wp2
  go_loopw [] (fun wr => ∃ (pos : Nat), pos ≤ s.size ∧ wr.heap[w.heap.size]? = some (.stringIter s pos) ∧ Below w.heap.size w wr) (fun wr => s.size - wr.iterPos w.heap.size)
  case atStart => exact ⟨0, by omega, World.iter_heap _ _ _, below_a _ _⟩
  case round =>
    obtain ⟨pos, hpos, hit, hbl⟩ := hrel
    have Hit := hide hit
    have hip := iterPos_of hit
    by_cases hlt : pos < s.size
    · obtain ⟨a, r, d, ha, he, hdec, hd1, hd2, hr, hcase⟩ := sign_step s pos hlt
      have hnx := fun ty => Lib.run_next_any_at (P := Tryz.prog) wr w.heap.size s pos ty hit hlt
      rw [hdec] at hnx
      dsimp only at hnx
      have ha2 : a.toNat < 128 := unhide Hascii a (List.mem_of_getElem? ha)
      have hre : ((r : Int) == 65533) = false := by
        rw [beq_eq_false_iff_ne]; omega
      clear hit hcase ha he hdec
      go_wp2
      go_roundw
      case rel => exact ⟨pos + d, hd2, Lib.iterAt_heap _ _ _ _ _ (unhide Hit), Lib.below_iterAt hbl (Nat.le_refl _) _ _⟩
      case measure => rw [iterPos_of (Lib.iterAt_heap _ _ _ _ _ (unhide Hit)), hip]; omega
    · have hnx := fun ty => Lib.run_next_end_at (P := Tryz.prog) wr w.heap.size s pos ty hit hlt
      clear hit
      go_wp2
      go_ret
      exact ⟨rfl, hbl⟩

theorem indexByte_none : ∀ (l : Strd.Bs) (c : UInt8), (∀ b ∈ l, b ≠ c) → Lib.indexByte l c = -1
  | [], _, _ => rfl
  | b :: t, c, h => by
    have hb : (b == c) = false := by simpa using h b (by simp)
    rw [Lib.indexByte, hb, indexByte_none t c (fun x hx => h x (by simp [hx]))]
    rfl

set_option maxRecDepth 1000000 in
set_option maxHeartbeats 2000000 in
theorem IndexRune_valid (s : ByteArray) (r : Nat) (w : World) (hs0 : 4 ≤ s.size) (hs : s.size ≤ 1000) (hascii : ∀ b ∈ s.data.toList, b.toNat < 128) (hr : 128 ≤ r) (hr2 : r ≤ 0x10FFFF) (hne : r ≠ 65533) (hv : Utf8.valid (r : Int) = true) :
    Calls Tryz.prog 198 #[.string s, .int .i32 (r : Int)] w fun e w' => e = .returned (.int .i64 (-1)) ∧ Below w.heap.size w w' := by
  have Hascii := hide hascii
  obtain ⟨he1, he2, he3⟩ := encode_facts (r : Int) hv (by omega)
  have He3 := hide he3
  have hvr := validRune_eq (r : Int)
  rw [hv] at hvr
  have Hvr := hide hvr
  clear he3 hvr
  have hne' : ((r : Int) == 65533) = false := by rw [beq_eq_false_iff_ne]; omega
  have H1 := hide he1
  have H2 := hide he2
  have Hr2 := hide hr2
  have h128 : (128 : Int) ≤ (r : Int) := by omega
  generalize (r : Int) = x at *
  clear hascii hne he1 he2 hv hr hr2
  go_enter Tryz.func198, Tryz.ntmps198
  go_wp2_with fail
  refine (Tryz.utf8_ValidRune _ _).mono ?_
  rintro e w' ⟨rfl, rfl⟩
  go_wp2
  · go_ret
    exact ⟨rfl, Below.refl _ _⟩
  · obtain ⟨rs, hrs⟩ : ∃ rs, Utf8.encode x = rs := ⟨_, rfl⟩
    rw [hrs] at H1 H2 He3
    obtain ⟨n, hn⟩ : ∃ n, rs.size = n + 1 := ⟨rs.size - 1, by have := unhide H1; omega⟩
    have hn1 : n ≤ 3 := by have := unhide H2; omega
    go_step3
    go_wp2
    refine wp_loop_rounds 1 ?_
    rw [rounds_succ]
    have b2 : n < s.size := by omega
    have b3 : (n : Int) < (n : Int) + 1 := by omega
    have b4 : (n : Int) < (s.size : Int) := by omega
    go_wp2
    go_step3
    go_wp2
    go_quiet (fail)
    go_wp2
    · have b5 : (n : Int) + 1 ≤ (s.size : Int) := by omega
      have b6 : n + 1 ≤ s.size := by omega
      have b7 : (0 : Int) ≤ (n : Int) + 1 := by omega
      have ew : IntKind.i64.wrap ((n : Int) + 1) = (n : Int) + 1 := IntWalk.i64_in _ (by omega)
      go_region_with (go_at_call 201; refine (Tryz.strings_IndexByte _ _ _).mono ?_; rintro e w1 ⟨rfl, rfl⟩)
      have h3 : 128 ≤ (rs[n]'(by omega)).toNat := by
        have := unhide He3 (by omega)
        simpa [hn] using this
      have H3 := hide h3
      clear h3
      generalize hix : Lib.indexByte _ _ = ix
      obtain rfl : ix = -1 := by
        rw [← hix]
        apply indexByte_none
        intro b hb he
        have h1 : b.toNat < 128 := unhide Hascii b (List.mem_of_mem_drop (List.mem_of_mem_take hb))
        have h2 := unhide H3
        rw [he] at h1
        first | omega | (simp at h1; omega)
      clear hix
      go_wp2
      simp only [Exit.noGoto_ret, Exit.inBlock, Exit.then]
      go_ret
      exact ⟨rfl, below_t (Below.refl _ _) ⟨rfl, rfl, rfl, Nat.le_refl _, fun _ _ => rfl⟩⟩
    · exfalso
      have h3 : 128 ≤ (rs[n]'(by omega)).toNat := by
        have := unhide He3 (by omega)
        simpa [hn] using this
      have h4 : (s[n]'b2).toNat < 128 := unhide Hascii _ (by rw [Array.mem_toList_iff]; exact Array.getElem_mem b2)
      have h5 : (((s[n]'b2).toNat : Int) != ((rs[n]'(by omega)).toNat : Int)) = false := by assumption
      simp at h5
      omega
end Go.Proofs.YtegiloiojloaoaaGreatDoor
