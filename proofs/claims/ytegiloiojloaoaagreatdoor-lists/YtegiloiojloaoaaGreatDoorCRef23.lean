/- The reference's bytes: jumps. -/
import Derived.Test.YtegiloiojloaoaaGreatDoorCRef19
import Derived.Lib.QuietBelow
import Derived.BigQuiet
set_option linter.unusedVariables false
set_option linter.unusedSimpArgs false
namespace Go.Proofs.YtegiloiojloaoaaGreatDoor
open Go.RowKit Go.Shelf Go.Sort Go.Maps

set_option maxRecDepth 1000000 in
set_option maxHeartbeats 8000000 in
theorem bytes_jump (base g i : Nat) (org en a : Int) (L : List Rf.Line) (qs : List (Rf.Line × Sl)) (Fs As : List Int) (labs : List (Strd.Bs × Int)) (w : World) (hP : Rf.PrgAt base w g org en L qs Fs As labs) (hi : i < L.length) (hok : Rf.LineOk L[i]) (hLn : L.length ≤ 2 ^ 30) (ha : -2^40 ≤ a ∧ a ≤ 2^40) (p0 : Strd.Bs) (ht : L[i].texts = [p0]) (hw : Rf.isJump L[i].word = true) (hFl : i < Fs.length) (hF : Fs.getD i 0 = 1 ∨ Fs.getD i 0 = 2 ∨ Fs.getD i 0 = 3) (hto : -2^40 ≤ Rf.toN labs p0 ∧ Rf.toN labs p0 ≤ 2^40) (hln : labs.length ≤ 2 ^ 40) :
    Calls Tryz.prog 79 #[.pointer (some ⟨g, 0, none⟩), .int .i64 (i : Int), .int .i64 a] w fun e w' => e = .returned (.string (bstr (Rf.bytes labs L[i] (Fs.getD i 0) a))) ∧ Below w.heap.size w w' := by
  obtain ⟨⟨pl, cl, pf, cf, pa, ca, pb, cb, hbx, hLs, hFs, hAs, hLb⟩, hgb⟩ := hP
  obtain ⟨bl, q, rfl, _, hbl, y0, y1, y2, y3, y4, hT⟩ := hLs.at i hi
  have c1 := box_cell hbx 1
  have c2 := box_cell hbx 2
  have c5 := box_cell hbx 5
  simp only [List.getElem?_toArray, List.getElem?_cons_zero, List.getElem?_cons_succ] at c1 c2 c5
  have hgl := lt_of_box hbx
  have hiI : (i : Int) < (L.length : Int) := by omega
  obtain ⟨pq, nq, cq⟩ := q
  obtain ⟨hnq, hST⟩ := hT
  simp only at y4 hnq hST
  have hwf := hok.wf
  generalize L[i] = l at *
  subst hnq
  have hlw := hwf.lens.2.1
  have hba : Below w.heap.size w (w.alloc (.cells #[.int .i64 l.no, .string (bstr l.label), .string (bstr l.word), .int .i64 l.form, .slice pq l.texts.length cq] 144)) := below_a _ _
  have Hbx := hide (box_new w (.cells #[.int .i64 l.no, .string (bstr l.label), .string (bstr l.word), .int .i64 l.form, .slice pq l.texts.length cq] 144))
  have HST := hide (StrsAt.below hST hba)
  have HPB := hide (bbox hba hbx)
  have HLB := hide (hLb.below hba)
  have x2 := box_cell (unhide Hbx) 2
  have x4 := box_cell (unhide Hbx) 4
  simp only [List.getElem?_toArray, List.getElem?_cons_zero, List.getElem?_cons_succ] at x2 x4
  have hxl := lt_of_box (unhide Hbx)
  have CT := hide (fun V => two_r l.word V)
  have CJ := hide (fun V => isJump_ref l.word V (by omega))
  have hn1 : l.texts.length = 1 := by rw [ht]; rfl
  obtain ⟨bt, rfl, _, hbt, t0⟩ := (unhide HST).at 0 (by omega)
  have e0 : l.texts[0]'(by omega) = p0 := by simp [ht]
  rw [e0] at t0
  have hl0 : (0 : Int) < (l.texts.length : Int) := by omega
  have hp0 : p0.length ≤ 2 ^ 20 := hwf.lens.2.2 p0 (by rw [ht]; simp)
  have ta0 : Rf.textAt l 0 = p0 := by unfold Rf.textAt; rw [ht]; rfl
  have hij : Rf.isJump l.word = true := hw
  rw [hij] at CJ
  have hne : ∀ w ∈ Strd.jumpWords ++ Strd.farWords.map (·.1), w ≠ [110, 111, 112] ∧ w ≠ [114, 116, 115] ∧ Rf.two w = 0 ∧ w ≠ [109, 111, 118, 101, 113] ∧ w ≠ [97, 100, 100, 105] := by decide +kernel
  obtain ⟨n1, n2, n3, n4, n5⟩ := hne _ (List.mem_append.2 ((Rf.isJump_mem _).1 hij))
  rw [n3] at CT
  have b1 : (l.word == [110, 111, 112]) = false := by rw [list_beq]; simp [n1]
  have b2 : (l.word == [114, 116, 115]) = false := by rw [list_beq]; simp [n2]
  have b3 : (l.word == [109, 111, 118, 101, 113]) = false := by rw [list_beq]; simp [n4]
  have b4 : (l.word == [97, 100, 100, 105]) = false := by rw [list_beq]; simp [n5]
  have hX : Rf.bytes labs l (Fs.getD i 0) a = Rf.jumpB l.word (Fs.getD i 0) a (Rf.toN labs p0) := by
    unfold Rf.bytes
    rw [if_neg n1, if_neg n2, n3, if_neg (by decide), if_neg n4, if_neg n5, if_pos hij, ta0]
  obtain ⟨bf, hpf, _, hbf, hcf⟩ := hFs.at i hFl
  cases hpf
  have hfg : Fs.getD i 0 = Fs[i] := by rw [List.getD_eq_getElem?_getD, List.getElem?_eq_getElem hFl]; rfl
  rw [← hfg] at hcf
  have hFI : (i : Int) < (Fs.length : Int) := by omega
  unfold Rf.toN at hX hto
  have C77 := hide (fun V h1 h2 h3 => to_ref labs p0 g base pb cb V h1 h2 h3 (by omega) hln)
  generalize hPL : (Rf.place labs p0).getD 0 = TO at *
  have CJP := hide (fun V => jump_ref l.word (Fs.getD i 0) a TO V (by omega) ha hto hF)
  generalize Rf.jumpB l.word (Fs.getD i 0) a TO = JB at *
  generalize Fs.getD i 0 = FF at *
  clear e0 ta0 hn1 ht hne n1 n2 n4 n5 hfg hPL
  have HX := hide hX
  generalize Rf.bytes labs l (Fs.getD i 0) a = X at *
  clear hX hwf hLs hFs hAs hLb hbx hST hok
  go_enter Tryz.func79, Tryz.ntmps79
  go_upto_region 2 with fail
  clear y0 y1 y2 y3 y4
  generalize w.alloc (.cells #[.int .i64 l.no, .string (bstr l.label), .string (bstr l.word), .int .i64 l.form, .slice (some ⟨bt, 0, none⟩) l.texts.length cq] 144) = W at *
  go_upto_region 22 with (first
    | (go_at_call 113; refine (unhide CT _).mono ?_; rintro e w1 ⟨rfl, hw1⟩; have hw1' := hw1.symm; subst hw1')
    | (go_at_call 75; refine (unhide CJ _).mono ?_; rintro e wj ⟨rfl, hbj⟩; have hBj := below_t hba hbj; have z2 := box_cell (bbox hbj (unhide Hbx)) 2; have z4 := box_cell (bbox hbj (unhide Hbx)) 4; simp only [List.getElem?_toArray, List.getElem?_cons_zero, List.getElem?_cons_succ] at z2 z4; have hzl := lt_of_box (bbox hbj (unhide Hbx)); have t0j := (hbj.cell (p := ⟨bt, 0, none⟩) hbt).trans t0; have hbtj := Nat.lt_of_lt_of_le hbt hbj.size; have hBX := below_t hba hbj; have g1j := bbox hbj (unhide HPB); have g2j := box_cell g1j 2; have g5j := box_cell g1j 5; simp only [List.getElem?_toArray, List.getElem?_cons_zero, List.getElem?_cons_succ] at g2j g5j; have hgj := lt_of_box g1j; have hLj := (unhide HLB).below hbj; have cfj := (hBX.cell (p := ⟨bf, i, none⟩) hbf).trans hcf; have hbfj := Nat.lt_of_lt_of_le hbf hBX.size))
  go_upto_region 24 with (go_at_call 77; refine (unhide C77 wj g5j hgj hLj).mono ?_; rintro e w3 ⟨rfl, hw3⟩; have hw3' := hw3.symm; subst hw3')
  have d2 := cell_regrown z2
  have k2 := cell_regrown g2j
  have kf := cell_regrown cfj
  have cJ : ∀ d os, Calls Tryz.prog 117 #[.string (bstr l.word), .int .i64 FF, .int .i64 a, .int .i64 TO] (grow (redrawn wj d) os) fun e w'' => e = .returned (.string (bstr JB)) ∧ ∃ p : Regrown, w'' = grow (redrawn wj p.d) p.os := fun d os => Calls.regrown_of (unhide CJP _)
  refine wp_region_quiet_below (by kernel_rfl) (by kernel_rfl) ?_
  repeat (go_big_quiet_step (first | exact cJ _ _))
  refine wpQuiet_nil ?_
  intro _ hw'
  obtain ⟨⟨dq, osq⟩, hw''⟩ := hw'
  subst hw''
  go_wp2
  go_ret
  exact ⟨by rw [unhide HX]; rfl, below_t hBj (below_regrown wj dq osq)⟩
end Go.Proofs.YtegiloiojloaoaaGreatDoor

set_option linter.unusedVariables false
set_option linter.unusedSimpArgs false
namespace Go.Proofs.YtegiloiojloaoaaGreatDoor
open Go.RowKit Go.Shelf Go.Sort Go.Maps

namespace Rf
def dcTo (w : Strd.Bs) (labs : List (Strd.Bs × Int)) (T : List Strd.Bs) (k : Nat) : Strd.Bs := ((T.take k).map fun t => dcB w (toN labs t)).flatten
theorem dcTo_succ (w : Strd.Bs) (labs : List (Strd.Bs × Int)) (T : List Strd.Bs) (k : Nat) (h : k < T.length) : dcTo w labs T (k + 1) = dcTo w labs T k ++ dcB w (toN labs T[k]) := by
  unfold dcTo
  rw [List.take_add_one, List.getElem?_eq_getElem h, Option.toList_some, List.map_append, List.flatten_append]
  simp only [List.map_cons, List.map_nil, List.flatten_cons, List.flatten_nil, List.append_nil]
theorem dcB_len (w : Strd.Bs) (v : Int) : (dcB w v).length ≤ 2 := by
  unfold dcB
  split
  · exact Nat.le_refl _
  · simp
theorem dcTo_len (w : Strd.Bs) (labs : List (Strd.Bs × Int)) (T : List Strd.Bs) : ∀ k, k ≤ T.length → (dcTo w labs T k).length ≤ 2 * k
  | 0, _ => by simp [dcTo]
  | k + 1, h => by
    have ih := dcTo_len w labs T k (by omega)
    have := dcB_len w (toN labs T[k])
    rw [dcTo_succ w labs T k (by omega), List.length_append]
    omega
theorem one_fresh (w : World) (x : Int) : BytesAt 0 (w.alloc (.cells #[.int .u8 (x % 256)] 5)) (.slice (some ⟨w.heap.size, 0, none⟩) 1 1) [Strd.byteB x] :=
  bytes_fresh w [Strd.byteB x] #[.int .u8 (x % 256)] (by simp [byteB_enc]) (by simp)
end Rf
set_option maxRecDepth 1000000 in
set_option maxHeartbeats 8000000 in
theorem bytes_dcw (base g i : Nat) (org en a : Int) (L : List Rf.Line) (qs : List (Rf.Line × Sl)) (Fs As : List Int) (labs : List (Strd.Bs × Int)) (w : World) (hP : Rf.PrgAt base w g org en L qs Fs As labs) (hi : i < L.length) (hok : Rf.LineOk L[i]) (hLn : L.length ≤ 2 ^ 30) (F : Int) (hln : labs.length ≤ 2 ^ 40) (hn8 : L[i].texts.length ≤ 8) (hw : L[i].word = [100, 99, 46, 119]) :
    Calls Tryz.prog 79 #[.pointer (some ⟨g, 0, none⟩), .int .i64 (i : Int), .int .i64 a] w fun e w' => e = .returned (.string (bstr (Rf.bytes labs L[i] F a))) ∧ Below w.heap.size w w' := by
  obtain ⟨⟨pl, cl, pf, cf, pa, ca, pb, cb, hbx, hLs, hFs, hAs, hLb⟩, hgb⟩ := hP
  obtain ⟨bl, q, rfl, _, hbl, y0, y1, y2, y3, y4, hT⟩ := hLs.at i hi
  have c1 := box_cell hbx 1
  have c2 := box_cell hbx 2
  have c5 := box_cell hbx 5
  simp only [List.getElem?_toArray, List.getElem?_cons_zero, List.getElem?_cons_succ] at c1 c2 c5
  have hgl := lt_of_box hbx
  have hiI : (i : Int) < (L.length : Int) := by omega
  obtain ⟨pq, nq, cq⟩ := q
  obtain ⟨hnq, hST⟩ := hT
  simp only at y4 hnq hST
  have hwf := hok.wf
  generalize L[i] = l at *
  subst hnq
  have hlw := hwf.lens.2.1
  have hba : Below w.heap.size w (w.alloc (.cells #[.int .i64 l.no, .string (bstr l.label), .string (bstr l.word), .int .i64 l.form, .slice pq l.texts.length cq] 144)) := below_a _ _
  have Hbx := hide (box_new w (.cells #[.int .i64 l.no, .string (bstr l.label), .string (bstr l.word), .int .i64 l.form, .slice pq l.texts.length cq] 144))
  have HST := hide (StrsAt.below hST hba)
  have HPB := hide (bbox hba hbx)
  have HLB := hide (hLb.below hba)
  have x2 := box_cell (unhide Hbx) 2
  have x4 := box_cell (unhide Hbx) 4
  simp only [List.getElem?_toArray, List.getElem?_cons_zero, List.getElem?_cons_succ] at x2 x4
  have hxl := lt_of_box (unhide Hbx)
  have CT := hide (fun V => two_r l.word V)
  have CJ := hide (fun V => isJump_ref l.word V (by omega))
  have Htw : Rf.two l.word = 0 := by rw [hw]; rfl
  have Hij : Rf.isJump l.word = false := by rw [hw]; decide +kernel
  rw [Hij] at CJ
  rw [Htw] at CT
  have hX : Rf.bytes labs l F a = Rf.dcTo [100, 99, 46, 119] labs l.texts l.texts.length := by
    unfold Rf.bytes Rf.dcTo
    rw [hw, List.take_length]
    rfl
  have hTl := hwf.lens.2.2
  rw [hw] at *
  have Hsu := hide (Rf.dcTo_succ [100, 99, 46, 119] labs l.texts)
  have Hle := hide (Rf.dcTo_len [100, 99, 46, 119] labs l.texts)
  have HTl := hide hTl
  clear hw hTl
  have HX := hide hX
  generalize Rf.bytes labs l F a = X at *
  clear hX hwf hLs hFs hAs hLb hbx hST hok
  go_enter Tryz.func79, Tryz.ntmps79
  go_upto_region 2 with fail
  clear y0 y1 y2 y3 y4
  generalize w.alloc (.cells #[.int .i64 l.no, .string (bstr l.label), .string (bstr l.word), .int .i64 l.form, .slice pq l.texts.length cq] 144) = W at *
  go_upto_region 26 with (first
    | (go_at_call 113; refine (unhide CT _).mono ?_; rintro e w1 ⟨rfl, hw1⟩; have hw1' := hw1.symm; subst hw1')
    | (go_at_call 75; refine (unhide CJ _).mono ?_; rintro e wj ⟨rfl, hbj⟩; have hBj := below_t hba hbj; have z2 := box_cell (bbox hbj (unhide Hbx)) 2; have z4 := box_cell (bbox hbj (unhide Hbx)) 4; simp only [List.getElem?_toArray, List.getElem?_cons_zero, List.getElem?_cons_succ] at z2 z4; have hzl := lt_of_box (bbox hbj (unhide Hbx)); have HSj := hide ((unhide HST).below hbj)))
  have hBX := below_t hba hbj
  have g1j := bbox hbj (unhide HPB)
  have hLj := (unhide HLB).below hbj
  have HSj2 := HSj
  clear CT CJ x2 x4 c1 c2 c5 HST HPB HLB
  generalize hTT : l.texts = T at *
  go_wp2
  go_loopw [24, 25] (fun c24 c25 wr => ∃ k : Nat, k ≤ T.length ∧ c25 = .int .i64 k ∧ c24 = .string (bstr (Rf.dcTo [100, 99, 46, 119] labs T k)) ∧ Below wj.heap.size wj wr) (fun _ c _ => T.length - (intOf c).toNat)
  case atStart => exact ⟨0, by omega, rfl, rfl, Below.refl _ _⟩
  case round =>
    obtain ⟨k, hk, rfl, rfl, hbr⟩ := hrel
    have v2 := (hbr.cell (p := ⟨w.heap.size, 2, none⟩) hzl).trans z2
    have v4 := (hbr.cell (p := ⟨w.heap.size, 4, none⟩) hzl).trans z4
    have hvl := Nat.lt_of_lt_of_le hzl hbr.size
    by_cases hlt : k < T.length
    · obtain ⟨bt, rfl, _, hbt, t0⟩ := (unhide HSj).at k hlt
      have t1 := (hbr.cell (p := ⟨bt, k, none⟩) hbt).trans t0
      have hbt1 := Nat.lt_of_lt_of_le hbt hbr.size
      have htl := unhide HTl T[k] (List.getElem_mem hlt)
      have g5 := box_cell (bbox hbr g1j) 5
      simp only [List.getElem?_toArray, List.getElem?_cons_zero, List.getElem?_cons_succ] at g5
      have hg5 := lt_of_box (bbox hbr g1j)
      have C77 := hide (to_ref labs T[k] g base pb cb wr g5 hg5 (hLj.below hbr) (by omega) hln)
      have hsu := unhide Hsu k hlt
      have hle := unhide Hle k hk
      unfold Rf.toN at hsu
      generalize (Rf.place labs T[k]).getD 0 = v at *
      generalize hPS : (Rf.place labs T[k]).isSome = ps at *
      generalize T[k] = tx at *
      have hltI : (k : Int) < (T.length : Int) := by omega
      have q1 : IntKind.i64.wrap ((k : Int) + 1) = (k : Int) + 1 := IntWalk.i64_in _ (by omega)
      have hdb : Rf.dcB [100, 99, 46, 119] v = Strd.wordBs v := rfl
      rw [hdb] at hsu
      have l2 : (Strd.wordBs v).length = 2 := rfl
      have CW := hide (fun V => word_r v V)
      have Hsu2 := hide hsu
      generalize Rf.dcTo [100, 99, 46, 119] labs T k = AA at *
      generalize Strd.wordBs v = BB at *
      have s1 : ¬ 9223372036854775807 < List.length AA + List.length BB := by omega
      clear hsu hdb
      go_wp2_with (first
        | (go_at_call 77; refine (unhide C77).mono ?_; rintro e w3 ⟨rfl, hw3⟩; have hw3' := hw3.symm; subst hw3')
        | (go_at_call 116; refine (unhide CW _).mono ?_; rintro e w2 ⟨rfl, hb2⟩))
      go_roundw
      case rel => exact ⟨k + 1, by omega, by go_num, by rw [unhide Hsu2]; exact congrArg Value.string (bytes_ext (by simp)), below_t hbr hb2⟩
      case measure => simp [intOf]; omega
    · obtain rfl : k = T.length := by omega
      go_wp2
      go_ret
      exact ⟨by rw [unhide HX]; rfl, below_t hBj hbr⟩
set_option maxRecDepth 1000000 in
set_option maxHeartbeats 8000000 in
theorem bytes_dcb (base g i : Nat) (org en a : Int) (L : List Rf.Line) (qs : List (Rf.Line × Sl)) (Fs As : List Int) (labs : List (Strd.Bs × Int)) (w : World) (hP : Rf.PrgAt base w g org en L qs Fs As labs) (hi : i < L.length) (hok : Rf.LineOk L[i]) (hLn : L.length ≤ 2 ^ 30) (F : Int) (hln : labs.length ≤ 2 ^ 40) (hn8 : L[i].texts.length ≤ 8) (hw : L[i].word = [100, 99, 46, 98]) :
    Calls Tryz.prog 79 #[.pointer (some ⟨g, 0, none⟩), .int .i64 (i : Int), .int .i64 a] w fun e w' => e = .returned (.string (bstr (Rf.bytes labs L[i] F a))) ∧ Below w.heap.size w w' := by
  obtain ⟨⟨pl, cl, pf, cf, pa, ca, pb, cb, hbx, hLs, hFs, hAs, hLb⟩, hgb⟩ := hP
  obtain ⟨bl, q, rfl, _, hbl, y0, y1, y2, y3, y4, hT⟩ := hLs.at i hi
  have c1 := box_cell hbx 1
  have c2 := box_cell hbx 2
  have c5 := box_cell hbx 5
  simp only [List.getElem?_toArray, List.getElem?_cons_zero, List.getElem?_cons_succ] at c1 c2 c5
  have hgl := lt_of_box hbx
  have hiI : (i : Int) < (L.length : Int) := by omega
  obtain ⟨pq, nq, cq⟩ := q
  obtain ⟨hnq, hST⟩ := hT
  simp only at y4 hnq hST
  have hwf := hok.wf
  generalize L[i] = l at *
  subst hnq
  have hlw := hwf.lens.2.1
  have hba : Below w.heap.size w (w.alloc (.cells #[.int .i64 l.no, .string (bstr l.label), .string (bstr l.word), .int .i64 l.form, .slice pq l.texts.length cq] 144)) := below_a _ _
  have Hbx := hide (box_new w (.cells #[.int .i64 l.no, .string (bstr l.label), .string (bstr l.word), .int .i64 l.form, .slice pq l.texts.length cq] 144))
  have HST := hide (StrsAt.below hST hba)
  have HPB := hide (bbox hba hbx)
  have HLB := hide (hLb.below hba)
  have x2 := box_cell (unhide Hbx) 2
  have x4 := box_cell (unhide Hbx) 4
  simp only [List.getElem?_toArray, List.getElem?_cons_zero, List.getElem?_cons_succ] at x2 x4
  have hxl := lt_of_box (unhide Hbx)
  have CT := hide (fun V => two_r l.word V)
  have CJ := hide (fun V => isJump_ref l.word V (by omega))
  have Htw : Rf.two l.word = 0 := by rw [hw]; rfl
  have Hij : Rf.isJump l.word = false := by rw [hw]; decide +kernel
  rw [Hij] at CJ
  rw [Htw] at CT
  have hX : Rf.bytes labs l F a = Rf.dcTo [100, 99, 46, 98] labs l.texts l.texts.length := by
    unfold Rf.bytes Rf.dcTo
    rw [hw, List.take_length]
    rfl
  have hTl := hwf.lens.2.2
  rw [hw] at *
  have Hsu := hide (Rf.dcTo_succ [100, 99, 46, 98] labs l.texts)
  have Hle := hide (Rf.dcTo_len [100, 99, 46, 98] labs l.texts)
  have HTl := hide hTl
  clear hw hTl
  have HX := hide hX
  generalize Rf.bytes labs l F a = X at *
  clear hX hwf hLs hFs hAs hLb hbx hST hok
  go_enter Tryz.func79, Tryz.ntmps79
  go_upto_region 2 with fail
  clear y0 y1 y2 y3 y4
  generalize w.alloc (.cells #[.int .i64 l.no, .string (bstr l.label), .string (bstr l.word), .int .i64 l.form, .slice pq l.texts.length cq] 144) = W at *
  go_upto_region 26 with (first
    | (go_at_call 113; refine (unhide CT _).mono ?_; rintro e w1 ⟨rfl, hw1⟩; have hw1' := hw1.symm; subst hw1')
    | (go_at_call 75; refine (unhide CJ _).mono ?_; rintro e wj ⟨rfl, hbj⟩; have hBj := below_t hba hbj; have z2 := box_cell (bbox hbj (unhide Hbx)) 2; have z4 := box_cell (bbox hbj (unhide Hbx)) 4; simp only [List.getElem?_toArray, List.getElem?_cons_zero, List.getElem?_cons_succ] at z2 z4; have hzl := lt_of_box (bbox hbj (unhide Hbx)); have HSj := hide ((unhide HST).below hbj)))
  have hBX := below_t hba hbj
  have g1j := bbox hbj (unhide HPB)
  have hLj := (unhide HLB).below hbj
  have HSj2 := HSj
  clear CT CJ x2 x4 c1 c2 c5 HST HPB HLB
  generalize hTT : l.texts = T at *
  go_wp2
  go_loopw [24, 25] (fun c24 c25 wr => ∃ k : Nat, k ≤ T.length ∧ c25 = .int .i64 k ∧ c24 = .string (bstr (Rf.dcTo [100, 99, 46, 98] labs T k)) ∧ Below wj.heap.size wj wr) (fun _ c _ => T.length - (intOf c).toNat)
  case atStart => exact ⟨0, by omega, rfl, rfl, Below.refl _ _⟩
  case round =>
    obtain ⟨k, hk, rfl, rfl, hbr⟩ := hrel
    have v2 := (hbr.cell (p := ⟨w.heap.size, 2, none⟩) hzl).trans z2
    have v4 := (hbr.cell (p := ⟨w.heap.size, 4, none⟩) hzl).trans z4
    have hvl := Nat.lt_of_lt_of_le hzl hbr.size
    by_cases hlt : k < T.length
    · obtain ⟨bt, rfl, _, hbt, t0⟩ := (unhide HSj).at k hlt
      have t1 := (hbr.cell (p := ⟨bt, k, none⟩) hbt).trans t0
      have hbt1 := Nat.lt_of_lt_of_le hbt hbr.size
      have htl := unhide HTl T[k] (List.getElem_mem hlt)
      have g5 := box_cell (bbox hbr g1j) 5
      simp only [List.getElem?_toArray, List.getElem?_cons_zero, List.getElem?_cons_succ] at g5
      have hg5 := lt_of_box (bbox hbr g1j)
      have C77 := hide (to_ref labs T[k] g base pb cb wr g5 hg5 (hLj.below hbr) (by omega) hln)
      have hsu := unhide Hsu k hlt
      have hle := unhide Hle k hk
      unfold Rf.toN at hsu
      generalize (Rf.place labs T[k]).getD 0 = v at *
      generalize hPS : (Rf.place labs T[k]).isSome = ps at *
      generalize T[k] = tx at *
      have hltI : (k : Int) < (T.length : Int) := by omega
      have q1 : IntKind.i64.wrap ((k : Int) + 1) = (k : Int) + 1 := IntWalk.i64_in _ (by omega)
      have hdb : Rf.dcB [100, 99, 46, 98] v = [Strd.byteB v] := rfl
      rw [hdb] at hsu
      have hcv := Rf.conv88 (Rf.one_fresh wr v)
      have hbz := below_a wr (.cells #[.int .u8 (v % 256)] 5)
      have Hsu2 := hide hsu
      generalize Rf.dcTo [100, 99, 46, 98] labs T k = AA at *
      have s1 : ¬ 9223372036854775807 < List.length AA + 1 := by omega
      clear hsu hdb
      go_wp2_with (first
        | (go_at_call 77; refine (unhide C77).mono ?_; rintro e w3 ⟨rfl, hw3⟩; have hw3' := hw3.symm; subst hw3'))
      go_roundw
      case rel => exact ⟨k + 1, by omega, by go_num, by rw [unhide Hsu2]; exact congrArg Value.string (bytes_ext (by simp)), below_t hbr hbz⟩
      case measure => simp [intOf]; omega
    · obtain rfl : k = T.length := by omega
      go_wp2
      go_ret
      exact ⟨by rw [unhide HX]; rfl, below_t hBj hbr⟩
end Go.Proofs.YtegiloiojloaoaaGreatDoor

set_option linter.unusedVariables false
set_option linter.unusedSimpArgs false
namespace Go.Proofs.YtegiloiojloaoaaGreatDoor
open Go.RowKit Go.Shelf Go.Sort Go.Maps

theorem bytes_ref (base g i : Nat) (org en a : Int) (L : List Rf.Line) (qs : List (Rf.Line × Sl)) (Fs As : List Int) (labs : List (Strd.Bs × Int)) (w : World) (hP : Rf.PrgAt base w g org en L qs Fs As labs) (hi : i < L.length) (hok : Rf.LineOk L[i]) (hLn : L.length ≤ 2 ^ 30)
    (ha : 0 ≤ a ∧ a ≤ 2 ^ 40) (hln : labs.length ≤ 2 ^ 40) (hFl : i < Fs.length) (hF : Rf.isJump L[i].word = true → Fs.getD i 0 = 1 ∨ Fs.getD i 0 = 2 ∨ Fs.getD i 0 = 3) (hto : ∀ t ∈ L[i].texts, -2^40 ≤ Rf.toN labs t ∧ Rf.toN labs t ≤ 2^40) :
    Calls Tryz.prog 79 #[.pointer (some ⟨g, 0, none⟩), .int .i64 (i : Int), .int .i64 a] w fun e w' => e = .returned (.string (bstr (Rf.bytes labs L[i] (Fs.getD i 0) a))) ∧ Below w.heap.size w w' := by
  rcases hok.wf.shaped with ⟨h1, h2⟩ | ⟨h1, h2⟩ | ⟨h1, p, q, m, n, ht, hm, hn⟩ | ⟨h1, p, q, m, n, ht, hm, hn⟩ | ⟨h1, p, ht, hp⟩ | ⟨h1, h2, h3, h4⟩ | ⟨h1, p, n, ht, hn⟩
  · exact bytes_empty base g i org en a L qs Fs As labs w hP hi hok hLn _ h1
  · rcases h1 with e | e
    · exact bytes_nop base g i org en a L qs Fs As labs w hP hi hok hLn _ e
    · exact bytes_rts base g i org en a L qs Fs As labs w hP hi hok hLn _ e
  · exact bytes_two base g i org en a L qs Fs As labs w hP hi hok hLn _ p q m n ht hm hn ((Rf.two_of _).1 h1)
  · rcases h1 with e | e
    · exact bytes_quick base g i org en a L qs Fs As labs w hP hi hok hLn _ p q m n ht hm hn e
    · by_cases hc : 1 ≤ m ∧ m ≤ 8
      · exact bytes_addi_short base g i org en a L qs Fs As labs w hP hi hok hLn _ p q m n ht hm hn e hc
      · exact bytes_addi_plain base g i org en a L qs Fs As labs w hP hi hok hLn _ p q m n ht hm hn e hc
  · have hj := (Rf.isJump_mem _).2 h1
    exact bytes_jump base g i org en a L qs Fs As labs w hP hi hok hLn ⟨by omega, by omega⟩ p ht hj hFl (hF hj) (hto p (by rw [ht]; simp)) hln
  · rcases Rf.dc_cases h1 with e | e
    · exact bytes_dcw base g i org en a L qs Fs As labs w hP hi hok hLn _ hln h3 e
    · exact bytes_dcb base g i org en a L qs Fs As labs w hP hi hok hLn _ hln h3 e
  · rcases h1 with e | e | e
    · exact bytes_ds base g i org en a L qs Fs As labs w hP hi hok hLn _ p n ht hn e
    · exact bytes_align base g i org en a L qs Fs As labs w hP hi hok hLn _ ha p n ht hn e
    · exact bytes_org base g i org en a L qs Fs As labs w hP hi hok hLn _ e
end Go.Proofs.YtegiloiojloaoaaGreatDoor
