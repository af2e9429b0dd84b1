/- The contract of (Made).source. -/
import Derived.Test.YtegiloiojloaoaaGreatDoorCMade1
import Derived.Test.YtegiloiojloaoaaGreatDoorCSpec
import Derived.Deep.RegionHeld3
set_option linter.unusedVariables false
set_option linter.unusedSimpArgs false
namespace Go.Proofs.YtegiloiojloaoaaGreatDoor
open Go.RowKit Go.Shelf Go.Sort Go.Maps

theorem src_take (ps : List (Strd.ML × Nat)) (i : Nat) (h : i < ps.length) : Strd.srcOf (ps.take (i + 1)) = Strd.srcOf (ps.take i) ++ (ps[i].1.text ps[i].2 ++ [10]) := by
  rw [List.take_succ_eq_append_getElem h, Strd.src_app]
  simp [Strd.srcOf]
theorem jIdx_succ (ms : List Strd.ML) (i : Nat) (h : i < ms.length) : Strd.jIdx ms (i + 1) = Strd.jIdx ms i + (if ms[i].word < 0 then 0 else 1) := by
  unfold Strd.jIdx
  rw [List.take_succ_eq_append_getElem h, List.countP_append, List.countP_singleton]
  by_cases hw : ms[i].word < 0
  · rw [if_pos hw, if_neg (by simp; omega)]
  · rw [if_neg hw, if_pos (by simp; omega)]
theorem jIdx_le (ms : List Strd.ML) (i : Nat) : Strd.jIdx ms i ≤ i := by
  unfold Strd.jIdx
  exact Nat.le_trans List.countP_le_length (by simp; omega)
def FormsAt (w : World) (v : Value) (fs : List Nat) : Prop := ∃ base, IntsAt 3 base w v (fs.map fun (f : Nat) => (f : Int))
theorem FormsAt.below {w w' : World} {v : Value} {fs : List Nat} (h : FormsAt w v fs) (hb : Below w.heap.size w w') : FormsAt w' v fs := by
  obtain ⟨b, h⟩ := h; exact ⟨b, h.below hb⟩
theorem FormsAt.nil (w : World) : FormsAt w (.slice none 0 0) [] := ⟨0, World.ownsRow_nil _ _ _ _⟩
theorem lt_of_cell {w : World} {a : Addr} {v : Value} (h : w.cell? a = some v) : a.block < w.heap.size := World.block_lt_of_cell? w a h
set_option maxRecDepth 1000000 in
set_option maxHeartbeats 4000000 in
theorem source_c (ms : List Strd.ML) (hok : ∀ m ∈ ms, Strd.MLOk m) (hlen : ms.length ≤ 40) (fs : List Nat) (hf4 : ∀ f ∈ fs, f < 4) (base : Nat) (cs : Array Value) (v : Value) (w : World) (hV : MadeV base w cs ms) (hF : FormsAt w v fs) (hfl : fs.length ≤ 2 ^ 40) :
    Calls Tryz.prog 16 #[.agg cs, v] w fun e w' => e = .returned (.string (bstr (Strd.srcOf (Strd.pairs ms fs)))) ∧ Below w.heap.size w w' := by
  obtain ⟨vr, vl, vw, vt, rfl, hr, hl, hw, ht⟩ := hV
  obtain ⟨bF, hF⟩ := hF
  obtain ⟨pr, cr, rfl⟩ := own_shape hr
  obtain ⟨pl, cl, rfl⟩ := own_shape hl
  obtain ⟨pw, cw, rfl⟩ := own_shape hw
  obtain ⟨pt, ct, rfl⟩ := own_shape ht
  obtain ⟨pF, cF, rfl⟩ := own_shape hF
  simp only [List.length_map] at hr hl hw ht hF ⊢
  have hpl := Strd.pairs_len ms fs
  have hpa : ∀ k (h : k < ms.length), (Strd.pairs ms fs)[k]? = some (ms[k], if ms[k].word < 0 then 0 else fs.getD (Strd.jIdx ms k) 0) := fun k h => by
    rw [List.getElem?_eq_getElem (by rw [hpl]; exact h), Strd.pairs_at ms fs k h (by rw [hpl]; exact h)]
  have hplt := Strd.pairs_lt ms fs hf4
  have hsl := fun k => Strd.src_len ((Strd.pairs ms fs).take k) (fun p hp => hok _ (Strd.pairs_mem (List.mem_of_mem_take hp)))
  generalize Strd.pairs ms fs = ps at *
  have Hr := hide hr
  have Hl := hide hl
  have Hw := hide hw
  have Ht := hide ht
  have HF := hide hF
  have Hpa := hide hpa
  have Hplt := hide hplt
  have Hsl := hide hsl
  have Hok := hide hok
  have Hpl := hide hpl
  clear hr hl hw ht hF hpa hplt hsl hok hpl
  have hb0 := below_a w (.cells #[.slice pr ms.length cr, .slice pl ms.length cl, .slice pw ms.length cw, .slice pt ms.length ct, .int .i64 6] 44)
  have Hbx := hide (box_new w (.cells #[.slice pr ms.length cr, .slice pl ms.length cl, .slice pw ms.length cw, .slice pt ms.length ct, .int .i64 6] 44))
  go_enter Tryz.func16, Tryz.ntmps16
  go_upto_region 1 with fail
  generalize w.alloc (.cells #[.slice pr ms.length cr, .slice pl ms.length cl, .slice pw ms.length cw, .slice pt ms.length ct, .int .i64 6] 44) = w0 at *
  go_wp2_with fail
  go_loopw [5, 6, 7] (fun c5 c6 c7 wr => ∃ i : Nat, i ≤ ms.length ∧ c5 = .string (bstr (Strd.srcOf (ps.take i))) ∧ c6 = .int .i64 (Strd.jIdx ms i) ∧ c7 = .int .i64 i ∧ Below w0.heap.size w0 wr) (fun _ _ c _ => ms.length - (intOf c).toNat)
  case atStart => exact ⟨0, by omega, rfl, rfl, rfl, Below.refl _ _⟩
  case round =>
    obtain ⟨i, hi, rfl, rfl, rfl, hbl⟩ := hrel
    have hS := unhide Hsl i
    have hSl : (Strd.srcOf (ps.take i)).length ≤ 960 := by
      have : (ps.take i).length ≤ 40 := by rw [List.length_take, unhide Hpl]; omega
      omega
    have hji := jIdx_le ms i
    clear hS
    by_cases hlt : i < ms.length
    · have hltI : (i : Int) < (ms.length : Int) := by omega
      obtain ⟨br, hpr, -, -, -⟩ := ((unhide Hr)).at i (by simpa using hlt)
      obtain ⟨bl, hpl', -, -, -⟩ := ((unhide Hl)).at i (by simpa using hlt)
      obtain ⟨bw, hpw, -, -, -⟩ := ((unhide Hw)).at i (by simpa using hlt)
      obtain ⟨bt, hpt, -, -, -⟩ := ((unhide Ht)).at i (by simpa using hlt)
      subst hpr hpl' hpw hpt
      have hmo := unhide Hok _ (List.getElem_mem hlt)
      have hip : i < ps.length := by rw [unhide Hpl]; exact hlt
      have hpi : ps[i] = (ms[i], if ms[i].word < 0 then 0 else fs.getD (Strd.jIdx ms i) 0) := by
        have := unhide Hpa i hlt
        rw [List.getElem?_eq_getElem hip] at this
        exact Option.some.inj this
      have hst := src_take ps i hip
      have hjs := jIdx_succ ms i hlt
      have hp4 := unhide Hplt _ (List.getElem_mem hip)
      rw [hpi] at hst hp4
      have hW : ∀ W, Below w0.heap.size w0 W → (W.cell? ⟨w.heap.size, 0, none⟩ = some (.slice (some ⟨br, 0, none⟩) ms.length cr) ∧ W.cell? ⟨w.heap.size, 1, none⟩ = some (.slice (some ⟨bl, 0, none⟩) ms.length cl) ∧ W.cell? ⟨w.heap.size, 2, none⟩ = some (.slice (some ⟨bw, 0, none⟩) ms.length cw) ∧ W.cell? ⟨w.heap.size, 3, none⟩ = some (.slice (some ⟨bt, 0, none⟩) ms.length ct)) ∧ (W.cell? ⟨br, i, none⟩ = some (.string (bstr ms[i].rest.body.text)) ∧ W.cell? ⟨bl, i, none⟩ = some (.int .i64 ms[i].label) ∧ W.cell? ⟨bw, i, none⟩ = some (.int .i64 ms[i].word) ∧ W.cell? ⟨bt, i, none⟩ = some (.int .i64 ms[i].to)) ∧ w.heap.size < W.heap.size ∧ br < W.heap.size ∧ bl < W.heap.size ∧ bw < W.heap.size ∧ bt < W.heap.size := fun W hb => by
        have hbW := below_t hb0 hb
        obtain ⟨b1, e1, -, l1, k1⟩ := ((unhide Hr).below hbW).at i (by simpa using hlt)
        obtain ⟨b2, e2, -, l2, k2⟩ := ((unhide Hl).below hbW).at i (by simpa using hlt)
        obtain ⟨b3, e3, -, l3, k3⟩ := ((unhide Hw).below hbW).at i (by simpa using hlt)
        obtain ⟨b4, e4, -, l4, k4⟩ := ((unhide Ht).below hbW).at i (by simpa using hlt)
        cases e1
        cases e2
        cases e3
        cases e4
        simp only [List.getElem_map] at k1 k2 k3 k4
        have hbx := bbox hb (unhide Hbx)
        have z0 := box_cell hbx 0
        have z1 := box_cell hbx 1
        have z2 := box_cell hbx 2
        have z3 := box_cell hbx 3
        simp only [List.getElem?_toArray, List.getElem?_cons_zero, List.getElem?_cons_succ] at z0 z1 z2 z3
        exact ⟨⟨z0, z1, z2, z3⟩, ⟨k1, k2, k3, k4⟩, lt_of_box hbx, l1, l2, l3, l4⟩
      have hmtext : ∀ f, ms[i].text f = (if ms[i].label < 0 then [] else Strd.nameTexts.getD ms[i].label.toNat [] ++ [58, 32]) ++ (if ms[i].word < 0 then ms[i].rest.body.text else Strd.jumpTexts.getD ms[i].word.toNat [] ++ Strd.formTexts.getD f [] ++ [32] ++ Strd.nameTexts.getD ms[i].to.toNat []) := fun f => by
        unfold Strd.ML.text Strd.ML.body Strd.ML.name
        by_cases h1 : ms[i].label < 0
        · by_cases h2 : ms[i].word < 0 <;> simp [h1, h2, Strd.jumpBody, Strd.Body.text]
        · by_cases h2 : ms[i].word < 0 <;> simp [h1, h2, Strd.jumpBody, Strd.Body.text]
      have htl := fun f => Strd.text_len _ hmo f
      rw [hmtext] at hst
      simp only [hmtext] at htl
      have m1 := hmo.label
      have m2 := hmo.word
      have m3 := hmo.to
      have Hst := hide hst
      have Hjs := hide hjs
      have HW := hide hW
      have Htl := hide htl
      have Hp4 := hide hp4
      clear hst hjs hW hmtext htl hp4 hpi
      generalize ms[i].label = lb at *
      generalize ms[i].word = wd at *
      generalize ms[i].to = tt at *
      generalize ms[i].rest.body.text = R at *
      generalize Strd.srcOf (ps.take i) = S at *
      generalize hS' : Strd.srcOf (ps.take (i + 1)) = S' at *
      have HS' := hide hS'
      clear hS'
      obtain ⟨⟨z0, z1, z2, z3⟩, ⟨k0, k1, k2, k3⟩, hz, hzr, hzl, hzw, hzt⟩ := unhide HW wr hbl
      generalize hLL : (if lb < 0 then [] else Strd.nameTexts.getD lb.toNat [] ++ [58, 32]) = LL at *
      have HLL := hide hLL
      have hLLl : LL.length ≤ 23 := by
        have := unhide Htl 0
        rw [List.length_append] at this; omega
      clear hLL
      go_upto_if 21 with fail
      go_cut [5] (fun c wc' => c = .string (bstr (S ++ LL)) ∧ Below wr.heap.size wr wc')
      case first =>
        by_cases hlb : lb < 0
        · have h0 : ¬ 0 ≤ lb := by omega
          have Hn : Hid (LL = []) := hide (by rw [← unhide HLL, if_pos hlb])
          go_wp2
          go_meet
          exact ⟨by rw [unhide Hn, List.append_nil], Below.refl _ _⟩
        · have h0 : 0 ≤ lb := by omega
          obtain ⟨q, hq⟩ : ∃ q : Nat, lb = q := ⟨lb.toNat, by omega⟩
          have Hn : Hid (LL = Strd.nameTexts.getD q [] ++ [58, 32]) := hide (by rw [← unhide HLL, if_neg hlb, hq, Int.toNat_natCast])
          have hnl : (Strd.nameTexts.getD q []).length ≤ 23 := by
            have := congrArg List.length (unhide Hn)
            rw [List.length_append] at this; omega
          rw [hq] at k1 h0
          have cn := name_c q wr (by omega)
          generalize Strd.nameTexts.getD q [] = NN at *
          have Cn := hide cn
          have s1 : ¬ 9223372036854775807 < List.length S + List.length NN := by omega
          have s2 : ¬ 9223372036854775807 < List.length S + List.length NN + 2 := by omega
          clear cn hlb
          go_wp2_with fail
          refine (unhide Cn).mono ?_
          rintro e w2 ⟨rfl, hb2⟩
          go_wp2
          go_meet
          exact ⟨by rw [unhide Hn]; exact congrArg Value.string (bytes_ext (by simp)), hb2⟩
      case rest =>
        obtain ⟨rfl, hbc⟩ := hcut
        have hblc := below_t hbl hbc
        clear z0 z1 z2 z3 k0 k1 k2 k3 hz hzr hzl hzw hzt
        obtain ⟨⟨z0, z1, z2, z3⟩, ⟨k0, k1, k2, k3⟩, hz, hzr, hzl, hzw, hzt⟩ := unhide HW _ hblc
        by_cases hwd : wd < 0
        · have Hst2 : Hid (S' = S ++ LL ++ R ++ [10]) := hide (by rw [unhide Hst, if_pos hwd]; simp)
          have Hjs2 : Hid (Strd.jIdx ms (i + 1) = Strd.jIdx ms i) := hide (by rw [unhide Hjs, if_pos hwd]; rfl)
          have hRl : R.length ≤ 23 := by
            have := unhide Htl 0
            rw [if_pos hwd, List.length_append] at this; omega
          have s1 : ¬ 9223372036854775807 < List.length S + List.length LL + List.length R := by omega
          have s2 : ¬ 9223372036854775807 < List.length S + List.length LL + List.length R + 1 := by omega
          go_wp2
          go_roundw
          case rel => exact ⟨i + 1, by omega, by rw [unhide HS', unhide Hst2]; exact congrArg Value.string (bytes_ext (by simp)), by rw [unhide Hjs2], by go_num, hblc⟩
          case measure => simp [intOf]; omega
        · obtain ⟨q, hq⟩ : ∃ q : Nat, wd = q := ⟨wd.toNat, by omega⟩
          obtain ⟨qt, hqt⟩ : ∃ q : Nat, tt = q := ⟨tt.toNat, by omega⟩
          have hwd0 : ¬ wd < 0 := hwd
          obtain ⟨f, hff⟩ : ∃ f, fs.getD (Strd.jIdx ms i) 0 = f := ⟨_, rfl⟩
          have hf4' : f < 4 := by
            have := unhide Hp4
            simp only [hwd, if_false, hff] at this
            exact this
          have Hst2 : Hid (S' = S ++ LL ++ Strd.jumpTexts.getD q [] ++ Strd.formTexts.getD f [] ++ [32] ++ Strd.nameTexts.getD qt [] ++ [10]) := hide (by
            rw [unhide Hst, if_neg hwd, if_neg hwd, hff, hq, hqt, Int.toNat_natCast, Int.toNat_natCast]; simp)
          have Hjs2 : Hid (Strd.jIdx ms (i + 1) = Strd.jIdx ms i + 1) := hide (by rw [unhide Hjs, if_neg hwd])
          have htl2 := unhide Htl f
          rw [if_neg hwd, hq, hqt, Int.toNat_natCast, Int.toNat_natCast] at htl2
          simp only [List.length_append, List.length_singleton] at htl2
          generalize hn : Strd.jIdx ms i = n at *
          have ew : IntKind.i64.wrap ((n : Int) + 1) = (n : Int) + 1 := IntWalk.i64_in _ (by omega)
          rw [hq] at k2
          rw [hqt] at k3
          subst hq hqt
          go_upto_if 48 with fail
          go_cut [8] (fun c wx => c = .int .i64 (f : Int) ∧ wx = wc)
          case first =>
            by_cases hnl : n < fs.length
            · have hnl1 : (n : Int) < (fs.length : Int) := by omega
              obtain ⟨bf, hbf, -, hbfl, kf⟩ := ((unhide HF).below (below_t hb0 hblc)).at n (by simpa using hnl)
              subst hbf
              simp only [List.getElem_map] at kf
              have hfe : fs[n] = f := by
                rw [← hff, List.getD_eq_getElem?_getD, List.getElem?_eq_getElem hnl]; rfl
              rw [hfe] at kf
              go_wp2
              go_meet
              exact ⟨rfl, rfl⟩
            · have hnl1 : ¬ (n : Int) < (fs.length : Int) := by omega
              have hf0 : f = 0 := by rw [← hff, List.getD_eq_getElem?_getD, List.getElem?_eq_none (by omega)]; rfl
              have Hf0 := hide hf0
              clear hf0
              go_wp2
              go_meet
              exact ⟨by rw [unhide Hf0]; rfl, rfl⟩
          case rest =>
            obtain ⟨rfl, hwx⟩ := hcut
            subst hwx
            have c20 : ∀ W, Calls Tryz.prog 20 #[.int .i64 (q : Int)] W fun e w' => e = .returned (.string (bstr (Strd.jumpTexts.getD q []))) ∧ Below W.heap.size W w' := fun W => jumps_c q W (by omega)
            have c18 : ∀ W, Calls Tryz.prog 18 #[.int .i64 (qt : Int)] W fun e w' => e = .returned (.string (bstr (Strd.nameTexts.getD qt []))) ∧ Below W.heap.size W w' := fun W => name_c qt W (by omega)
            have hrow : ∀ W : World, (W.alloc (.cells #[.string ⟨#[]⟩, .string ⟨#[46, 115]⟩, .string ⟨#[46, 119]⟩, .string ⟨#[46, 108]⟩] 9)).cell? ⟨W.heap.size, f, none⟩ = some (.string (bstr (Strd.formTexts.getD f []))) := fun W => by
              rw [box_cell (box_new W _) f]
              have : f = 0 ∨ f = 1 ∨ f = 2 ∨ f = 3 := by omega
              rcases this with rfl | rfl | rfl | rfl <;> rfl
            have hgl : ∀ h : f < [Value.string ⟨#[]⟩, .string ⟨#[46, 115]⟩, .string ⟨#[46, 119]⟩, .string ⟨#[46, 108]⟩].length, [Value.string ⟨#[]⟩, .string ⟨#[46, 115]⟩, .string ⟨#[46, 119]⟩, .string ⟨#[46, 108]⟩][f]'h = .string (bstr (Strd.formTexts.getD f [])) := fun h => by
              have : f = 0 ∨ f = 1 ∨ f = 2 ∨ f = 3 := by omega
              rcases this with rfl | rfl | rfl | rfl <;> rfl
            have hWc : ∀ W, Below wc.heap.size wc W → (W.cell? ⟨w.heap.size, 2, none⟩ = some (.slice (some ⟨bw, 0, none⟩) ms.length cw) ∧ W.cell? ⟨bw, i, none⟩ = some (.int .i64 (q : Int)) ∧ W.cell? ⟨w.heap.size, 3, none⟩ = some (.slice (some ⟨bt, 0, none⟩) ms.length ct) ∧ W.cell? ⟨bt, i, none⟩ = some (.int .i64 (qt : Int))) := fun W hb => by
              obtain ⟨⟨_, _, y2, y3⟩, ⟨_, _, x2, x3⟩, _⟩ := unhide HW W (below_t hblc hb)
              exact ⟨y2, x2, y3, x3⟩
            generalize Strd.jumpTexts.getD q [] = JT at *
            generalize Strd.formTexts.getD f [] = FT at *
            generalize Strd.nameTexts.getD qt [] = NT at *
            have a1 : ¬ 9223372036854775807 < List.length S + List.length LL + List.length JT := by omega
            have a2 : ¬ 9223372036854775807 < List.length S + List.length LL + List.length JT + List.length FT := by omega
            have a3 : ¬ 9223372036854775807 < List.length S + List.length LL + List.length JT + List.length FT + 1 := by omega
            have a4 : ¬ 9223372036854775807 < List.length S + List.length LL + List.length JT + List.length FT + 1 + List.length NT := by omega
            have a5 : ¬ 9223372036854775807 < List.length S + List.length LL + List.length JT + List.length FT + 1 + List.length NT + 1 := by omega
            have hf4i : (f : Int) < 4 := by omega
            have C20 := hide c20
            have C18 := hide c18
            have Hrow := hide hrow
            have HWc := hide hWc
            clear c20 c18 hrow hWc z0 z1 k0 k1 htl2 hff
            go_upto_region 14 with fail
            have hrw0 := unhide Hrow wc.drew
            refine wp_region_noPanic ?_
            refine wp_region_held_drew (S := (fun W => W.cell? ⟨w.heap.size, 2, none⟩ = some (.slice (some ⟨bw, 0, none⟩) ms.length cw) ∧ W.cell? ⟨bw, i, none⟩ = some (.int .i64 (q : Int)) ∧ W.cell? ⟨w.heap.size, 3, none⟩ = some (.slice (some ⟨bt, 0, none⟩) ms.length ct) ∧ W.cell? ⟨bt, i, none⟩ = some (.int .i64 (qt : Int)))) (by kernel_rfl) ?_ (fun hHeld => ?_)
            · exact unhide HWc _ (below_d (Below.refl _ _))
            refine wpAnyH_take (i := 0) (v := ?v0x1) rfl (by kernel_rfl) (by kernel_rfl) (by kernel_rfl) (fun _ _ _ h => h) (Or.inl ⟨by rfl, ?hy0x1⟩) (by assumption) ?rest0x1
            case hy0x1 => (intro w' hSw; (try dsimp only at hSw); go_simp; (try with_reducible rfl))
            (try simp only [Act.put, List.setIfInBounds_toArray, List.set_cons_zero, List.set_cons_succ])
            refine wpAnyH_take (i := 1) (v := ?v1x2) rfl (by kernel_rfl) (by kernel_rfl) (by kernel_rfl) (fun _ _ _ h => h) (Or.inl ⟨by rfl, ?hy1x2⟩) (by assumption) ?rest1x2
            case hy1x2 => (intro w' hSw; (try dsimp only at hSw); go_simp; (try with_reducible rfl))
            (try simp only [Act.put, List.setIfInBounds_toArray, List.set_cons_zero, List.set_cons_succ])
            refine wpAnyH_take (i := 2) (v := ?v2x3) rfl (by kernel_rfl) (by kernel_rfl) (by kernel_rfl) (fun _ _ _ h => h) (Or.inl ⟨by rfl, ?hy2x3⟩) (by assumption) ?rest2x3
            case hy2x3 => (intro w' hSw; (try dsimp only at hSw); go_simp; (try with_reducible rfl))
            (try simp only [Act.put, List.setIfInBounds_toArray, List.set_cons_zero, List.set_cons_succ])
            refine wpAnyH_take (i := 3) (v := ?v3x4) rfl (by kernel_rfl) (by kernel_rfl) (by kernel_rfl) (fun _ _ _ h => h) (Or.inl ⟨by rfl, ?hy3x4⟩) (by assumption) ?rest3x4
            case hy3x4 => (intro w' hSw; (try dsimp only at hSw); go_simp; (try with_reducible rfl))
            (try simp only [Act.put, List.setIfInBounds_toArray, List.set_cons_zero, List.set_cons_succ])
            refine wpAnyH_take (i := 4) (v := ?v4x5) rfl (by kernel_rfl) (by kernel_rfl) (by kernel_rfl) (fun _ _ _ h => h) (Or.inl ⟨by rfl, ?hy4x5⟩) (by assumption) ?rest4x5
            case hy4x5 => (intro w' hSw; (try dsimp only at hSw); go_simp; (try with_reducible rfl))
            (try simp only [Act.put, List.setIfInBounds_toArray, List.set_cons_zero, List.set_cons_succ])
            refine wpAnyH_take (i := 5) (v := ?v5x6) rfl (by kernel_rfl) (by kernel_rfl) (by kernel_rfl) (fun _ _ _ h => h) (Or.inl ⟨by rfl, ?hy5x6⟩) (by assumption) ?rest5x6
            case hy5x6 => (intro w' hSw; (try dsimp only at hSw); go_simp; (try with_reducible rfl))
            (try simp only [Act.put, List.setIfInBounds_toArray, List.set_cons_zero, List.set_cons_succ])
            refine wpAnyH_take (i := 9) (v := ?v9x7) rfl (by kernel_rfl) (by kernel_rfl) (by kernel_rfl) (fun _ _ _ h => h) (Or.inl ⟨by rfl, ?hy9x7⟩) (by assumption) ?rest9x7
            case hy9x7 => (intro w' hSw; (try dsimp only at hSw); go_simp; (try with_reducible rfl))
            (try simp only [Act.put, List.setIfInBounds_toArray, List.set_cons_zero, List.set_cons_succ])
            refine wpAnyH_take (i := 14) (v := ?v14x8) rfl (by kernel_rfl) (by kernel_rfl) (by kernel_rfl) (fun _ _ _ h => h) (Or.inl ⟨by rfl, ?hy14x8⟩) (by assumption) ?rest14x8
            case hy14x8 => (intro w' hSw; (try dsimp only at hSw); go_simp; (try with_reducible rfl))
            (try simp only [Act.put, List.setIfInBounds_toArray, List.set_cons_zero, List.set_cons_succ])
            refine wpAnyH_take (i := 15) (v := ?v15x9) rfl (by kernel_rfl) (by kernel_rfl) (by kernel_rfl) (fun _ _ _ h => h) (Or.inl ⟨by rfl, ?hy15x9⟩) (by assumption) ?rest15x9
            case hy15x9 => (intro w' hSw; (try dsimp only at hSw); go_simp; (try with_reducible rfl))
            (try simp only [Act.put, List.setIfInBounds_toArray, List.set_cons_zero, List.set_cons_succ])
            refine wpAnyH_take (i := 16) (v := ?v16x10) rfl (by kernel_rfl) (by kernel_rfl) (by kernel_rfl) (fun _ _ _ h => h) (Or.inl ⟨by rfl, ?hy16x10⟩) (by assumption) ?rest16x10
            case hy16x10 => (intro w' hSw; (try dsimp only at hSw); go_simp; (try with_reducible rfl))
            (try simp only [Act.put, List.setIfInBounds_toArray, List.set_cons_zero, List.set_cons_succ])
            refine wpAnyH_take (i := 17) (v := ?v17x11) rfl (by kernel_rfl) (by kernel_rfl) (by kernel_rfl) (fun _ _ _ h => h) (Or.inl ⟨by rfl, ?hy17x11⟩) (by assumption) ?rest17x11
            case hy17x11 => (intro w' hSw; (try dsimp only at hSw); go_simp; (try with_reducible rfl))
            (try simp only [Act.put, List.setIfInBounds_toArray, List.set_cons_zero, List.set_cons_succ])
            refine wpAnyH_take (i := 18) (v := ?v18x12) rfl (by kernel_rfl) (by kernel_rfl) (by kernel_rfl) (fun _ _ _ h => h) (Or.inl ⟨by rfl, ?hy18x12⟩) (by assumption) ?rest18x12
            case hy18x12 => (intro w' hSw; (try dsimp only at hSw); go_simp; (try with_reducible rfl))
            (try simp only [Act.put, List.setIfInBounds_toArray, List.set_cons_zero, List.set_cons_succ])
            refine wpAnyH_ready (rs := [6, 8]) (by kernel_rfl) (by simp) ?_
            refine AllReadyH.cons rfl (fun K hK => ?_) ?_
            · go_simp
              refine (unhide C20 _).mono ?_
              rintro e w5 ⟨rfl, hb5⟩
              have hB5 : Below wc.heap.size wc w5 := below_t (below_d (Below.refl _ _)) hb5
              dsimp only
              refine hK.out _ _ ?_ (fun hHeld => ?_)
              · exact unhide HWc _ hB5
              clear hK K
              (try simp only [Act.put, List.setIfInBounds_toArray, List.set_cons_zero, List.set_cons_succ])
              refine wpAnyH_take (i := 7) (v := ?v7x13) rfl (by kernel_rfl) (by kernel_rfl) (by kernel_rfl) (fun _ _ _ h => h) (Or.inl ⟨by rfl, ?hy7x13⟩) (by assumption) ?rest7x13
              case hy7x13 => (intro w' hSw; (try dsimp only at hSw); go_simp; (try with_reducible rfl))
              (try simp only [Act.put, List.setIfInBounds_toArray, List.set_cons_zero, List.set_cons_succ])
              refine wpAnyH_ready (rs := [8, 19]) (by kernel_rfl) (by simp) ?_
              refine AllReadyH.cons rfl (fun K hK => ?_) ?_
              · go_simp
                refine hK.out _ _ ?_ (fun hHeld => ?_)
                · exact unhide HWc _ (below_t hB5 (below_a _ _))
                clear hK K
                (try simp only [Act.put, List.setIfInBounds_toArray, List.set_cons_zero, List.set_cons_succ])
                have hrwN := (unhide Hrow w5)
                refine wpAnyH_take (i := 10) (v := ?v10x14) rfl (by kernel_rfl) (by kernel_rfl) (by kernel_rfl) (fun _ _ _ h => h) (Or.inl ⟨by rfl, ?hy10x14⟩) (by assumption) ?rest10x14
                case hy10x14 => (intro w' hSw; (try dsimp only at hSw); go_simp; (try with_reducible rfl))
                (try simp only [Act.put, List.setIfInBounds_toArray, List.set_cons_zero, List.set_cons_succ])
                refine wpAnyH_ready (rs := [11, 19]) (by kernel_rfl) (by simp) ?_
                refine AllReadyH.cons rfl (fun K hK => ?_) ?_
                · go_simp
                  refine hK.out _ _ (by assumption) (fun hHeld => ?_)
                  clear hK K
                  (try simp only [Act.put, List.setIfInBounds_toArray, List.set_cons_zero, List.set_cons_succ])
                  refine wpAnyH_take (i := 12) (v := ?v12x15) rfl (by kernel_rfl) (by kernel_rfl) (by kernel_rfl) (fun _ _ _ h => h) (Or.inl ⟨by rfl, ?hy12x15⟩) (by assumption) ?rest12x15
                  case hy12x15 => (intro w' hSw; (try dsimp only at hSw); go_simp; (try with_reducible rfl))
                  (try simp only [Act.put, List.setIfInBounds_toArray, List.set_cons_zero, List.set_cons_succ])
                  refine wpAnyH_take (i := 13) (v := ?v13x16) rfl (by kernel_rfl) (by kernel_rfl) (by kernel_rfl) (fun _ _ _ h => h) (Or.inl ⟨by rfl, ?hy13x16⟩) (by assumption) ?rest13x16
                  case hy13x16 => (intro w' hSw; (try dsimp only at hSw); go_simp; (try with_reducible rfl))
                  (try simp only [Act.put, List.setIfInBounds_toArray, List.set_cons_zero, List.set_cons_succ])
                  refine wpAnyH_ready (rs := [19]) (by kernel_rfl) (by simp) ?_
                  refine AllReadyH.cons rfl (fun K hK => ?_) ?_
                  · go_simp
                    refine (unhide C18 _).mono ?_
                    rintro e w6 ⟨rfl, hb6⟩
                    have hB6 : Below wc.heap.size wc w6 := below_t (below_t hB5 (below_a _ _)) hb6
                    dsimp only
                    refine hK.out _ _ ?_ (fun hHeld => ?_)
                    · exact unhide HWc _ hB6
                    clear hK K
                    (try simp only [Act.put, List.setIfInBounds_toArray, List.set_cons_zero, List.set_cons_succ])
                    refine wpAnyH_take (i := 20) (v := ?v20x17) rfl (by kernel_rfl) (by kernel_rfl) (by kernel_rfl) (fun _ _ _ h => h) (Or.inl ⟨by rfl, ?hy20x17⟩) (by assumption) ?rest20x17
                    case hy20x17 => (intro w' hSw; (try dsimp only at hSw); go_simp; (try with_reducible rfl))
                    (try simp only [Act.put, List.setIfInBounds_toArray, List.set_cons_zero, List.set_cons_succ])
                    refine wpAnyH_take (i := 21) (v := ?v21x18) rfl (by kernel_rfl) (by kernel_rfl) (by kernel_rfl) (fun _ _ _ h => h) (Or.inl ⟨by rfl, ?hy21x18⟩) (by assumption) ?rest21x18
                    case hy21x18 => (intro w' hSw; (try dsimp only at hSw); go_simp; (try with_reducible rfl))
                    (try simp only [Act.put, List.setIfInBounds_toArray, List.set_cons_zero, List.set_cons_succ])
                    refine wpAnyH_take (i := 22) (v := ?v22x19) rfl (by kernel_rfl) (by kernel_rfl) (by kernel_rfl) (fun _ _ _ h => h) (Or.inl ⟨by rfl, ?hy22x19⟩) (by assumption) ?rest22x19
                    case hy22x19 => (intro w' hSw; (try dsimp only at hSw); go_simp; (try with_reducible rfl))
                    (try simp only [Act.put, List.setIfInBounds_toArray, List.set_cons_zero, List.set_cons_succ])
                    refine wpAnyH_done (by kernel_rfl) ?_ _
                    (try refine NoPanic.normal ?_)
                    go_wp2_with fail
                    go_roundw
                    case rel => exact ⟨i + 1, by omega, by rw [unhide HS', unhide Hst2]; exact congrArg Value.string (bytes_ext (by simp)), by rw [unhide Hjs2]; rfl, by go_num, below_t hblc hB6⟩
                    case measure => simp [intOf]; omega
                  exact AllReadyH.nil
                refine AllReadyH.cons rfl (fun K hK => ?_) ?_
                · go_simp
                  refine (unhide C18 _).mono ?_
                  rintro e w6 ⟨rfl, hb6⟩
                  have hB6 : Below wc.heap.size wc w6 := below_t (below_t hB5 (below_a _ _)) hb6
                  have hx6 : w6.cell? ⟨w5.heap.size, f, none⟩ = some (.string (bstr FT)) := (hb6.cell (p := ⟨w5.heap.size, f, none⟩) (lt_of_cell (unhide Hrow w5))).trans (unhide Hrow w5)
                  dsimp only
                  refine hK.out _ _ ?_ (fun hHeld => ?_)
                  · exact unhide HWc _ hB6
                  clear hK K
                  (try simp only [Act.put, List.setIfInBounds_toArray, List.set_cons_zero, List.set_cons_succ])
                  refine wpAnyH_ready (rs := [11]) (by kernel_rfl) (by simp) ?_
                  refine AllReadyH.cons rfl (fun K hK => ?_) ?_
                  · go_simp
                    refine hK.out _ _ (by assumption) (fun hHeld => ?_)
                    clear hK K
                    (try simp only [Act.put, List.setIfInBounds_toArray, List.set_cons_zero, List.set_cons_succ])
                    refine wpAnyH_take (i := 12) (v := ?v12x20) rfl (by kernel_rfl) (by kernel_rfl) (by kernel_rfl) (fun _ _ _ h => h) (Or.inl ⟨by rfl, ?hy12x20⟩) (by assumption) ?rest12x20
                    case hy12x20 => (intro w' hSw; (try dsimp only at hSw); go_simp; (try with_reducible rfl))
                    (try simp only [Act.put, List.setIfInBounds_toArray, List.set_cons_zero, List.set_cons_succ])
                    refine wpAnyH_take (i := 13) (v := ?v13x21) rfl (by kernel_rfl) (by kernel_rfl) (by kernel_rfl) (fun _ _ _ h => h) (Or.inl ⟨by rfl, ?hy13x21⟩) (by assumption) ?rest13x21
                    case hy13x21 => (intro w' hSw; (try dsimp only at hSw); go_simp; (try with_reducible rfl))
                    (try simp only [Act.put, List.setIfInBounds_toArray, List.set_cons_zero, List.set_cons_succ])
                    refine wpAnyH_take (i := 20) (v := ?v20x22) rfl (by kernel_rfl) (by kernel_rfl) (by kernel_rfl) (fun _ _ _ h => h) (Or.inl ⟨by rfl, ?hy20x22⟩) (by assumption) ?rest20x22
                    case hy20x22 => (intro w' hSw; (try dsimp only at hSw); go_simp; (try with_reducible rfl))
                    (try simp only [Act.put, List.setIfInBounds_toArray, List.set_cons_zero, List.set_cons_succ])
                    refine wpAnyH_take (i := 21) (v := ?v21x23) rfl (by kernel_rfl) (by kernel_rfl) (by kernel_rfl) (fun _ _ _ h => h) (Or.inl ⟨by rfl, ?hy21x23⟩) (by assumption) ?rest21x23
                    case hy21x23 => (intro w' hSw; (try dsimp only at hSw); go_simp; (try with_reducible rfl))
                    (try simp only [Act.put, List.setIfInBounds_toArray, List.set_cons_zero, List.set_cons_succ])
                    refine wpAnyH_take (i := 22) (v := ?v22x24) rfl (by kernel_rfl) (by kernel_rfl) (by kernel_rfl) (fun _ _ _ h => h) (Or.inl ⟨by rfl, ?hy22x24⟩) (by assumption) ?rest22x24
                    case hy22x24 => (intro w' hSw; (try dsimp only at hSw); go_simp; (try with_reducible rfl))
                    (try simp only [Act.put, List.setIfInBounds_toArray, List.set_cons_zero, List.set_cons_succ])
                    refine wpAnyH_done (by kernel_rfl) ?_ _
                    (try refine NoPanic.normal ?_)
                    go_wp2_with fail
                    go_roundw
                    case rel => exact ⟨i + 1, by omega, by rw [unhide HS', unhide Hst2]; exact congrArg Value.string (bytes_ext (by simp)), by rw [unhide Hjs2]; rfl, by go_num, below_t hblc hB6⟩
                    case measure => simp [intOf]; omega
                  exact AllReadyH.nil
                exact AllReadyH.nil
              refine AllReadyH.cons rfl (fun K hK => ?_) ?_
              · go_simp
                refine (unhide C18 _).mono ?_
                rintro e w6 ⟨rfl, hb6⟩
                have hB6 : Below wc.heap.size wc w6 := below_t hB5 hb6
                dsimp only
                refine hK.out _ _ ?_ (fun hHeld => ?_)
                · exact unhide HWc _ hB6
                clear hK K
                (try simp only [Act.put, List.setIfInBounds_toArray, List.set_cons_zero, List.set_cons_succ])
                refine wpAnyH_ready (rs := [8]) (by kernel_rfl) (by simp) ?_
                refine AllReadyH.cons rfl (fun K hK => ?_) ?_
                · go_simp
                  refine hK.out _ _ ?_ (fun hHeld => ?_)
                  · exact unhide HWc _ (below_t hB6 (below_a _ _))
                  clear hK K
                  (try simp only [Act.put, List.setIfInBounds_toArray, List.set_cons_zero, List.set_cons_succ])
                  have hrwN := (unhide Hrow w6)
                  refine wpAnyH_take (i := 10) (v := ?v10x25) rfl (by kernel_rfl) (by kernel_rfl) (by kernel_rfl) (fun _ _ _ h => h) (Or.inl ⟨by rfl, ?hy10x25⟩) (by assumption) ?rest10x25
                  case hy10x25 => (intro w' hSw; (try dsimp only at hSw); go_simp; (try with_reducible rfl))
                  (try simp only [Act.put, List.setIfInBounds_toArray, List.set_cons_zero, List.set_cons_succ])
                  refine wpAnyH_ready (rs := [11]) (by kernel_rfl) (by simp) ?_
                  refine AllReadyH.cons rfl (fun K hK => ?_) ?_
                  · go_simp
                    refine hK.out _ _ (by assumption) (fun hHeld => ?_)
                    clear hK K
                    (try simp only [Act.put, List.setIfInBounds_toArray, List.set_cons_zero, List.set_cons_succ])
                    refine wpAnyH_take (i := 12) (v := ?v12x26) rfl (by kernel_rfl) (by kernel_rfl) (by kernel_rfl) (fun _ _ _ h => h) (Or.inl ⟨by rfl, ?hy12x26⟩) (by assumption) ?rest12x26
                    case hy12x26 => (intro w' hSw; (try dsimp only at hSw); go_simp; (try with_reducible rfl))
                    (try simp only [Act.put, List.setIfInBounds_toArray, List.set_cons_zero, List.set_cons_succ])
                    refine wpAnyH_take (i := 13) (v := ?v13x27) rfl (by kernel_rfl) (by kernel_rfl) (by kernel_rfl) (fun _ _ _ h => h) (Or.inl ⟨by rfl, ?hy13x27⟩) (by assumption) ?rest13x27
                    case hy13x27 => (intro w' hSw; (try dsimp only at hSw); go_simp; (try with_reducible rfl))
                    (try simp only [Act.put, List.setIfInBounds_toArray, List.set_cons_zero, List.set_cons_succ])
                    refine wpAnyH_take (i := 20) (v := ?v20x28) rfl (by kernel_rfl) (by kernel_rfl) (by kernel_rfl) (fun _ _ _ h => h) (Or.inl ⟨by rfl, ?hy20x28⟩) (by assumption) ?rest20x28
                    case hy20x28 => (intro w' hSw; (try dsimp only at hSw); go_simp; (try with_reducible rfl))
                    (try simp only [Act.put, List.setIfInBounds_toArray, List.set_cons_zero, List.set_cons_succ])
                    refine wpAnyH_take (i := 21) (v := ?v21x29) rfl (by kernel_rfl) (by kernel_rfl) (by kernel_rfl) (fun _ _ _ h => h) (Or.inl ⟨by rfl, ?hy21x29⟩) (by assumption) ?rest21x29
                    case hy21x29 => (intro w' hSw; (try dsimp only at hSw); go_simp; (try with_reducible rfl))
                    (try simp only [Act.put, List.setIfInBounds_toArray, List.set_cons_zero, List.set_cons_succ])
                    refine wpAnyH_take (i := 22) (v := ?v22x30) rfl (by kernel_rfl) (by kernel_rfl) (by kernel_rfl) (fun _ _ _ h => h) (Or.inl ⟨by rfl, ?hy22x30⟩) (by assumption) ?rest22x30
                    case hy22x30 => (intro w' hSw; (try dsimp only at hSw); go_simp; (try with_reducible rfl))
                    (try simp only [Act.put, List.setIfInBounds_toArray, List.set_cons_zero, List.set_cons_succ])
                    refine wpAnyH_done (by kernel_rfl) ?_ _
                    (try refine NoPanic.normal ?_)
                    go_wp2_with fail
                    go_roundw
                    case rel => exact ⟨i + 1, by omega, by rw [unhide HS', unhide Hst2]; exact congrArg Value.string (bytes_ext (by simp)), by rw [unhide Hjs2]; rfl, by go_num, below_t hblc (below_t hB6 (below_a _ _))⟩
                    case measure => simp [intOf]; omega
                  exact AllReadyH.nil
                exact AllReadyH.nil
              exact AllReadyH.nil
            refine AllReadyH.cons rfl (fun K hK => ?_) ?_
            · go_simp
              refine hK.out _ _ ?_ (fun hHeld => ?_)
              · exact unhide HWc _ (below_t (below_d (Below.refl _ _)) (below_a _ _))
              clear hK K
              (try simp only [Act.put, List.setIfInBounds_toArray, List.set_cons_zero, List.set_cons_succ])
              have hrwN := (unhide Hrow wc.drew)
              refine wpAnyH_take (i := 10) (v := ?v10x31) rfl (by kernel_rfl) (by kernel_rfl) (by kernel_rfl) (fun _ _ _ h => h) (Or.inl ⟨by rfl, ?hy10x31⟩) (by assumption) ?rest10x31
              case hy10x31 => (intro w' hSw; (try dsimp only at hSw); go_simp; (try with_reducible rfl))
              (try simp only [Act.put, List.setIfInBounds_toArray, List.set_cons_zero, List.set_cons_succ])
              refine wpAnyH_ready (rs := [6, 11]) (by kernel_rfl) (by simp) ?_
              refine AllReadyH.cons rfl (fun K hK => ?_) ?_
              · go_simp
                refine (unhide C20 _).mono ?_
                rintro e w5 ⟨rfl, hb5⟩
                have hB5 : Below wc.heap.size wc w5 := below_t (below_t (below_d (Below.refl _ _)) (below_a _ _)) hb5
                have hx5 : w5.cell? ⟨wc.heap.size, f, none⟩ = some (.string (bstr FT)) := (hb5.cell (p := ⟨wc.heap.size, f, none⟩) (lt_of_cell (unhide Hrow wc.drew))).trans (unhide Hrow wc.drew)
                dsimp only
                refine hK.out _ _ ?_ (fun hHeld => ?_)
                · exact unhide HWc _ hB5
                clear hK K
                (try simp only [Act.put, List.setIfInBounds_toArray, List.set_cons_zero, List.set_cons_succ])
                refine wpAnyH_take (i := 7) (v := ?v7x32) rfl (by kernel_rfl) (by kernel_rfl) (by kernel_rfl) (fun _ _ _ h => h) (Or.inl ⟨by rfl, ?hy7x32⟩) (by assumption) ?rest7x32
                case hy7x32 => (intro w' hSw; (try dsimp only at hSw); go_simp; (try with_reducible rfl))
                (try simp only [Act.put, List.setIfInBounds_toArray, List.set_cons_zero, List.set_cons_succ])
                refine wpAnyH_ready (rs := [11, 19]) (by kernel_rfl) (by simp) ?_
                refine AllReadyH.cons rfl (fun K hK => ?_) ?_
                · go_simp
                  refine hK.out _ _ (by assumption) (fun hHeld => ?_)
                  clear hK K
                  (try simp only [Act.put, List.setIfInBounds_toArray, List.set_cons_zero, List.set_cons_succ])
                  refine wpAnyH_take (i := 12) (v := ?v12x33) rfl (by kernel_rfl) (by kernel_rfl) (by kernel_rfl) (fun _ _ _ h => h) (Or.inl ⟨by rfl, ?hy12x33⟩) (by assumption) ?rest12x33
                  case hy12x33 => (intro w' hSw; (try dsimp only at hSw); go_simp; (try with_reducible rfl))
                  (try simp only [Act.put, List.setIfInBounds_toArray, List.set_cons_zero, List.set_cons_succ])
                  refine wpAnyH_take (i := 13) (v := ?v13x34) rfl (by kernel_rfl) (by kernel_rfl) (by kernel_rfl) (fun _ _ _ h => h) (Or.inl ⟨by rfl, ?hy13x34⟩) (by assumption) ?rest13x34
                  case hy13x34 => (intro w' hSw; (try dsimp only at hSw); go_simp; (try with_reducible rfl))
                  (try simp only [Act.put, List.setIfInBounds_toArray, List.set_cons_zero, List.set_cons_succ])
                  refine wpAnyH_ready (rs := [19]) (by kernel_rfl) (by simp) ?_
                  refine AllReadyH.cons rfl (fun K hK => ?_) ?_
                  · go_simp
                    refine (unhide C18 _).mono ?_
                    rintro e w6 ⟨rfl, hb6⟩
                    have hB6 : Below wc.heap.size wc w6 := below_t hB5 hb6
                    dsimp only
                    refine hK.out _ _ ?_ (fun hHeld => ?_)
                    · exact unhide HWc _ hB6
                    clear hK K
                    (try simp only [Act.put, List.setIfInBounds_toArray, List.set_cons_zero, List.set_cons_succ])
                    refine wpAnyH_take (i := 20) (v := ?v20x35) rfl (by kernel_rfl) (by kernel_rfl) (by kernel_rfl) (fun _ _ _ h => h) (Or.inl ⟨by rfl, ?hy20x35⟩) (by assumption) ?rest20x35
                    case hy20x35 => (intro w' hSw; (try dsimp only at hSw); go_simp; (try with_reducible rfl))
                    (try simp only [Act.put, List.setIfInBounds_toArray, List.set_cons_zero, List.set_cons_succ])
                    refine wpAnyH_take (i := 21) (v := ?v21x36) rfl (by kernel_rfl) (by kernel_rfl) (by kernel_rfl) (fun _ _ _ h => h) (Or.inl ⟨by rfl, ?hy21x36⟩) (by assumption) ?rest21x36
                    case hy21x36 => (intro w' hSw; (try dsimp only at hSw); go_simp; (try with_reducible rfl))
                    (try simp only [Act.put, List.setIfInBounds_toArray, List.set_cons_zero, List.set_cons_succ])
                    refine wpAnyH_take (i := 22) (v := ?v22x37) rfl (by kernel_rfl) (by kernel_rfl) (by kernel_rfl) (fun _ _ _ h => h) (Or.inl ⟨by rfl, ?hy22x37⟩) (by assumption) ?rest22x37
                    case hy22x37 => (intro w' hSw; (try dsimp only at hSw); go_simp; (try with_reducible rfl))
                    (try simp only [Act.put, List.setIfInBounds_toArray, List.set_cons_zero, List.set_cons_succ])
                    refine wpAnyH_done (by kernel_rfl) ?_ _
                    (try refine NoPanic.normal ?_)
                    go_wp2_with fail
                    go_roundw
                    case rel => exact ⟨i + 1, by omega, by rw [unhide HS', unhide Hst2]; exact congrArg Value.string (bytes_ext (by simp)), by rw [unhide Hjs2]; rfl, by go_num, below_t hblc hB6⟩
                    case measure => simp [intOf]; omega
                  exact AllReadyH.nil
                refine AllReadyH.cons rfl (fun K hK => ?_) ?_
                · go_simp
                  refine (unhide C18 _).mono ?_
                  rintro e w6 ⟨rfl, hb6⟩
                  have hB6 : Below wc.heap.size wc w6 := below_t hB5 hb6
                  have hx6 : w6.cell? ⟨wc.heap.size, f, none⟩ = some (.string (bstr FT)) := (hb6.cell (p := ⟨wc.heap.size, f, none⟩) (lt_of_cell hx5)).trans hx5
                  dsimp only
                  refine hK.out _ _ ?_ (fun hHeld => ?_)
                  · exact unhide HWc _ hB6
                  clear hK K
                  (try simp only [Act.put, List.setIfInBounds_toArray, List.set_cons_zero, List.set_cons_succ])
                  refine wpAnyH_ready (rs := [11]) (by kernel_rfl) (by simp) ?_
                  refine AllReadyH.cons rfl (fun K hK => ?_) ?_
                  · go_simp
                    refine hK.out _ _ (by assumption) (fun hHeld => ?_)
                    clear hK K
                    (try simp only [Act.put, List.setIfInBounds_toArray, List.set_cons_zero, List.set_cons_succ])
                    refine wpAnyH_take (i := 12) (v := ?v12x38) rfl (by kernel_rfl) (by kernel_rfl) (by kernel_rfl) (fun _ _ _ h => h) (Or.inl ⟨by rfl, ?hy12x38⟩) (by assumption) ?rest12x38
                    case hy12x38 => (intro w' hSw; (try dsimp only at hSw); go_simp; (try with_reducible rfl))
                    (try simp only [Act.put, List.setIfInBounds_toArray, List.set_cons_zero, List.set_cons_succ])
                    refine wpAnyH_take (i := 13) (v := ?v13x39) rfl (by kernel_rfl) (by kernel_rfl) (by kernel_rfl) (fun _ _ _ h => h) (Or.inl ⟨by rfl, ?hy13x39⟩) (by assumption) ?rest13x39
                    case hy13x39 => (intro w' hSw; (try dsimp only at hSw); go_simp; (try with_reducible rfl))
                    (try simp only [Act.put, List.setIfInBounds_toArray, List.set_cons_zero, List.set_cons_succ])
                    refine wpAnyH_take (i := 20) (v := ?v20x40) rfl (by kernel_rfl) (by kernel_rfl) (by kernel_rfl) (fun _ _ _ h => h) (Or.inl ⟨by rfl, ?hy20x40⟩) (by assumption) ?rest20x40
                    case hy20x40 => (intro w' hSw; (try dsimp only at hSw); go_simp; (try with_reducible rfl))
                    (try simp only [Act.put, List.setIfInBounds_toArray, List.set_cons_zero, List.set_cons_succ])
                    refine wpAnyH_take (i := 21) (v := ?v21x41) rfl (by kernel_rfl) (by kernel_rfl) (by kernel_rfl) (fun _ _ _ h => h) (Or.inl ⟨by rfl, ?hy21x41⟩) (by assumption) ?rest21x41
                    case hy21x41 => (intro w' hSw; (try dsimp only at hSw); go_simp; (try with_reducible rfl))
                    (try simp only [Act.put, List.setIfInBounds_toArray, List.set_cons_zero, List.set_cons_succ])
                    refine wpAnyH_take (i := 22) (v := ?v22x42) rfl (by kernel_rfl) (by kernel_rfl) (by kernel_rfl) (fun _ _ _ h => h) (Or.inl ⟨by rfl, ?hy22x42⟩) (by assumption) ?rest22x42
                    case hy22x42 => (intro w' hSw; (try dsimp only at hSw); go_simp; (try with_reducible rfl))
                    (try simp only [Act.put, List.setIfInBounds_toArray, List.set_cons_zero, List.set_cons_succ])
                    refine wpAnyH_done (by kernel_rfl) ?_ _
                    (try refine NoPanic.normal ?_)
                    go_wp2_with fail
                    go_roundw
                    case rel => exact ⟨i + 1, by omega, by rw [unhide HS', unhide Hst2]; exact congrArg Value.string (bytes_ext (by simp)), by rw [unhide Hjs2]; rfl, by go_num, below_t hblc hB6⟩
                    case measure => simp [intOf]; omega
                  exact AllReadyH.nil
                exact AllReadyH.nil
              refine AllReadyH.cons rfl (fun K hK => ?_) ?_
              · go_simp
                refine hK.out _ _ (by assumption) (fun hHeld => ?_)
                clear hK K
                (try simp only [Act.put, List.setIfInBounds_toArray, List.set_cons_zero, List.set_cons_succ])
                refine wpAnyH_ready (rs := [6]) (by kernel_rfl) (by simp) ?_
                refine AllReadyH.cons rfl (fun K hK => ?_) ?_
                · go_simp
                  refine (unhide C20 _).mono ?_
                  rintro e w5 ⟨rfl, hb5⟩
                  have hB5 : Below wc.heap.size wc w5 := below_t (below_t (below_d (Below.refl _ _)) (below_a _ _)) hb5
                  dsimp only
                  refine hK.out _ _ ?_ (fun hHeld => ?_)
                  · exact unhide HWc _ hB5
                  clear hK K
                  (try simp only [Act.put, List.setIfInBounds_toArray, List.set_cons_zero, List.set_cons_succ])
                  refine wpAnyH_take (i := 7) (v := ?v7x43) rfl (by kernel_rfl) (by kernel_rfl) (by kernel_rfl) (fun _ _ _ h => h) (Or.inl ⟨by rfl, ?hy7x43⟩) (by assumption) ?rest7x43
                  case hy7x43 => (intro w' hSw; (try dsimp only at hSw); go_simp; (try with_reducible rfl))
                  (try simp only [Act.put, List.setIfInBounds_toArray, List.set_cons_zero, List.set_cons_succ])
                  refine wpAnyH_take (i := 12) (v := ?v12x44) rfl (by kernel_rfl) (by kernel_rfl) (by kernel_rfl) (fun _ _ _ h => h) (Or.inl ⟨by rfl, ?hy12x44⟩) (by assumption) ?rest12x44
                  case hy12x44 => (intro w' hSw; (try dsimp only at hSw); go_simp; (try with_reducible rfl))
                  (try simp only [Act.put, List.setIfInBounds_toArray, List.set_cons_zero, List.set_cons_succ])
                  refine wpAnyH_take (i := 13) (v := ?v13x45) rfl (by kernel_rfl) (by kernel_rfl) (by kernel_rfl) (fun _ _ _ h => h) (Or.inl ⟨by rfl, ?hy13x45⟩) (by assumption) ?rest13x45
                  case hy13x45 => (intro w' hSw; (try dsimp only at hSw); go_simp; (try with_reducible rfl))
                  (try simp only [Act.put, List.setIfInBounds_toArray, List.set_cons_zero, List.set_cons_succ])
                  refine wpAnyH_ready (rs := [19]) (by kernel_rfl) (by simp) ?_
                  refine AllReadyH.cons rfl (fun K hK => ?_) ?_
                  · go_simp
                    refine (unhide C18 _).mono ?_
                    rintro e w6 ⟨rfl, hb6⟩
                    have hB6 : Below wc.heap.size wc w6 := below_t hB5 hb6
                    dsimp only
                    refine hK.out _ _ ?_ (fun hHeld => ?_)
                    · exact unhide HWc _ hB6
                    clear hK K
                    (try simp only [Act.put, List.setIfInBounds_toArray, List.set_cons_zero, List.set_cons_succ])
                    refine wpAnyH_take (i := 20) (v := ?v20x46) rfl (by kernel_rfl) (by kernel_rfl) (by kernel_rfl) (fun _ _ _ h => h) (Or.inl ⟨by rfl, ?hy20x46⟩) (by assumption) ?rest20x46
                    case hy20x46 => (intro w' hSw; (try dsimp only at hSw); go_simp; (try with_reducible rfl))
                    (try simp only [Act.put, List.setIfInBounds_toArray, List.set_cons_zero, List.set_cons_succ])
                    refine wpAnyH_take (i := 21) (v := ?v21x47) rfl (by kernel_rfl) (by kernel_rfl) (by kernel_rfl) (fun _ _ _ h => h) (Or.inl ⟨by rfl, ?hy21x47⟩) (by assumption) ?rest21x47
                    case hy21x47 => (intro w' hSw; (try dsimp only at hSw); go_simp; (try with_reducible rfl))
                    (try simp only [Act.put, List.setIfInBounds_toArray, List.set_cons_zero, List.set_cons_succ])
                    refine wpAnyH_take (i := 22) (v := ?v22x48) rfl (by kernel_rfl) (by kernel_rfl) (by kernel_rfl) (fun _ _ _ h => h) (Or.inl ⟨by rfl, ?hy22x48⟩) (by assumption) ?rest22x48
                    case hy22x48 => (intro w' hSw; (try dsimp only at hSw); go_simp; (try with_reducible rfl))
                    (try simp only [Act.put, List.setIfInBounds_toArray, List.set_cons_zero, List.set_cons_succ])
                    refine wpAnyH_done (by kernel_rfl) ?_ _
                    (try refine NoPanic.normal ?_)
                    go_wp2_with fail
                    go_roundw
                    case rel => exact ⟨i + 1, by omega, by rw [unhide HS', unhide Hst2]; exact congrArg Value.string (bytes_ext (by simp)), by rw [unhide Hjs2]; rfl, by go_num, below_t hblc hB6⟩
                    case measure => simp [intOf]; omega
                  exact AllReadyH.nil
                exact AllReadyH.nil
              exact AllReadyH.nil
            exact AllReadyH.nil
    · obtain rfl : i = ms.length := by omega
      rw [List.take_of_length_le (by rw [unhide Hpl]; exact Nat.le_refl _)]
      have hbx := bbox hbl (unhide Hbx)
      have z0 := box_cell hbx 0
      simp only [List.getElem?_toArray, List.getElem?_cons_zero, List.getElem?_cons_succ] at z0
      have hlz := lt_of_box hbx
      go_wp2
      go_ret
      exact ⟨rfl, below_t hb0 hbl⟩
end Go.Proofs.YtegiloiojloaoaaGreatDoor
