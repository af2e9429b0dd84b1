/- The least that is above the last, again and again. -/
import Derived.Test.YtegiloiojloaoaaGreatDoorCRf0
import Derived.Test.YtegiloiojloaoaaGreatDoorCRef31
import Derived.Sort.Walk0
import Derived.Deep.CutBlock
import Derived.Deep.DeepCutAuto
import Derived.Test.YtegiloiojloaoaaGreatDoorCSrce
import Derived.Test.YtegiloiojloaoaaGreatDoorCSpec
import Derived.Test.YtegiloiojloaoaaGreatDoorCIter
import Derived.Test.YtegiloiojloaoaaGreatDoorCAsmL
set_option linter.unusedVariables false
set_option linter.unusedSimpArgs false
namespace Go.Proofs.YtegiloiojloaoaaGreatDoor.Rf
open Strd

def aboveB (last : Option Bs) (x : Bs) : Bool := match last with
  | none => true
  | some y => decide (y < x)
def nameAt (xs : List (Bs × Int)) (k : Int) : Bs := (xs.getD k.toNat ([], 0)).1
/-- The best so far; -1: there is none. -/
def bestTo (xs : List (Bs × Int)) (last : Option Bs) : Nat → Int
  | 0 => -1
  | i + 1 => if aboveB last (nameAt xs i) = true ∧ (bestTo xs last i < 0 ∨ nameAt xs i < nameAt xs (bestTo xs last i)) then i else bestTo xs last i
theorem best_spec (xs : List (Bs × Int)) (last : Option Bs) : ∀ i, (bestTo xs last i = -1 ∧ ∀ j : Nat, j < i → aboveB last (nameAt xs j) = false) ∨ (∃ b : Nat, bestTo xs last i = b ∧ b < i ∧ aboveB last (nameAt xs b) = true ∧ ∀ j : Nat, j < i → aboveB last (nameAt xs j) = true → nameAt xs b ≤ nameAt xs j)
  | 0 => .inl ⟨rfl, fun j h => by omega⟩
  | i + 1 => by
    rw [bestTo]
    rcases best_spec xs last i with ⟨h1, h2⟩ | ⟨b, h1, h2, h3, h4⟩
    · rw [h1]
      cases ha : aboveB last (nameAt xs i) with
      | true =>
        rw [if_pos ⟨rfl, .inl (by omega)⟩]
        refine .inr ⟨i, rfl, by omega, ha, fun j hj hja => ?_⟩
        rcases Nat.lt_succ_iff_lt_or_eq.1 hj with h | h
        · rw [h2 j h] at hja; cases hja
        · subst h; exact List.le_refl _
      | false =>
        rw [if_neg (by rintro ⟨h, _⟩; cases h)]
        refine .inl ⟨rfl, fun j hj => ?_⟩
        rcases Nat.lt_succ_iff_lt_or_eq.1 hj with h | h
        · exact h2 j h
        · subst h; exact ha
    · rw [h1]
      by_cases hc : aboveB last (nameAt xs i) = true ∧ ((b : Int) < 0 ∨ nameAt xs i < nameAt xs b)
      · rw [if_pos hc]
        have hlt : nameAt xs i < nameAt xs b := hc.2.resolve_left (by omega)
        refine .inr ⟨i, rfl, by omega, hc.1, fun j hj hja => ?_⟩
        rcases Nat.lt_succ_iff_lt_or_eq.1 hj with h | h
        · exact List.le_trans (List.le_of_lt hlt) (h4 j h hja)
        · subst h; exact List.le_refl _
      · rw [if_neg hc]
        refine .inr ⟨b, rfl, by omega, h3, fun j hj hja => ?_⟩
        rcases Nat.lt_succ_iff_lt_or_eq.1 hj with h | h
        · exact h4 j h hja
        · subst h
          have : ¬ nameAt xs j < nameAt xs b := fun h => hc ⟨hja, .inr h⟩
          exact List.not_lt.1 this
def lastOf (S : List (Bs × Int)) (k : Nat) : Option Bs := if k = 0 then none else some (nameAt S ((k : Int) - 1))
theorem nameAt_get (S : List (Bs × Int)) (k : Nat) (h : k < S.length) : nameAt S k = S[k].1 := by
  unfold nameAt
  rw [Int.toNat_natCast, List.getD_eq_getElem?_getD, List.getElem?_eq_getElem h]; rfl
theorem best_is (xs S : List (Bs × Int)) (hp : S.Perm xs) (hs : S.Pairwise fun a b => a.1 < b.1) (k : Nat) (hk : k < S.length) : ∃ b : Nat, ∃ h : b < xs.length, bestTo xs (lastOf S k) xs.length = b ∧ xs[b] = S[k] := by
  have hab : ∀ j (hj : j < S.length), aboveB (lastOf S k) S[j].1 = decide (k ≤ j) := by
    intro j hj
    unfold lastOf
    by_cases h0 : k = 0
    · rw [if_pos h0]; subst h0; simp [aboveB]
    · rw [if_neg h0]
      have e : ((k : Int) - 1) = ((k - 1 : Nat) : Int) := by omega
      rw [e, nameAt_get S (k - 1) (by omega)]
      show decide (S[k - 1].1 < S[j].1) = decide (k ≤ j)
      by_cases hkj : k ≤ j
      · have := (List.pairwise_iff_getElem.1 hs) (k - 1) j (by omega) hj (by omega)
        simp [hkj, this]
      · have hle : ¬ S[k - 1].1 < S[j].1 := by
          by_cases hjk : j = k - 1
          · subst hjk; exact List.lt_irrefl _
          · have := (List.pairwise_iff_getElem.1 hs) j (k - 1) hj (by omega) (by omega)
            exact fun h => List.lt_asymm this h
        simp [hkj, hle]
  obtain ⟨m, hm, hme⟩ := List.mem_iff_getElem.1 (hp.mem_iff.1 (List.getElem_mem hk))
  rcases best_spec xs (lastOf S k) xs.length with ⟨h1, h2⟩ | ⟨b, h1, h2, h3, h4⟩
  · have := h2 m hm
    rw [nameAt_get xs m hm, hme, hab k hk] at this
    simp at this
  · refine ⟨b, h2, h1, ?_⟩
    obtain ⟨j, hj, hje⟩ := List.mem_iff_getElem.1 (hp.mem_iff.2 (List.getElem_mem h2))
    rw [nameAt_get xs b h2, ← hje, hab j hj, decide_eq_true_eq] at h3
    have hle := h4 m hm (by rw [nameAt_get xs m hm, hme, hab k hk]; simp)
    rw [nameAt_get xs m hm, hme, nameAt_get xs b h2, ← hje] at hle
    have : j = k := by
      by_cases e : j = k
      · exact e
      · have := (List.pairwise_iff_getElem.1 hs) k j hk hj (by omega)
        exact (List.not_lt.2 hle this).elim
    subst this
    exact hje.symm
end Go.Proofs.YtegiloiojloaoaaGreatDoor.Rf

set_option linter.unusedVariables false
set_option linter.unusedSimpArgs false
namespace Go.Proofs.YtegiloiojloaoaaGreatDoor
open Go.RowKit Go.Shelf Go.Sort Go.Maps

namespace Rf
def lenOf : Value → Nat
  | .slice _ n _ => n
  | _ => 0
theorem best_rng (xs : List (Strd.Bs × Int)) (last : Option Strd.Bs) (i : Nat) : -1 ≤ bestTo xs last i ∧ bestTo xs last i < i := by
  rcases best_spec xs last i with ⟨h1, _⟩ | ⟨b, h1, h2, _⟩
  · rw [h1]; omega
  · rw [h1]; omega
theorem above_eq (x y : Strd.Bs) : (!Op.bytesLess x y && !x == y) = decide (y < x) := by
  rw [bytesLess_eq]
  by_cases h1 : x < y
  · have : ¬ y < x := fun h => List.lt_asymm h1 h
    simp [h1, this]
  · by_cases h2 : x = y
    · subst h2
      simp
    · have h3 : y < x := by
        rcases List.le_iff_lt_or_eq.1 (List.not_lt.1 h1) with h | h
        · exact h
        · exact (h2 h.symm).elim
      simp [h1, h2, h3]
theorem row_at2 {w : World} {base n c : Nat} {p : Option Addr} {l : List (Strd.Bs × Int)} (h : w.ownsRow base 37 2 (.slice p n c) n (labCells l)) (hn : l.length = n) (i : Nat) (hi : i < l.length) : ∃ b, p = some ⟨b, 0, none⟩ ∧ b < w.heap.size ∧ w.cell? ⟨b, i * 2, none⟩ = some (.string (bstr l[i].1)) ∧ w.cell? ⟨b, i * 2 + 1, none⟩ = some (.int .i64 l[i].2) := by
  subst hn
  obtain ⟨b, h1, _, h3, h4, h5⟩ := LabsAt.at h i hi
  exact ⟨b, h1, h3, h4, h5⟩
end Rf
set_option maxRecDepth 1000000 in
set_option maxHeartbeats 8000000 in
theorem Names_refS (s : Strd.Bs) (S : List (Strd.Bs × Int)) (w : World) (hsl : s.length ≤ 9223372036854775807)
    (hSr : ∀ r L n, Strd.readSource s = (r, 0, 0) → Rf.Rel n r L → (Strd.assemble s).2.2 = 0 → S.Perm (Rf.labsTo L (Rf.stL r.org L) L.length) ∧ S.Pairwise fun a b => a.1 < b.1) (hSe : (Strd.assemble s).2.2 ≠ 0 → S = []) :
    Calls Tryz.prog 29 #[.string (bstr s)] w fun e w' => ∃ p c, e = .returned (.tuple #[.slice p S.length c, .int .i64 (Strd.assemble s).2.1, .int .i64 (Strd.assemble s).2.2]) ∧ w'.ownsRow w.heap.size 37 2 (.slice p S.length c) S.length (Rf.labCells S) ∧ Below w.heap.size w w' := by
  obtain ⟨i0, hi0, hz0, hz1, hz2⟩ := info_parts Rf.info37r
  have CM := hide (Made_ref s w hsl)
  have Hasm := hide (fun r L n hr hR => Rf.asm_ref s r L n hr hR)
  generalize hAe : Strd.assemble s = A at *
  have HAe := hide hAe
  have HSr := hide hSr
  have HSe := hide hSe
  clear hAe hSr hSe
  go_enter Tryz.func29, Tryz.ntmps29
  go_wp2_with fail
  refine (unhide CM).mono ?_
  intro e w1 hQ
  rcases hQ with ⟨n, er, hne, hA, rfl, hb1⟩ | ⟨g, k0, r, L, qs, en, pl, cl, pf, cf, pa, ca, pb, cb, rfl, hX, hR, hLn, hor, hbn, hmn, hon, hen, hP, hb1⟩
  ·
    as_aux_lemma =>
      have hA' : A = ((0, []), n, er) := by rw [← unhide HAe]; exact hA
      have hS0 : S = [] := unhide HSe (by rw [hA']; exact hne)
      subst hA'
      subst hS0
      clear hA CM Hasm HSr HSe HAe
      go_wp2
      refine bodyPost_ret (v := .tuple #[.slice none 0 0, .int .i64 (n : Int), .int .i64 er]) (by simp [results, Tryz.results29]) rfl ?_
      exact ⟨none, 0, rfl, World.ownsRow_nil _ _ _ _, hb1⟩
  · have hA := unhide Hasm r L k0 hX hR
    rw [hbn, if_neg (by decide), if_neg hmn, hon, if_neg (by decide), if_neg hen] at hA
    obtain ⟨hSp, hSs⟩ := unhide HSr r L k0 hX hR (by rw [hA])
    have hA0 : A.2 = (0, 0) := by rw [hA]
    have hll := Rf.labsTo_len L (Rf.stL r.org L) L.length
    generalize Rf.labsTo L (Rf.stL r.org L) L.length = LB at *
    have HSl := hide hSp.length_eq
    have HSp := hide hSp
    have HSs := hide hSs
    have HP := hide hP
    obtain ⟨A1, A2, A3⟩ := A
    simp only [Prod.mk.injEq] at hA0
    obtain ⟨rfl, rfl⟩ := hA0
    clear hA hSp hSs hP hR hX hbn hmn hon hen HAe Hasm HSr HSe CM
    go_wp2_with fail
    go_loopw [8] (fun c8 wr => ∃ (k : Nat) (p : Option Addr) (c : Nat), k ≤ S.length ∧ c8 = .slice p k c ∧ wr.ownsRow w1.heap.size 37 2 (.slice p k c) k (Rf.labCells (S.take k)) ∧ Below w1.heap.size w1 wr) (fun c _ => LB.length - Rf.lenOf c)
    case atStart => exact ⟨0, none, 0, by omega, rfl, World.ownsRow_nil _ _ _ _, Below.refl _ _⟩
    case round =>
      obtain ⟨k, p8, c8, hk, rfl, hrow, hBr⟩ := hrel
      have hPr := (unhide HP).below hBr
      have r5 := box_cell hPr.box 5
      simp only [List.getElem?_toArray, List.getElem?_cons_zero, List.getElem?_cons_succ] at r5
      have hgl := lt_of_box hPr.box
      have HLr := hide hPr.labs
      have Hrow := hide hrow
      clear hrow hPr
      by_cases hlt : k < S.length
      · obtain ⟨b, hbl, hbe, hbx⟩ := Rf.best_is LB S (unhide HSp) (unhide HSs) k hlt
        have hkI : (k : Int) < (LB.length : Int) := by have := unhide HSl; omega
        go_upto_block 2 with fail
        go_cut [9] (fun c9 wz => c9 = .int .i64 (b : Int) ∧ wz = wr)
        case first =>
          as_aux_lemma =>
            go_wp2_with fail
            go_loopw [9, 10] (fun c9 c10 wv => ∃ i : Nat, i ≤ LB.length ∧ c10 = .int .i64 i ∧ c9 = .int .i64 (Rf.bestTo LB (Rf.lastOf S k) i) ∧ wv = wr) (fun _ c _ => LB.length - (intOf c).toNat)
            case atStart => exact ⟨0, by omega, rfl, rfl, rfl⟩
            case round =>
              obtain ⟨i, hi, rfl, rfl, hwv⟩ := hrel
              have hwv' := hwv.symm
              subst hwv'
              by_cases hli : i < LB.length
              · obtain ⟨bb, hpb, hxx, hbb, x0, _⟩ := (unhide HLr).at i hli
                clear hxx
                subst hpb
                have hliI : (i : Int) < (LB.length : Int) := by omega
                have q1 : IntKind.i64.wrap ((i : Int) + 1) = (i : Int) + 1 := IntWalk.i64_in _ (by omega)
                have hna : Rf.nameAt LB i = LB[i].1 := Rf.nameAt_get LB i hli
                go_upto_region 11 with fail
                go_cut [12] (fun c12 wz => c12 = .bool (Rf.aboveB (Rf.lastOf S k) LB[i].1) ∧ wz = wr)
                case first =>
                  as_aux_lemma =>
                    by_cases hk0 : k = 0
                    · have hkb : ((k : Int) == 0) = true := by simp [hk0]
                      have HAb : Hid (Rf.aboveB (Rf.lastOf S k) LB[i].1 = true) := hide (by unfold Rf.lastOf; rw [if_pos hk0]; rfl)
                      clear hk0
                      go_wp2
                      go_meet
                      exact ⟨by rw [unhide HAb], rfl⟩
                    · obtain ⟨j, rfl⟩ : ∃ j, k = j + 1 := ⟨k - 1, by omega⟩
                      have hkb : (((j + 1 : Nat) : Int) == 0) = false := by simp; omega
                      have hkb2 : (((j : Int) + 1) == 0) = false := by simp; omega
                      obtain ⟨bo, hpo, hbo, o0, _⟩ := Rf.row_at2 (unhide Hrow) (by rw [List.length_take]; omega) j (by rw [List.length_take]; omega)
                      subst hpo
                      rw [List.getElem_take] at o0
                      have HAb : Hid (Rf.aboveB (Rf.lastOf S (j + 1)) LB[i].1 = decide (S[j].1 < LB[i].1)) := hide (by
                        unfold Rf.lastOf
                        rw [if_neg (by omega)]
                        have e : (((j + 1 : Nat) : Int) - 1) = (j : Int) := by omega
                        rw [e, Rf.nameAt_get S j (by omega)]
                        rfl)
                      have hjI : (j : Int) < ((j + 1 : Nat) : Int) := by omega
                      have hjI2 : (j : Int) < (j : Int) + 1 := by omega
                      have q2 : IntKind.i64.wrap (((j + 1 : Nat) : Int) - 1) = (j : Int) := by rw [IntWalk.i64_in _ (by omega)]; omega
                      have q3 : IntKind.i64.wrap ((j : Int) + 1 - 1) = (j : Int) := by rw [IntWalk.i64_in _ (by omega)]; omega
                      generalize S[j].1 = yj at *
                      generalize LB[i].1 = xi at *
                      clear hk0
                      go_wp2
                      go_meet
                      exact ⟨by rw [unhide HAb, ← Rf.above_eq], rfl⟩
                case rest =>
                  as_aux_lemma =>
                    obtain ⟨rfl, hwz⟩ := hcut
                    have hwz' := hwz.symm
                    subst hwz'
                    have hbr := Rf.best_rng LB (Rf.lastOf S k) i
                    have Hbs : Hid (Rf.bestTo LB (Rf.lastOf S k) (i + 1) = if Rf.aboveB (Rf.lastOf S k) LB[i].1 = true ∧ (Rf.bestTo LB (Rf.lastOf S k) i < 0 ∨ LB[i].1 < Rf.nameAt LB (Rf.bestTo LB (Rf.lastOf S k) i)) then (i : Int) else Rf.bestTo LB (Rf.lastOf S k) i) := hide (by rw [Rf.bestTo, hna])
                    generalize hBN : Rf.bestTo LB (Rf.lastOf S k) (i + 1) = BN at *
                    have HBN := hide hBN
                    clear hBN
                    generalize Rf.bestTo LB (Rf.lastOf S k) i = BT at *
                    generalize Rf.aboveB (Rf.lastOf S k) LB[i].1 = AB at *
                    clear hna
                    cases AB with
                    | false =>
                      have HB : Hid (BN = BT) := hide (by rw [unhide Hbs, if_neg (by rintro ⟨h, _⟩; cases h)])
                      clear Hbs
                      go_wp2
                      go_roundw
                      case rel => exact ⟨i + 1, by omega, by go_num, by rw [unhide HBN, unhide HB], by first | rfl | trivial⟩
                      case measure => simp [intOf]; omega
                    | true =>
                      by_cases hneg : BT < 0
                      · have HB : Hid (BN = (i : Int)) := hide (by rw [unhide Hbs, if_pos ⟨rfl, .inl hneg⟩])
                        clear Hbs
                        go_wp2
                        go_roundw
                        case rel => exact ⟨i + 1, by omega, by go_num, by rw [unhide HBN, unhide HB], by first | rfl | trivial⟩
                        case measure => simp [intOf]; omega
                      · obtain ⟨bt, rfl⟩ : ∃ bt : Nat, BT = (bt : Int) := ⟨BT.toNat, by omega⟩
                        have hbtl : bt < LB.length := by omega
                        obtain ⟨bb', hpb', hxx, _, y0, _⟩ := (unhide HLr).at bt hbtl
                        clear hxx
                        cases hpb'
                        have hbtI : (bt : Int) < (LB.length : Int) := by omega
                        have hnb : Rf.nameAt LB (bt : Int) = LB[bt].1 := Rf.nameAt_get LB bt hbtl
                        rw [hnb] at Hbs
                        generalize LB[bt].1 = yb at *
                        generalize LB[i].1 = xi at *
                        clear hnb
                        by_cases hxy : xi < yb
                        · have HB : Hid (BN = (i : Int)) := hide (by rw [unhide Hbs, if_pos ⟨rfl, .inr hxy⟩])
                          have hbl2 : Op.bytesLess xi yb = true := by rw [bytesLess_eq]; simp [hxy]
                          clear Hbs hxy
                          go_wp2
                          go_roundw
                          case rel => exact ⟨i + 1, by omega, by go_num, by rw [unhide HBN, unhide HB], by first | rfl | trivial⟩
                          case measure => simp [intOf]; omega
                        · have HB : Hid (BN = (bt : Int)) := hide (by rw [unhide Hbs, if_neg (fun h => h.2.elim (fun h => by omega) (fun h => hxy h))])
                          have hbl2 : Op.bytesLess xi yb = false := by rw [bytesLess_eq]; simp [hxy]
                          clear Hbs hxy
                          go_wp2
                          go_roundw
                          case rel => exact ⟨i + 1, by omega, by go_num, by rw [unhide HBN, unhide HB], by first | rfl | trivial⟩
                          case measure => simp [intOf]; omega
              · obtain rfl : i = LB.length := by omega
                have hliI : ¬ (LB.length : Int) < (LB.length : Int) := by omega
                rw [hbe]
                go_wp2
                go_meet
                exact ⟨rfl, rfl⟩
        case rest =>
          as_aux_lemma =>
            obtain ⟨rfl, hwz⟩ := hcut
            have hwz' := hwz.symm
            subst hwz'
            obtain ⟨bb, hpb, hxx, hbb, x0, x1⟩ := (unhide HLr).at b hbl
            clear hxx
            subst hpb
            rw [hbx] at x0 x1
            have hbI : (b : Int) < (LB.length : Int) := by omega
            have hsw := hBr.size
            have Hst : Hid (Rf.labCells (S.take (k + 1)) = Rf.labCells (S.take k) ++ [.string (bstr S[k].1), .int .i64 S[k].2]) := hide (by
              rw [List.take_add_one, List.getElem?_eq_getElem hlt, Rf.labCells_app]
              rfl)
            generalize S[k].1 = sk at *
            generalize S[k].2 = vk at *
            have hml : k ≤ 4001 := by have := unhide HSl; omega
            clear hbe hbx
            go_wp2_with (first | (at_builtin; refine wpList_append_own _ rfl _ _ 33 rfl w1.heap.size 37 i0 (.agg #[.string ⟨#[]⟩, .int .i64 0]) 2 24 Tryz.underlying33 hi0 hz0 hz1 hz2 rfl (by decide) _ _ _ rfl ((unhide Hrow).alloc _) ⟨wr.heap.size, 0, none⟩ 1 1 [.string (bstr sk), .int .i64 vk] rfl rfl (Rf.cells_two _ _ _ _) (Rf.lab_one _ _) (by unfold maxLen; omega) (by omega) (by rw [World.size_alloc]; omega) ?_; intro v1 w4 hown hgrow _; obtain ⟨p9, c9, rfl⟩ := Rf.row_shape hown; have Hown := hide hown; have Hgr := hide hgrow; clear hown hgrow) | go_in)
            go_roundw
            case rel =>
              have hb4 : Below w1.heap.size w1 w4 := Below.grown (hBr.alloc hsw _) (unhide Hgr) (by rw [World.size_alloc]; omega) (fun k e => by have := ((unhide Hrow).lt _ e).1; omega)
              refine ⟨k + 1, p9, c9, by omega, rfl, ?_, hb4⟩
              rw [unhide Hst]
              exact unhide Hown
            case measure => simp only [Rf.lenOf]; have := unhide HSl; omega
      ·
        as_aux_lemma =>
          obtain rfl : k = S.length := by omega
          have hkI : ¬ (S.length : Int) < (LB.length : Int) := by have := unhide HSl; omega
          go_wp2
          refine bodyPost_ret (v := .tuple #[.slice p8 S.length c8, .int .i64 0, .int .i64 0]) (by simp [results, Tryz.results29]) rfl ?_
          have := unhide Hrow
          rw [List.take_length] at this
          exact ⟨p8, c8, rfl, Rf.row_base this hb1.size, below_t hb1 hBr⟩
end Go.Proofs.YtegiloiojloaoaaGreatDoor

set_option linter.unusedVariables false
set_option linter.unusedSimpArgs false
namespace Go.Proofs.YtegiloiojloaoaaGreatDoor
open Go.RowKit Go.Shelf Go.Sort Go.Maps

def posOf (ps : List (Strd.ML × Nat)) (k : Nat) : Nat := (Strd.srcOf (ps.take k)).length
theorem posOf_zero (ps : List (Strd.ML × Nat)) : posOf ps 0 = 0 := rfl
theorem posOf_end (ps : List (Strd.ML × Nat)) : posOf ps ps.length = (Strd.srcOf ps).length := by unfold posOf; rw [List.take_length]
theorem posOf_succ (ps : List (Strd.ML × Nat)) (n : Nat) (h : n < ps.length) : posOf ps (n + 1) = posOf ps n + ((ps[n].1.text ps[n].2).length + 1) := by
  unfold posOf
  rw [src_take ps n h]
  simp
theorem src_cut (ps : List (Strd.ML × Nat)) (k : Nat) : Strd.srcOf ps = Strd.srcOf (ps.take k) ++ Strd.srcOf (ps.drop k) := by
  rw [← Strd.src_app, List.take_append_drop]
theorem posOf_le (ps : List (Strd.ML × Nat)) (k : Nat) : posOf ps k ≤ (Strd.srcOf ps).length := by
  rw [src_cut ps k, List.length_append]; unfold posOf; omega
theorem src_at (ps : List (Strd.ML × Nat)) (ho : ∀ p ∈ ps, Strd.PairOk p) (n : Nat) (hn : n < ps.length) (i : Nat) (h1 : posOf ps n ≤ i) (h2 : i < posOf ps (n + 1)) : ∃ c, (Strd.srcOf ps)[i]? = some c ∧ (c = 10 ↔ i + 1 = posOf ps (n + 1)) := by
  have hp := posOf_succ ps n hn
  have h10 := Strd.ml_no10 ps[n].1 (ho _ (List.getElem_mem hn)).1 ps[n].2 (ho _ (List.getElem_mem hn)).2
  have e : Strd.srcOf ps = Strd.srcOf (ps.take n) ++ ((ps[n].1.text ps[n].2 ++ [10]) ++ Strd.srcOf (ps.drop (n + 1))) := by
    rw [src_cut ps (n + 1), src_take ps n hn, List.append_assoc]
  generalize ps[n].1.text ps[n].2 = T at *
  have hj : i - posOf ps n < (T ++ [10]).length := by rw [List.length_append, List.length_singleton]; omega
  have e2 : (Strd.srcOf ps)[i]? = (T ++ [10])[i - posOf ps n]? := by
    rw [e, List.getElem?_append_right (by exact h1), List.getElem?_append_left (by exact hj)]
    rfl
  rw [e2]
  by_cases hlt : i - posOf ps n < T.length
  · refine ⟨T[i - posOf ps n], by rw [List.getElem?_append_left hlt, List.getElem?_eq_getElem hlt], ?_⟩
    have := h10 _ (List.getElem_mem hlt)
    exact ⟨fun h => absurd h this, fun h => by omega⟩
  · have hq : i - posOf ps n = T.length := by rw [List.length_append, List.length_singleton] at hj; omega
    refine ⟨10, by rw [hq, List.getElem?_append_right (Nat.le_refl _), Nat.sub_self]; rfl, ?_⟩
    exact ⟨fun _ => by omega, fun _ => rfl⟩

set_option maxRecDepth 1000000 in
set_option maxHeartbeats 4000000 in
theorem Names_err (s : ByteArray) (w : World) (hs : s.size ≤ 2 ^ 20) (h11 : 11 ≤ w.heap.size) (hT : Tabs w) (he : (Strd.readSource s.data.toList).2.2 ≠ 0) :
    Calls Tryz.prog 13 #[.string s] w fun e w' => e = .returned (.tuple #[.slice none 0 0, .int .i64 (Strd.readSource s.data.toList).2.1, .int .i64 (Strd.readSource s.data.toList).2.2]) ∧ Below w.heap.size w w' := by
  have hA : layOutOf s.data.toList = (([], []), (Strd.readSource s.data.toList).2.1, (Strd.readSource s.data.toList).2.2) := by unfold layOutOf; rw [if_pos he]
  have cL := layOut_c s w hs h11 hT
  rw [hA] at cL
  generalize (Strd.readSource s.data.toList).2.1 = ln at *
  generalize (Strd.readSource s.data.toList).2.2 = er at *
  have CL := hide cL
  clear cL hA
  go_enter Tryz.func13, Tryz.ntmps13
  go_wp2_with fail
  refine (unhide CL).mono ?_
  rintro e w1 ⟨ps, rfl, ⟨o3, p3, n3, c3, m3, p4, n4, c4, p5, n5, c5, rfl⟩, -, hb1⟩
  have hb2 := below_a w1 (.cells #[.int .i64 o3, .slice p3 n3 c3, .map m3, .slice p4 n4 c4, .slice p5 n5 c5] 67)
  go_wp2
  refine bodyPost_ret (v := .tuple #[.slice none 0 0, .int .i64 (ln : Int), .int .i64 er]) (by simp [results, Tryz.results13]) rfl ?_
  exact ⟨rfl, below_t hb1 hb2⟩
end Go.Proofs.YtegiloiojloaoaaGreatDoor

set_option linter.unusedVariables false
set_option linter.unusedSimpArgs false
namespace Go.Proofs.YtegiloiojloaoaaGreatDoor.Strd

def jn (n : Nat) : Bs := 106 :: dec n
def kn (n : Nat) : Bs := 107 :: dec n
/-- The lines of one line, by the number of jumps ahead. -/
def rTexts1 (n : Nat) (m : ML) : List Bs :=
  (if m.label < 0 then [] else [m.name ++ [58]]) ++
  (if m.word < 0 then [m.rest.body.text] else [jn n ++ 58 :: (jumpTexts.getD m.word.toNat [] ++ 32 :: nameTexts.getD m.to.toNat []), kn n ++ [58]])
def rLines1 (n : Nat) (m : ML) : List Line :=
  (if m.label < 0 then [] else [⟨m.name, emptyIns⟩]) ++
  (if m.word < 0 then [⟨[], m.rest.body.ins⟩] else [⟨jn n, (jumpBody m.word.toNat 0 m.to.toNat).ins⟩, ⟨kn n, emptyIns⟩])
def rNext (n : Nat) (m : ML) : Nat := if m.word < 0 then n else n + 1
def rTexts : Nat → List ML → List Bs
  | _, [] => []
  | n, m :: ms => rTexts1 n m ++ rTexts (rNext n m) ms
def rLines : Nat → List ML → List Line
  | _, [] => []
  | n, m :: ms => rLines1 n m ++ rLines (rNext n m) ms
def linesText (l : List Bs) : Bs := (l.map (· ++ [10])).flatten
def rSrc (ms : List ML) : Bs := linesText (rTexts 0 ms)
def RL (ms : List ML) : List Line := rLines 0 ms ++ [emptyLine]
theorem linesText_app (a b : List Bs) : linesText (a ++ b) = linesText a ++ linesText b := by simp [linesText]
theorem rTexts_app : ∀ (a b : List ML) (n : Nat), rTexts n (a ++ b) = rTexts n a ++ rTexts (n + jumpsIn a) b
  | [], b, n => by simp [rTexts, jumpsIn]
  | m :: a, b, n => by
    have e : rNext n m + jumpsIn a = n + jumpsIn (m :: a) := by
      unfold rNext jumpsIn
      rw [List.countP_cons]
      split
      · rename_i h
        rw [if_neg (by simp; omega)]
        omega
      · rename_i h
        rw [if_pos (by simp; omega)]
        omega
    rw [List.cons_append, rTexts, rTexts, rTexts_app a b, List.append_assoc, e]
theorem rSrc_snoc (ms : List ML) (i : Nat) (h : i < ms.length) : rSrc (ms.take (i + 1)) = rSrc (ms.take i) ++ linesText (rTexts1 (jIdx ms i) ms[i]) := by
  unfold rSrc
  rw [List.take_succ_eq_append_getElem h, rTexts_app, linesText_app]
  simp only [rTexts, List.append_nil, Nat.zero_add]
  rfl
theorem own_names : ∀ n, n < 40 → isName (jn n) = true ∧ isName (kn n) = true ∧ (jn n).all plainSign = true ∧ (kn n).all plainSign = true ∧ labelName (jn n) = some (jn n) ∧ labelName (kn n) = some (kn n) ∧ (jn n).length ≤ 3 ∧ (kn n).length ≤ 3 := by decide +kernel
theorem dec_inj {a b : Nat} (h : dec a = dec b) : a = b := by
  have h1 := dec_val a
  rw [h, dec_val b] at h1
  exact (Option.some.inj h1).symm
theorem names_jk : ∀ t, t < 6 → (nameTexts.getD t []).head? ≠ some 106 ∧ (nameTexts.getD t []).head? ≠ some 107 := by decide
/-- A line's own number stands behind those ahead. -/
structure RMs (n : Nat) (ms : List ML) : Prop where
  ok : ∀ m ∈ ms, MLOk m
  even : ∀ m ∈ ms, RestEven m.rest
  many : n + ms.length ≤ 40
theorem RMs.tail {n : Nat} {m : ML} {ms : List ML} (h : RMs n (m :: ms)) : RMs (rNext n m) ms := ⟨fun x hx => h.ok x (by simp [hx]), fun x hx => h.even x (by simp [hx]), by
  have := h.many
  rw [List.length_cons] at this
  unfold rNext
  split <;> omega⟩
theorem empty_instr : instruction [] = some emptyIns := rfl
theorem label_read (nm : Bs) (h1 : nm.all plainSign = true) (h2 : labelName nm = some nm) : readLine (nm ++ [58]) = some ⟨nm, emptyIns⟩ ∧ ∀ c ∈ nm ++ [58], c ≠ 10 := by
  have hs : ∀ c ∈ nm, c ≠ 58 ∧ c ≠ 59 ∧ c ≠ 10 := fun c hc => (plain_parts (List.all_eq_true.1 h1 c hc)).2.2
  constructor
  · have := readLine_named nm [] [] (fun c hc => ⟨(hs c hc).1, (hs c hc).2.1⟩) (fun c hc => by cases hc) (.inl rfl)
    rw [List.append_nil, empty_instr, h2] at this
    exact this
  · intro c hc
    rcases List.mem_append.1 hc with hc | hc
    · exact (hs c hc).2.2
    · rw [List.mem_singleton] at hc; subst hc; decide
theorem r1_read (n : Nat) (hn : n < 40) (m : ML) (hm : MLOk m) : (rTexts1 n m).map readLine = (rLines1 n m).map some ∧ (∀ t ∈ rTexts1 n m, ∀ c ∈ t, c ≠ 10) ∧ (∀ l ∈ rLines1 n m, Addable l) := by
  obtain ⟨o1, o2, o3, o4, o5, o6, _, _⟩ := own_names n hn
  have hw := hm.word
  have ht := hm.to
  have hA : ∀ nm : Bs, Addable ⟨nm, emptyIns⟩ := fun nm => ⟨rfl, show (0 : Int) ≠ 11 by decide⟩
  have hlab : ((if m.label < 0 then [] else [m.name ++ [58]]) : List Bs).map readLine = ((if m.label < 0 then [] else [⟨m.name, emptyIns⟩]) : List Line).map some ∧ (∀ t ∈ ((if m.label < 0 then [] else [m.name ++ [58]]) : List Bs), ∀ c ∈ t, c ≠ 10) ∧ (∀ l ∈ ((if m.label < 0 then [] else [⟨m.name, emptyIns⟩]) : List Line), Addable l) := by
    split
    · exact ⟨rfl, (fun t h => by cases h), (fun l h => by cases h)⟩
    · rename_i hl
      obtain ⟨_, n2, _, n4⟩ := label_name m hm hl
      have := label_read m.name n2 n4
      refine ⟨by rw [List.map_singleton, this.1]; rfl, fun t h => ?_, fun l h => ?_⟩
      · rw [List.mem_singleton] at h; subst h; exact this.2
      · rw [List.mem_singleton] at h; subst h; exact hA _
  have hbody : ((if m.word < 0 then [m.rest.body.text] else [jn n ++ 58 :: (jumpTexts.getD m.word.toNat [] ++ 32 :: nameTexts.getD m.to.toNat []), kn n ++ [58]]) : List Bs).map readLine = ((if m.word < 0 then [⟨[], m.rest.body.ins⟩] else [⟨jn n, (jumpBody m.word.toNat 0 m.to.toNat).ins⟩, ⟨kn n, emptyIns⟩]) : List Line).map some ∧ (∀ t ∈ ((if m.word < 0 then [m.rest.body.text] else [jn n ++ 58 :: (jumpTexts.getD m.word.toNat [] ++ 32 :: nameTexts.getD m.to.toNat []), kn n ++ [58]]) : List Bs), ∀ c ∈ t, c ≠ 10) ∧ (∀ l ∈ ((if m.word < 0 then [⟨[], m.rest.body.ins⟩] else [⟨jn n, (jumpBody m.word.toNat 0 m.to.toNat).ins⟩, ⟨kn n, emptyIns⟩]) : List Line), Addable l) := by
    split
    · rename_i hl
      have hb := rest_ok _ hm.rest
      have e : m.body 0 = m.rest.body := by unfold ML.body; rw [if_pos hl]
      have h2 := two_xs m 0
      rw [e] at h2
      have hlaid := body_laid m.rest.body h2
      have hi := instr_body _ hb [] _ [] blanks_nil hlaid blanks_nil
      have hs := laid_signs _ hb _ hlaid
      have hr := readLine_bare m.rest.body.text [] (fun c hc => ⟨(hs c hc).1, (hs c hc).2.1⟩) (.inl rfl)
      simp only [List.append_nil, List.nil_append] at hi hr
      rw [hi] at hr
      refine ⟨by rw [List.map_singleton, hr]; rfl, fun t h => ?_, fun l h => ?_⟩
      · rw [List.mem_singleton] at h; subst h; exact fun c hc => (hs c hc).2.2
      · rw [List.mem_singleton] at h; subst h; exact ⟨hb.may, hb.org⟩
    · rename_i hl
      have hb := jump_ok m.word.toNat 0 m.to.toNat (by omega) (by simp [formOk]) (by omega)
      have hx : (jumpBody m.word.toNat 0 m.to.toNat).text = jumpTexts.getD m.word.toNat [] ++ 32 :: nameTexts.getD m.to.toNat [] := by
        unfold jumpBody Body.text
        simp [formTexts]
      have hlaid := body_laid (jumpBody m.word.toNat 0 m.to.toNat) (by simp [jumpBody])
      have hi := instr_body _ hb [] _ [] blanks_nil hlaid blanks_nil
      have hs := laid_signs _ hb _ hlaid
      rw [hx] at hi hs
      have hsn : ∀ c ∈ jn n, c ≠ 58 ∧ c ≠ 59 ∧ c ≠ 10 := fun c hc => (plain_parts (List.all_eq_true.1 o3 c hc)).2.2
      have hr := readLine_named (jn n) (jumpTexts.getD m.word.toNat [] ++ 32 :: nameTexts.getD m.to.toNat []) [] (fun c hc => ⟨(hsn c hc).1, (hsn c hc).2.1⟩) (fun c hc => ⟨(hs c hc).1, (hs c hc).2.1⟩) (.inl rfl)
      simp only [List.append_nil, List.nil_append] at hi hr
      rw [hi, o5] at hr
      have hk := label_read (kn n) o4 o6
      refine ⟨by simp only [List.map_cons, List.map_nil, hr, hk.1]; rfl, fun t h => ?_, fun l h => ?_⟩
      · simp only [List.mem_cons, List.not_mem_nil, or_false] at h
        rcases h with rfl | rfl
        · intro c hc
          rcases List.mem_append.1 hc with hc | hc
          · exact (hsn c hc).2.2
          · rcases List.mem_cons.1 hc with rfl | hc
            · decide
            · exact (hs c hc).2.2
        · exact hk.2
      · simp only [List.mem_cons, List.not_mem_nil, or_false] at h
        rcases h with rfl | rfl
        · exact ⟨hb.may, hb.org⟩
        · exact hA _
  unfold rTexts1 rLines1
  refine ⟨by rw [List.map_append, List.map_append, hlab.1, hbody.1], fun t h => ?_, fun l h => ?_⟩
  · rcases List.mem_append.1 h with h | h
    · exact hlab.2.1 t h
    · exact hbody.2.1 t h
  · rcases List.mem_append.1 h with h | h
    · exact hlab.2.2 l h
    · exact hbody.2.2 l h
theorem r_read : ∀ (ms : List ML) (n : Nat), RMs n ms → (rTexts n ms).map readLine = (rLines n ms).map some ∧ (∀ t ∈ rTexts n ms, ∀ c ∈ t, c ≠ 10) ∧ (∀ l ∈ rLines n ms, Addable l)
  | [], n, _ => ⟨rfl, (fun t h => by cases h), (fun l h => by cases h)⟩
  | m :: ms, n, h => by
    obtain ⟨i1, i2, i3⟩ := r_read ms _ h.tail
    have hmany := h.many
    rw [List.length_cons] at hmany
    obtain ⟨j1, j2, j3⟩ := r1_read n (by omega) m (h.ok m (by simp))
    unfold rTexts rLines
    refine ⟨by rw [List.map_append, List.map_append, i1, j1], fun t ht => ?_, fun l hl => ?_⟩
    · rcases List.mem_append.1 ht with ht | ht
      · exact j2 t ht
      · exact i2 t ht
    · rcases List.mem_append.1 hl with hl | hl
      · exact j3 l hl
      · exact i3 l hl
/-- The labels: of lines told ahead, of jumps from n on. -/
theorem r1_labels (n : Nat) (m : ML) (hm : MLOk m) : ∀ l ∈ rLines1 n m, l.label ≠ [] → (¬ m.label < 0 ∧ l.label = m.name) ∨ (¬ m.word < 0 ∧ (l.label = jn n ∨ l.label = kn n)) := by
  intro l hl h0
  unfold rLines1 at hl
  rcases List.mem_append.1 hl with h | h
  · split at h
    · cases h
    · rename_i hn
      rw [List.mem_singleton] at h; subst h
      exact .inl ⟨hn, rfl⟩
  · split at h
    · rw [List.mem_singleton] at h; subst h
      exact (h0 rfl).elim
    · rename_i hn
      simp only [List.mem_cons, List.not_mem_nil, or_false] at h
      rcases h with rfl | rfl
      · exact .inr ⟨hn, .inl rfl⟩
      · exact .inr ⟨hn, .inr rfl⟩
theorem r_labels : ∀ (ms : List ML) (n : Nat), (∀ m ∈ ms, MLOk m) → ∀ l ∈ rLines n ms, l.label ≠ [] → (∃ m ∈ ms, ¬ m.label < 0 ∧ l.label = m.name) ∨ (∃ k, n ≤ k ∧ (l.label = jn k ∨ l.label = kn k))
  | [], _, _, l, hl, _ => by cases hl
  | m :: ms, n, hok, l, hl, h0 => by
    unfold rLines at hl
    rcases List.mem_append.1 hl with h | h
    · rcases r1_labels n m (hok m (by simp)) l h h0 with h1 | h1
      · exact .inl ⟨m, by simp, h1⟩
      · exact .inr ⟨n, Nat.le_refl _, h1.2⟩
    · rcases r_labels ms _ (fun x hx => hok x (by simp [hx])) l h h0 with ⟨x, hx, h1⟩ | ⟨k, hk, h1⟩
      · exact .inl ⟨x, by simp [hx], h1⟩
      · exact .inr ⟨k, by unfold rNext at hk; split at hk <;> omega, h1⟩
theorem name_jk (m : ML) (hm : MLOk m) (h : ¬ m.label < 0) (k : Nat) : m.name ≠ jn k ∧ m.name ≠ kn k := by
  have := hm.label
  have h1 := names_jk m.label.toNat (by omega)
  unfold ML.name
  rw [if_neg h]
  constructor
  · intro e; rw [e] at h1; exact h1.1 rfl
  · intro e; rw [e] at h1; exact h1.2 rfl
theorem jk_ne (a b : Nat) : jn a ≠ kn b := by
  intro e
  have := (List.cons.inj e).1
  exact absurd this (by decide)
theorem r_fresh : ∀ (ms : List ML) (n : Nat), (∀ m ∈ ms, MLOk m) → (ms.Pairwise fun a b => 0 ≤ a.label → 0 ≤ b.label → a.label < b.label) → Fresh (rLines n ms)
  | [], _, _, _ => List.Pairwise.nil
  | m :: ms, n, hok, hp => by
    have hp' := List.pairwise_cons.1 hp
    have hm := hok m (by simp)
    unfold rLines
    refine List.pairwise_append.2 ⟨?_, r_fresh ms _ (fun x hx => hok x (by simp [hx])) hp'.2, ?_⟩
    · unfold rLines1
      have hnj : ¬ m.label < 0 → m.name ≠ jn n ∧ m.name ≠ kn n := fun h => name_jk m hm h n
      split <;> split
      · exact List.pairwise_singleton _ _
      · refine List.pairwise_cons.2 ⟨fun b hb _ => ?_, List.pairwise_singleton _ _⟩
        rw [List.mem_singleton] at hb; subst hb
        exact jk_ne n n
      · rename_i h1 h2
        refine List.pairwise_cons.2 ⟨fun b hb h0 => ?_, List.pairwise_singleton _ _⟩
        have hb : b ∈ [(⟨[], m.rest.body.ins⟩ : Line)] := hb
        rw [List.mem_singleton] at hb; subst hb
        exact h0
      · rename_i h1 h2
        refine List.pairwise_cons.2 ⟨fun b hb h0 => ?_, List.pairwise_cons.2 ⟨fun b hb _ => ?_, List.pairwise_singleton _ _⟩⟩
        · have hb : b ∈ [(⟨jn n, (jumpBody m.word.toNat 0 m.to.toNat).ins⟩ : Line), ⟨kn n, emptyIns⟩] := hb
          simp only [List.mem_cons, List.not_mem_nil, or_false] at hb
          rcases hb with rfl | rfl
          · exact (hnj h1).1
          · exact (hnj h1).2
        · rw [List.mem_singleton] at hb; subst hb
          exact jk_ne n n
    · intro a ha b hb h0 e
      have hb0 : b.label ≠ [] := by rw [← e]; exact h0
      have ca := r1_labels n m hm a ha h0
      have cb := r_labels ms _ (fun x hx => hok x (by simp [hx])) b hb hb0
      rw [← e] at cb
      rcases ca with ⟨a1, a2⟩ | ⟨a1, a2⟩
      · rw [a2] at cb
        rcases cb with ⟨x, hx, b1, b2⟩ | ⟨k, hk, b2⟩
        · have h3 := hp'.1 x hx
          have hx' := hok x (by simp [hx])
          exact name_lt hm hx' h3 (label_name m hm a1).2.2.1 b2
        · rcases b2 with b2 | b2
          · exact (name_jk m hm a1 k).1 b2
          · exact (name_jk m hm a1 k).2 b2
      · have hnx : rNext n m = n + 1 := by unfold rNext; rw [if_neg a1]
        rw [hnx] at cb
        rcases cb with ⟨x, hx, b1, b2⟩ | ⟨k, hk, b2⟩
        · have hx' := hok x (by simp [hx])
          rcases a2 with a2 | a2
          · exact (name_jk x hx' b1 n).1 (b2.symm.trans a2)
          · exact (name_jk x hx' b1 n).2 (b2.symm.trans a2)
        · rcases a2 with a2 | a2 <;> rcases b2 with b2 | b2 <;> rw [a2] at b2
          · have := dec_inj (List.cons.inj b2).2; omega
          · exact jk_ne _ _ b2
          · exact jk_ne _ _ b2.symm
          · have := dec_inj (List.cons.inj b2).2; omega
theorem r1_len (n : Nat) (m : ML) (hm : MLOk m) (hn : n < 40) : (linesText (rTexts1 n m)).length ≤ 32 ∧ (rLines1 n m).length ≤ 3 := by
  obtain ⟨_, _, _, _, _, _, o7, o8⟩ := own_names n hn
  have hnm : ∀ k, k < 6 → (nameTexts.getD k []).length ≤ 4 := by decide
  have hw : ∀ w, w < 18 → (jumpTexts.getD w []).length ≤ 3 := by decide
  have h1 := hm.label
  have h2 := hm.word
  have h3 := hm.to
  constructor
  · unfold rTexts1
    rw [linesText_app, List.length_append]
    have a : (linesText (if m.label < 0 then [] else [m.name ++ [58]])).length ≤ 6 := by
      split
      · simp [linesText]
      · rename_i h
        have := hnm m.label.toNat (by omega)
        simp [linesText, ML.name, h] at this ⊢
        omega
    have b : (linesText (if m.word < 0 then [m.rest.body.text] else [jn n ++ 58 :: (jumpTexts.getD m.word.toNat [] ++ 32 :: nameTexts.getD m.to.toNat []), kn n ++ [58]])).length ≤ 26 := by
      split
      · rename_i h
        have := text_len ⟨-1, -1, 0, m.rest⟩ ⟨by simp, by simp, by simp, hm.rest⟩ 0
        simp [linesText, ML.text, ML.body] at this ⊢
        omega
      · have := hw m.word.toNat (by omega)
        have := hnm m.to.toNat (by omega)
        simp [linesText] at *
        omega
    omega
  · unfold rLines1
    rw [List.length_append]
    split <;> split <;> simp
theorem r_len : ∀ (ms : List ML) (n : Nat), RMs n ms → (linesText (rTexts n ms)).length ≤ 32 * ms.length ∧ (rLines n ms).length ≤ 3 * ms.length
  | [], _, _ => by simp [rTexts, rLines, linesText]
  | m :: ms, n, h => by
    have hmany := h.many
    rw [List.length_cons] at hmany
    have h1 := r1_len n m (h.ok m (by simp)) (by omega)
    have h2 := r_len ms _ h.tail
    unfold rTexts rLines
    rw [linesText_app, List.length_append, List.length_append, List.length_cons]
    omega
theorem r_mems (ms : List ML) (h : MsEven ms) : RMs 0 ms := ⟨h.ok.ok, h.even, by have := h.ok.len; omega⟩
theorem r_source (ms : List ML) (h : MsEven ms) : ∃ b, readSource (rSrc ms) = (⟨0, RL ms, b⟩, 0, 0) := by
  have hR := r_mems ms h
  obtain ⟨h1, h2, h3⟩ := r_read ms 0 hR
  have hl := (r_len ms 0 hR).1
  have h40 := h.ok.len
  have hf := r_fresh ms 0 h.ok.ok h.ok.fresh
  unfold readSource rSrc
  rw [if_neg (by omega)]
  have hsp := split_lines [] (rTexts 0 ms) h2
  rw [List.append_nil] at hsp
  have hsp' : split 10 (linesText (rTexts 0 ms)) = rTexts 0 ms ++ split 10 [] := hsp
  rw [hsp']
  obtain ⟨b, hb⟩ := addAll_ok (rTexts 0 ms) (rLines 0 ms) ⟨0, [], false⟩ 0 (split 10 []) h1 h3 (by rw [List.nil_append]; exact hf)
  rw [hb]
  have hr : readLine [] = some emptyLine := by rfl
  have ha := add_ok ⟨0, rLines 0 ms, b⟩ [] emptyLine hr ⟨by rfl, by decide⟩ (by simp [hasLabel, emptyLine])
  refine ⟨b || emptyLine.label != [] || decide (emptyLine.ins.op.kind ≠ 0), ?_⟩
  rw [show split 10 ([] : Bs) = [[]] from rfl, addAll]
  simp only [List.nil_append]
  rw [ha]
  simp only [if_true, addAll]
  rfl
theorem RL_fresh (ms : List ML) (h : MsEven ms) : Fresh (RL ms) := by
  unfold RL
  refine List.pairwise_append.2 ⟨r_fresh ms 0 h.ok.ok h.ok.fresh, List.pairwise_singleton _ _, fun a _ b hb h0 => ?_⟩
  rw [List.mem_singleton] at hb; subst hb
  exact h0
theorem labelAt_fresh {ls : List Line} (hf : Fresh ls) (k : Nat) (hk : k < ls.length) (h0 : ls[k].label ≠ []) : labelAt ls ls[k].label = some k := by
  unfold labelAt
  rw [List.findIdx?_eq_some_iff_getElem]
  refine ⟨hk, by simp, fun j hj => ?_⟩
  have := List.pairwise_iff_getElem.1 hf j k (by omega) hk hj
  intro e
  have e' := eq_of_beq e
  exact this (by rw [e']; exact h0) e'
theorem label_mem {ms : List ML} (h : MsEven ms) (t : Nat) (ht : t < 6) : ∃ l ∈ RL ms, l.label = nameTexts.getD t [] := by
  obtain ⟨m, hm, hl⟩ := h.ok.all t ht
  have key : ∀ (ms : List ML) (n : Nat), m ∈ ms → ∃ l ∈ rLines n ms, l.label = nameTexts.getD t [] := by
    intro ms
    induction ms with
    | nil => intro n hm; cases hm
    | cons x xs ih =>
      intro n hm
      rcases List.mem_cons.1 hm with rfl | hm
      · have h0 : ¬ m.label < 0 := by omega
        refine ⟨⟨m.name, emptyIns⟩, ?_, ?_⟩
        · unfold rLines rLines1
          rw [if_neg h0]
          simp
        · simp only [ML.name, h0, if_false]
          rw [hl]; rfl
      · obtain ⟨l, h1, h2⟩ := ih (rNext n x) hm
        exact ⟨l, by unfold rLines; exact List.mem_append_right _ h1, h2⟩
  obtain ⟨l, h1, h2⟩ := key ms 0 hm
  exact ⟨l, by unfold RL; exact List.mem_append_left _ h1, h2⟩
theorem labelAt_some {ls : List Line} {n : Bs} (h : ∃ l ∈ ls, l.label = n) : ∃ j, labelAt ls n = some j := by
  obtain ⟨l, h1, h2⟩ := h
  unfold labelAt
  cases e : ls.findIdx? (fun l => l.label == n) with
  | some j => exact ⟨j, rfl⟩
  | none =>
    have := List.findIdx?_eq_none_iff.1 e l h1
    rw [h2] at this
    simp at this
theorem r_cases : ∀ (ms : List ML) (n : Nat), ∀ l ∈ rLines n ms, l.ins = emptyIns ∨ (∃ m ∈ ms, m.word < 0 ∧ l = ⟨[], m.rest.body.ins⟩) ∨ (∃ m ∈ ms, ¬ m.word < 0 ∧ l.ins = (jumpBody m.word.toNat 0 m.to.toNat).ins)
  | [], _, l, h => by cases h
  | m :: ms, n, l, h => by
    unfold rLines at h
    rcases List.mem_append.1 h with h | h
    · unfold rLines1 at h
      rcases List.mem_append.1 h with h | h
      · split at h
        · cases h
        · rw [List.mem_singleton] at h; subst h; exact .inl rfl
      · split at h
        · rename_i hw
          rw [List.mem_singleton] at h; subst h; exact .inr (.inl ⟨m, by simp, hw, rfl⟩)
        · rename_i hw
          simp only [List.mem_cons, List.not_mem_nil, or_false] at h
          rcases h with rfl | rfl
          · exact .inr (.inr ⟨m, by simp, hw, rfl⟩)
          · exact .inl rfl
    · rcases r_cases ms _ l h with h | ⟨x, hx, h⟩ | ⟨x, hx, h⟩
      · exact .inl h
      · exact .inr (.inl ⟨x, by simp [hx], h⟩)
      · exact .inr (.inr ⟨x, by simp [hx], h⟩)
theorem RL_cases {ms : List ML} {l : Line} (h : l ∈ RL ms) : l.ins = emptyIns ∨ (∃ m ∈ ms, m.word < 0 ∧ l = ⟨[], m.rest.body.ins⟩) ∨ (∃ m ∈ ms, ¬ m.word < 0 ∧ l.ins = ⟨opOf m.word.toNat 0, [⟨nameTexts.getD m.to.toNat [], 0⟩]⟩) := by
  unfold RL at h
  rcases List.mem_append.1 h with h | h
  · exact r_cases ms 0 l h
  · rw [List.mem_singleton] at h; subst h; exact .inl rfl
theorem RL_simp (ms : List ML) (h : MsEven ms) : Simp (RL ms) ∧ (∀ l ∈ RL ms, isJump l.ins.op = true → l.ins.op.last = 2) ∧ (∀ l ∈ RL ms, l.ins.op.kind = 6 → 1 ≤ l.ins.op.first) := by
  have hlen := (r_len ms 0 (r_mems ms h)).2
  have h40 := h.ok.len
  have hop : ∀ m ∈ ms, ¬ m.word < 0 → m.word.toNat < 18 ∧ m.to.toNat < 6 := fun m hm hw => by
    have h1 := (h.ok.ok m hm).word
    have h2 := (h.ok.ok m hm).to
    omega
  refine ⟨⟨by unfold RL; rw [List.length_append, List.length_singleton]; omega, fun l hl hj => ?_, fun l hl hj => ?_, fun l hl => ?_⟩, fun l hl hj => ?_, fun l hl h6 => ?_⟩
  · rcases RL_cases hl with e | ⟨m, hm, hw, rfl⟩ | ⟨m, hm, hw, e⟩
    · rw [e] at hj; cases hj
    · rw [(rest_facts _ (h.ok.ok m hm).rest).1] at hj; cases hj
    · obtain ⟨h1, h2⟩ := hop m hm hw
      obtain ⟨j, hj'⟩ := labelAt_some (label_mem h m.to.toNat h2)
      exact ⟨_, j, by rw [e], (names_ok m.to.toNat h2).2.2.1, hj'⟩
  · rcases RL_cases hl with e | ⟨m, hm, hw, rfl⟩ | ⟨m, hm, hw, e⟩
    · rw [e]
      exact ⟨fun f a => rfl, by decide, by decide, by decide, fun o ho => by cases ho⟩
    · have := rest_facts _ (h.ok.ok m hm).rest
      exact ⟨this.2.1, this.2.2.1, this.2.2.2.1, rest_even _ (h.even m hm), this.2.2.2.2.1⟩
    · obtain ⟨h1, h2⟩ := hop m hm hw
      rw [e] at hj
      have := (op_facts m.word.toNat h1 0 (by omega) (by simp [formOk])).2.2.2.1
      rw [this] at hj; cases hj
  · rcases RL_cases hl with e | ⟨m, hm, hw, rfl⟩ | ⟨m, hm, hw, e⟩
    · rw [e]; decide
    · have := (rest_facts _ (h.ok.ok m hm).rest).2.2.2.2.2
      simp only [this.1, this.2]; decide
    · obtain ⟨h1, h2⟩ := hop m hm hw
      obtain ⟨f1, f2, f3, f4, f5, f6, f7, f8, f9, f10, f11⟩ := op_facts m.word.toNat h1 0 (by omega) (by simp [formOk])
      rw [e]
      simp only
      omega
  · rcases RL_cases hl with e | ⟨m, hm, hw, rfl⟩ | ⟨m, hm, hw, e⟩
    · rw [e] at hj; cases hj
    · rw [(rest_facts _ (h.ok.ok m hm).rest).1] at hj; cases hj
    · obtain ⟨h1, h2⟩ := hop m hm hw
      obtain ⟨f1, f2, f3, f4, f5, f6, f7, f8, f9, f10, f11⟩ := op_facts m.word.toNat h1 0 (by omega) (by simp [formOk])
      rw [e]; exact f8
  · rcases RL_cases hl with e | ⟨m, hm, hw, rfl⟩ | ⟨m, hm, hw, e⟩
    · rw [e] at h6; cases h6
    · have := (rest_facts _ (h.ok.ok m hm).rest).1
      simp [isJump] at this
      exact (this.2 h6).elim
    · obtain ⟨h1, h2⟩ := hop m hm hw
      obtain ⟨f1, f2, f3, f4, f5, f6, f7, f8, f9, f10, f11⟩ := op_facts m.word.toNat h1 0 (by omega) (by simp [formOk])
      rw [e] at h6 ⊢; exact f5 h6
def RF (ms : List ML) : List Int := layForms 0 (RL ms)
theorem RF_valid {ms : List ML} (h : MsEven ms) : Valid (RL ms) (RF ms) := fun k hm =>
  settled_valid (RL_simp ms h).1 (lay_settled (RL_simp ms h).1) k (fun hk hj => (RL_simp ms h).2.1 _ (List.getElem_mem _) hj) hm
theorem r_lay {ms : List ML} (h : MsEven ms) : lay 0 (RL ms) = ((RF ms, starts 0 (RL ms) (RF ms)), 0, 0) := by
  rcases lay_simp (RL_simp ms h).1 with ⟨_, e⟩ | ⟨hn, _⟩
  · exact e
  · exact (hn (RF_valid h)).elim
theorem r_asm {ms : List ML} (h : MsEven ms) : assemble (rSrc ms) = ((0, imgOf (RL ms) (RF ms)), 0, 0) := by
  obtain ⟨b, e⟩ := r_source ms h
  unfold assemble
  rw [e]
  simp only [ne_eq, not_true_eq_false, if_false, r_lay h]
  rfl
theorem RF_far {ms : List ML} (h : MsEven ms) : FarOk (RL ms) (RF ms) := fun k hk h6 => by
  have := (RL_simp ms h).2.2 _ (List.getElem_mem hk) h6
  have := lay_ge (RL_simp ms h).1 k hk
  unfold RF
  omega
/-- Where a line's bytes lie. -/
theorem image_at {lines : List Line} (hS : Simp lines) (st : List Int) : ∀ (ls : List Line) (fs : List Int) (a : Int) (k : Nat) (hk : k < ls.length), fs.length = ls.length → (∀ l ∈ ls, l ∈ lines) → (∀ k (hk : k < ls.length), 0 ≤ fs.getD k 0 ∧ fs.getD k 0 ≤ 2 ∧ (ls[k].ins.op.kind = 6 → fs.getD k 0 ≠ 0)) → ∃ A B, image lines st ls fs (starts a ls fs) = A ++ (bytes (placed lines st ls[k].ins) (fs.getD k 0) ((starts a ls fs).getD k 0) ++ B) ∧ (A.length : Int) = (starts a ls fs).getD k 0 - a
  | [], _, _, _, hk, _, _, _ => by cases hk
  | _ :: _, [], _, _, _, h, _, _ => by cases h
  | l :: ls, f :: fs, a, 0, _, _, _, _ => ⟨[], image lines st ls fs (starts (a + size l.ins f a) ls fs), by simp [starts, image], by simp [starts]⟩
  | l :: ls, f :: fs, a, k + 1, hk, h, hm, hf => by
    have h0 := hf 0 (by simp)
    simp only [List.getD_cons_zero, List.getElem_cons_zero] at h0
    have hb := bytes_len (placed lines st l.ins) f a ⟨h0.1, h0.2.1⟩ (by exact h0.2.2)
    rw [placed_size hS st l (hm l (by simp))] at hb
    have hz := sz_facts hS l (hm l (by simp)) f a h0.1 h0.2.1
    obtain ⟨A, B, h1, h2⟩ := image_at hS st ls fs (a + size l.ins f a) k (by simpa using hk) (by simpa using h) (fun x hx => hm x (by simp [hx])) (fun k hk => by
      have := hf (k + 1) (by simpa using hk)
      simpa using this)
    refine ⟨bytes (placed lines st l.ins) f a ++ A, B, ?_, ?_⟩
    · simp only [starts, image, List.getElem_cons_succ, List.getD_cons_succ]
      rw [h1, List.append_assoc]
    · simp only [starts, List.getD_cons_succ, List.length_append]
      rw [Int.natCast_add, h2, hb]
      omega
def wAt (b : Bs) (k : Nat) : Int := 256 * ((b.getD k 0).toNat : Int) + ((b.getD (k + 1) 0).toNat : Int)
/-- Where a jump of so many bytes leads to that stands at a place. -/
def leads (b : Bs) (a n : Int) : Int :=
  if a < 0 ∨ n < 2 ∨ (b.length : Int) < a + n then -1
  else
    let w := wAt b a.toNat
    let d := if 4 ≤ n then wAt b (a.toNat + 2) else w % 256
    if n = 2 ∧ w / 4096 = 6 ∧ 127 < d then a + 2 + d - 256
    else if n = 2 ∧ w / 4096 = 6 ∧ 0 < d then a + 2 + d
    else if n = 4 ∧ (w = 0x4ef8 ∨ w = 0x4eb8) then d
    else if n = 4 ∧ w / 4096 = 6 ∧ w % 256 = 0 ∧ 32767 < d then a + 2 + d - 65536
    else if n = 4 ∧ w / 4096 = 6 ∧ w % 256 = 0 then a + 2 + d
    else if n = 6 ∧ (w = 0x4ef9 ∨ w = 0x4eb9) then 65536 * d + wAt b (a.toNat + 4)
    else if n = 8 ∧ w / 4096 = 6 ∧ w % 256 = 6 ∧ d = 0x4ef9 then 65536 * wAt b (a.toNat + 4) + wAt b (a.toNat + 6)
    else -1
theorem byte_val (n : Int) : ((n % 256).toNat.toUInt8.toNat : Int) = n % 256 := by
  have h1 : 0 ≤ n % 256 := Int.emod_nonneg _ (by decide)
  have h2 : n % 256 < 256 := Int.emod_lt_of_pos _ (by decide)
  have : (n % 256).toNat.toUInt8.toNat = (n % 256).toNat % 256 := rfl
  rw [this, Nat.mod_eq_of_lt (by omega)]
  omega
theorem wAt_word (n : Int) (Y : Bs) : wAt (wordBs n ++ Y) 0 = n % 65536 := by
  show 256 * (((n / 256) % 256).toNat.toUInt8.toNat : Int) + ((n % 256).toNat.toUInt8.toNat : Int) = _
  rw [byte_val, byte_val]
  omega
theorem wAt_skip (n : Int) (Y : Bs) (k : Nat) : wAt (wordBs n ++ Y) (k + 2) = wAt Y k := rfl
theorem wAt_drop (A X : Bs) (k : Nat) : wAt (A ++ X) (A.length + k) = wAt X k := by
  unfold wAt
  simp only [List.getD_eq_getElem?_getD]
  rw [Nat.add_assoc, List.getElem?_append_right (by omega), List.getElem?_append_right (by omega)]
  simp
theorem op_bases : ∀ w, w < 18 → ((opOf w 0).kind = 5 ∧ (opOf w 0).base = 0x6000 + 0x100 * (opOf w 0).number ∧ 0 ≤ (opOf w 0).number ∧ (opOf w 0).number ≤ 15) ∨ ((opOf w 0).kind = 6 ∧ ((opOf w 0).base = 0x4ef8 ∨ (opOf w 0).base = 0x4eb8)) := by decide +kernel
theorem opp_rng (n : Int) (h0 : 0 ≤ n) (h : n ≤ 15) : 0 ≤ opp n ∧ opp n ≤ 15 := by unfold opp; split <;> omega
set_option maxHeartbeats 2000000 in
/-- The bytes of a jump that fits lead to its place. -/
theorem leads_at (A B : Bs) (o : Op) (f a t : Int) (ho : (o.kind = 5 ∧ o.base = 0x6000 + 0x100 * o.number ∧ 0 ≤ o.number ∧ o.number ≤ 15) ∨ (o.kind = 6 ∧ (o.base = 0x4ef8 ∨ o.base = 0x4eb8))) (h0 : 0 ≤ f ∧ f ≤ 2) (hf6 : o.kind = 6 → f ≠ 0) (hfit : fits o f a t = true) (hA : (A.length : Int) = a) :
    leads (A ++ (bytes ⟨o, [⟨[], t⟩]⟩ f a ++ B)) a (jumpSize o f) = t := by
  have hp : 0 ≤ t ∧ t ≤ 16777214 ∧ t % 2 = 0 := by
    have : isPlace t = true := by
      unfold fits at hfit
      cases e : isPlace t
      · simp [e] at hfit
      · rfl
    simp [isPlace, within, isOdd] at this
    omega
  have hn : num ⟨o, [⟨[], t⟩]⟩ 0 = t := rfl
  have hlen := bytes_len ⟨o, [⟨[], t⟩]⟩ f a h0 hf6
  have hsz : size ⟨o, [⟨[], t⟩]⟩ f a = jumpSize o f := size_jump _ (by rcases ho with ⟨h, _⟩ | ⟨h, _⟩ <;> simp [isJump, h]) f a
  have hjs := jump_size o f h0.1 h0.2
  rw [hsz] at hlen
  have hnat : a.toNat = A.length := by omega
  have hw0 := wAt_drop A (bytes ⟨o, [⟨[], t⟩]⟩ f a ++ B) 0
  have hw2 := wAt_drop A (bytes ⟨o, [⟨[], t⟩]⟩ f a ++ B) 2
  have hw4 := wAt_drop A (bytes ⟨o, [⟨[], t⟩]⟩ f a ++ B) 4
  have hw6 := wAt_drop A (bytes ⟨o, [⟨[], t⟩]⟩ f a ++ B) 6
  rw [Nat.add_zero] at hw0
  unfold leads
  rw [if_neg (by rw [List.length_append, List.length_append, hlen]; omega), hnat]
  simp only [hw0, hw2, hw4, hw6]
  have hfit' := hfit
  unfold fits at hfit'
  split at hfit'
  · cases hfit'
  have hff : f = 0 ∨ f = 1 ∨ f = 2 := by omega
  rcases ho with ⟨hk, hb, hn0, hn15⟩ | ⟨hk, hb⟩
  · have e1 : bytes ⟨o, [⟨[], t⟩]⟩ f a = jumpBytes ⟨o, [⟨[], t⟩]⟩ f a := by simp [bytes, hk]
    rw [e1]
    rcases hff with rfl | rfl | rfl
    · have hj : jumpSize o 0 = 2 := rfl
      have hbts : jumpBytes ⟨o, [⟨[], t⟩]⟩ 0 a ++ B = wordBs (o.base + (t - a - 2) % 256) ++ B := rfl
      rw [hj, hbts, wAt_word]
      simp [hk, within] at hfit'
      simp only [show ¬ ((4 : Int) ≤ 2) by decide, if_false, true_and]
      split
      · omega
      · split
        · omega
        · omega
    · have hj : jumpSize o 1 = 4 := rfl
      have hbts : jumpBytes ⟨o, [⟨[], t⟩]⟩ 1 a ++ B = wordBs o.base ++ (wordBs (t - a - 2) ++ B) := by rw [← List.append_assoc]; rfl
      rw [hj, hbts, wAt_word, wAt_skip, wAt_word]
      simp [hk, within] at hfit'
      simp only [show ¬ ((4 : Int) = 2) by decide, show (4 : Int) ≤ 4 by decide, if_true, if_false, false_and, true_and]
      rw [if_neg (by omega)]
      split
      · omega
      · rw [if_pos (by omega)]; omega
    · by_cases hc : isCond o = true
      · have h1 : o.number ≠ 1 := by
          intro e
          simp [isCond, e] at hc
        have hj : jumpSize o 2 = 8 := by simp [jumpSize, hc]
        have hop := opp_rng o.number hn0 hn15
        have hbts : jumpBytes ⟨o, [⟨[], t⟩]⟩ 2 a ++ B = wordBs (0x6000 + 0x100 * opp o.number + 6) ++ (wordBs (0x4ef8 + 1) ++ (wordBs (t / 65536) ++ (wordBs t ++ B))) := by
          simp [jumpBytes, h1, hc, longJump, num]
        rw [hj, hbts, wAt_word, wAt_skip, wAt_word, show (4 : Nat) = 2 + 2 from rfl, wAt_skip, wAt_skip, wAt_word, show (6 : Nat) = 4 + 2 from rfl, wAt_skip, show (4 : Nat) = 2 + 2 from rfl, wAt_skip, wAt_skip, wAt_word]
        simp only [show ¬ ((8 : Int) = 2) by decide, show ¬ ((8 : Int) = 4) by decide, show ¬ ((8 : Int) = 6) by decide, show (4 : Int) ≤ 8 by decide, if_true, if_false, false_and, true_and]
        rw [if_pos (by omega)]
        omega
      · have hc' : isCond o = false := by simpa using hc
        have hj : jumpSize o 2 = 6 := by simp [jumpSize, hc']
        have hbts : ∃ b, (b = 0x4ef8 ∨ b = 0x4eb8) ∧ jumpBytes ⟨o, [⟨[], t⟩]⟩ 2 a ++ B = wordBs (b + 1) ++ (wordBs (t / 65536) ++ (wordBs t ++ B)) := by
          by_cases h1 : o.number = 1
          · exact ⟨0x4eb8, .inr rfl, by simp [jumpBytes, h1, longJump, num]⟩
          · exact ⟨0x4ef8, .inl rfl, by simp [jumpBytes, h1, hc', longJump, num]⟩
        obtain ⟨b, hb', hbts⟩ := hbts
        rw [hj, hbts, wAt_word, wAt_skip, wAt_word, show (4 : Nat) = 2 + 2 from rfl, wAt_skip, wAt_skip, wAt_word]
        simp only [show ¬ ((6 : Int) = 2) by decide, show ¬ ((6 : Int) = 4) by decide, show (4 : Int) ≤ 6 by decide, if_true, if_false, false_and, true_and]
        rw [if_pos (by omega)]
        omega
  · have e1 : bytes ⟨o, [⟨[], t⟩]⟩ f a = farBytes ⟨o, [⟨[], t⟩]⟩ f := by simp [bytes, hk]
    rw [e1]
    have hc' : isCond o = false := by simp [isCond, hk]
    rcases hff with rfl | rfl | rfl
    · exact (hf6 hk rfl).elim
    · have hj : jumpSize o 1 = 4 := rfl
      have hbts : farBytes ⟨o, [⟨[], t⟩]⟩ 1 ++ B = wordBs o.base ++ (wordBs t ++ B) := by rw [← List.append_assoc]; rfl
      rw [hj, hbts, wAt_word, wAt_skip, wAt_word]
      simp [hk] at hfit'
      simp only [show ¬ ((4 : Int) = 2) by decide, show (4 : Int) ≤ 4 by decide, if_true, if_false, false_and, true_and]
      rw [if_pos (by omega)]
      omega
    · have hj : jumpSize o 2 = 6 := by simp [jumpSize, hc']
      have hbts : farBytes ⟨o, [⟨[], t⟩]⟩ 2 ++ B = wordBs (o.base + 1) ++ (wordBs (t / 65536) ++ (wordBs t ++ B)) := by
        simp [farBytes, longJump, num]
      rw [hj, hbts, wAt_word, wAt_skip, wAt_word, show (4 : Nat) = 2 + 2 from rfl, wAt_skip, wAt_skip, wAt_word]
      simp only [show ¬ ((6 : Int) = 2) by decide, show ¬ ((6 : Int) = 4) by decide, show (4 : Int) ≤ 6 by decide, if_true, if_false, false_and, true_and]
      rw [if_pos (by omega)]
      omega
/-- The place of a label. -/
def rPlace (ms : List ML) (n : Bs) : Int := placeOf (RL ms) (starts 0 (RL ms) (RF ms)) n
theorem r_split : ∀ (ms : List ML) (n i : Nat) (hi : i < ms.length), 0 ≤ ms[i].word → ∃ A B, rLines n ms = A ++ (⟨jn (n + jIdx ms i), (jumpBody ms[i].word.toNat 0 ms[i].to.toNat).ins⟩ : Line) :: (⟨kn (n + jIdx ms i), emptyIns⟩ : Line) :: B
  | [], _, _, hi, _ => by cases hi
  | m :: ms, n, 0, _, hw => by
    have hw' : ¬ m.word < 0 := by simp only [List.getElem_cons_zero] at hw; omega
    refine ⟨if m.label < 0 then [] else [⟨m.name, emptyIns⟩], rLines (rNext n m) ms, ?_⟩
    simp only [List.getElem_cons_zero, jIdx, List.take_zero, List.countP_nil, Nat.add_zero]
    rw [rLines]
    unfold rLines1
    rw [if_neg hw', List.append_assoc]
    rfl
  | m :: ms, n, i + 1, hi, hw => by
    obtain ⟨A, B, h⟩ := r_split ms (rNext n m) i (by simpa using hi) (by simpa using hw)
    refine ⟨rLines1 n m ++ A, B, ?_⟩
    have e : rNext n m + jIdx ms i = n + jIdx (m :: ms) (i + 1) := by
      unfold rNext jIdx
      rw [List.take_succ_cons, List.countP_cons]
      split
      · rename_i h
        rw [if_neg (by simp; omega)]
        omega
      · rename_i h
        rw [if_pos (by simp; omega)]
        omega
    rw [e] at h
    rw [rLines, h, List.append_assoc]
    rfl
/-- Each jump leads to its label. -/
theorem reaches {ms : List ML} (h : MsEven ms) (i : Nat) (hi : i < ms.length) (hw : 0 ≤ ms[i].word) :
    leads (imgOf (RL ms) (RF ms)) (rPlace ms (jn (jIdx ms i))) (rPlace ms (kn (jIdx ms i)) - rPlace ms (jn (jIdx ms i))) = rPlace ms (nameTexts.getD ms[i].to.toNat []) ∧ (∃ l ∈ RL ms, l.label = jn (jIdx ms i)) ∧ (∃ l ∈ RL ms, l.label = kn (jIdx ms i)) := by
  obtain ⟨hS, hS2, hS3⟩ := RL_simp ms h
  have hFr := RL_fresh ms h
  have hs := lay_settled hS
  obtain ⟨A, B, hAB⟩ := r_split ms 0 i hi hw
  rw [Nat.zero_add] at hAB
  have hRL : RL ms = A ++ (⟨jn (jIdx ms i), (jumpBody ms[i].word.toNat 0 ms[i].to.toNat).ins⟩ : Line) :: (⟨kn (jIdx ms i), emptyIns⟩ : Line) :: (B ++ [emptyLine]) := by
    unfold RL; rw [hAB]; simp
  have hwl := (h.ok.ok _ (List.getElem_mem hi)).word
  have htl := (h.ok.ok _ (List.getElem_mem hi)).to
  have hk : A.length < (RL ms).length := by rw [hRL]; simp
  have hk1 : A.length + 1 < (RL ms).length := by rw [hRL]; simp
  have g0 : (RL ms)[A.length] = ⟨jn (jIdx ms i), (jumpBody ms[i].word.toNat 0 ms[i].to.toNat).ins⟩ := by simp [hRL]
  have g1 : (RL ms)[A.length + 1] = ⟨kn (jIdx ms i), emptyIns⟩ := by
    have : (RL ms)[A.length + 1]? = some ⟨kn (jIdx ms i), emptyIns⟩ := by
      rw [hRL, List.getElem?_append_right (by omega)]
      simp
    rw [List.getElem?_eq_getElem hk1] at this
    exact Option.some.inj this
  have l0 : labelAt (RL ms) (jn (jIdx ms i)) = some A.length := by
    have := labelAt_fresh hFr A.length hk (by rw [g0]; simp [jn])
    rw [g0] at this
    exact this
  have l1 : labelAt (RL ms) (kn (jIdx ms i)) = some (A.length + 1) := by
    have := labelAt_fresh hFr (A.length + 1) hk1 (by rw [g1]; simp [kn])
    rw [g1] at this
    exact this
  have p0 : rPlace ms (jn (jIdx ms i)) = P (RL ms) (RF ms) A.length := by
    unfold rPlace placeOf; rw [l0]; rfl
  have p1 : rPlace ms (kn (jIdx ms i)) = P (RL ms) (RF ms) (A.length + 1) := by
    unfold rPlace placeOf; rw [l1]; rfl
  have hFl : (RF ms).length = (RL ms).length := hs.len
  have hFr2 : Rng (RF ms) := hs.rng
  have hstep := P_step A.length hk hFl
  have hjmp : isJump (RL ms)[A.length].ins.op = true := by
    rw [g0]
    exact (op_facts ms[i].word.toNat (by omega) 0 (by omega) (by simp [formOk])).2.2.2.1
  rw [size_jump _ hjmp] at hstep
  have hmiss : ¬ Miss (RL ms) (RF ms) A.length := RF_valid h A.length
  have hmiss' : misses (RL ms) (starts 0 (RL ms) (RF ms)) (RL ms)[A.length] ((RF ms).getD A.length 0) (P (RL ms) (RF ms) A.length) = false := by
    cases e : misses (RL ms) (starts 0 (RL ms) (RF ms)) (RL ms)[A.length] ((RF ms).getD A.length 0) (P (RL ms) (RF ms) A.length)
    · rfl
    · exact (hmiss ⟨hk, e⟩).elim
  have hins : (RL ms)[A.length].ins = ⟨opOf ms[i].word.toNat 0, [⟨nameTexts.getD ms[i].to.toNat [], 0⟩]⟩ := by rw [g0]; rfl
  have hnum : numberOf (RL ms) (starts 0 (RL ms) (RF ms)) ⟨nameTexts.getD ms[i].to.toNat [], 0⟩ = rPlace ms (nameTexts.getD ms[i].to.toNat []) := by
    unfold numberOf
    rw [if_neg (names_ok ms[i].to.toNat (by omega)).2.2.1]
    rfl
  have hfit : fits (opOf ms[i].word.toNat 0) ((RF ms).getD A.length 0) (P (RL ms) (RF ms) A.length) (rPlace ms (nameTexts.getD ms[i].to.toNat [])) = true := by
    unfold misses at hmiss'
    rw [hjmp, hins] at hmiss'
    simp only [List.headD_cons, hnum, Bool.true_and] at hmiss'
    simpa using hmiss'
  have hfar := RF_far h A.length hk
  rw [hins] at hfar hstep
  obtain ⟨X, Y, e1, e2⟩ := image_at hS (starts 0 (RL ms) (RF ms)) (RL ms) (RF ms) 0 A.length hk hFl (fun _ h => h) (fun k hk => ⟨(hFr2 k).1, (hFr2 k).2, fun h6 => by have := RF_far h k hk h6; omega⟩)
  have hpl : placed (RL ms) (starts 0 (RL ms) (RF ms)) (RL ms)[A.length].ins = ⟨opOf ms[i].word.toNat 0, [⟨[], rPlace ms (nameTexts.getD ms[i].to.toNat [])⟩]⟩ := by
    rw [hins]
    unfold placed
    simp only [List.map_cons, List.map_nil, hnum]
  rw [hpl] at e1
  refine ⟨?_, ⟨_, List.getElem_mem hk, by rw [g0]⟩, ⟨_, List.getElem_mem hk1, by rw [g1]⟩⟩
  rw [p0, p1, hstep, show P (RL ms) (RF ms) A.length + jumpSize (opOf ms[i].word.toNat 0) ((RF ms).getD A.length 0) - P (RL ms) (RF ms) A.length = jumpSize (opOf ms[i].word.toNat 0) ((RF ms).getD A.length 0) by omega]
  unfold imgOf
  rw [e1]
  exact leads_at X Y _ _ _ _ (op_bases _ (by omega)) (hFr2 A.length) (fun h6 => by have := hfar h6; omega) hfit (by rw [e2]; exact Int.sub_zero _)
end Go.Proofs.YtegiloiojloaoaaGreatDoor.Strd

set_option linter.unusedVariables false
set_option linter.unusedSimpArgs false
namespace Go.Proofs.YtegiloiojloaoaaGreatDoor
open Go.RowKit Go.Shelf Go.Sort Go.Maps

/-- The labels of lines, those that are none left out. -/
def labelsOf (lines : List Strd.Line) : List Strd.Bs := (lines.map (·.label)).filter (· != [])
def namesOf (lines : List Strd.Line) (st : List Int) : List (Strd.Bs × Int) := ((labelsOf lines).mergeSort leB).map fun n => (n, Strd.placeOf lines st n)
def nameCells (l : List (Strd.Bs × Int)) : List Value := (l.map fun p => [Value.string (bstr p.1), .int .i64 p.2]).flatten
def NamesAt (base : Nat) (w : World) (v : Value) (l : List (Strd.Bs × Int)) : Prop := w.ownsRow base 37 2 v l.length (nameCells l)
theorem NamesAt.below {base : Nat} {w w' : World} {v : Value} {l : List (Strd.Bs × Int)} (h : NamesAt base w v l) (hb : Below w.heap.size w w') : NamesAt base w' v l := ownsRow_below h hb
theorem nameCells_snoc (l : List (Strd.Bs × Int)) (p : Strd.Bs × Int) : nameCells (l ++ [p]) = nameCells l ++ [Value.string (bstr p.1), .int .i64 p.2] := by simp [nameCells]
theorem nameCells_len (l : List (Strd.Bs × Int)) : (nameCells l).length = l.length * 2 := by
  induction l with
  | nil => rfl
  | cons p l ih => simp only [nameCells, List.map_cons, List.flatten_cons, List.length_append, List.length_cons, List.length_nil] at ih ⊢; omega
theorem mem_labels (lines : List Strd.Line) (n : Strd.Bs) : n ∈ labelsOf lines ↔ n ≠ [] ∧ ∃ l ∈ lines, l.label = n := by
  unfold labelsOf
  rw [List.mem_filter, List.mem_map]
  constructor
  · rintro ⟨⟨l, h1, h2⟩, h3⟩
    exact ⟨by simpa using h3, l, h1, h2⟩
  · rintro ⟨h3, l, h1, h2⟩
    exact ⟨⟨l, h1, h2⟩, by simpa using h3⟩
theorem labels_nodup (lines : List Strd.Line) (h : Strd.Fresh lines) : (labelsOf lines).Nodup := by
  unfold labelsOf
  rw [List.Nodup, List.pairwise_filter, List.pairwise_map]
  exact h.imp fun h0 h1 _ => h0 (by simpa using h1)
theorem hasLabel_mem (lines : List Strd.Line) (n : Strd.Bs) : Strd.hasLabel lines n = true ↔ n ∈ labelsOf lines := by
  rw [mem_labels]
  unfold Strd.hasLabel
  rw [Bool.and_eq_true, List.any_eq_true]
  simp
/-- The keys of the labels' map are the labels. -/
theorem keys_labels {w : World} {gm n : Nat} {lines : List Strd.Line} {D : DataW Unit} (hown : w.ownsMap Tryz.prog 9 (plainElem Tryz.prog 3) gm n D) (hhas : ∀ s : Strd.Bs, Maps.has D (.string s) = Strd.hasLabel lines s) (hf : Strd.Fresh lines) : (labelsOf lines).Perm (strKeys D) := by
  obtain ⟨es, hD, hpw, _⟩ := hown.entries law9
  obtain ⟨es', hD', hko⟩ := hown.keysOf
  obtain rfl : es = es' := by rw [hD] at hD'; simpa using hD'
  subst hD
  exact perm_strKeys hpw (fun p hp => by obtain ⟨v, hv⟩ := hko p hp; obtain ⟨x, _, hx, _⟩ := Maps.keyOf_str Tryz.underlying9 hv; exact ⟨x, hx⟩) (labels_nodup lines hf) (fun x => by rw [hhas]; exact (hasLabel_mem lines x).symm)
theorem keys_size {H : Type} (D : DataW H) : (strKeys D).length = Maps.size D := by
  cases D <;> simp [strKeys, Maps.size]
theorem sorted_c (gm nn : Nat) (D0 : DataW Unit) (w : World) (hown : w.ownsMap Tryz.prog 9 (plainElem Tryz.prog 3) gm nn D0) (hmax : Maps.size D0 ≤ 2 ^ 20) :
    Calls Tryz.prog 44 #[.func (.func 82) #[] #[.pointer (some ⟨w.heap.size, 0, none⟩)]] (w.alloc (.cells #[.map (some gm)] 62)) fun e w' => ∃ (v : Value), e = .returned v ∧
      w'.ownsRow (w.alloc (.cells #[.map (some gm)] 62)).heap.size 9 1 v (Maps.size D0) (((strKeys D0).mergeSort leB).map encStr) ∧ Below (w.alloc (.cells #[.map (some gm)] 62)).heap.size (w.alloc (.cells #[.map (some gm)] 62)) w' := by
  refine ((callsIn_wide (n := 5)).1 (Tryz.slices_Sorted_keys_44_45 gm nn D0 _ w hown (by unfold maxLen; omega) (by omega))).mono ?_
  rintro e w' ⟨v, ss, rfl, hS, hrow, _, hb⟩
  refine ⟨v, rfl, ?_, hb⟩
  have h1 := mergeSort_of_perm hS
  have h2 : ss.length = Maps.size D0 := by rw [hS.length_eq, keys_size]
  rw [h2] at hrow
  rw [← h1]
  exact hrow
theorem keys_c (gm : Nat) (W : World) : Calls Tryz.prog 45 #[.map (some gm)] W fun e w' => e = .returned (.func (.func 82) #[] #[.pointer (some ⟨W.heap.size, 0, none⟩)]) ∧ w' = W.alloc (.cells #[.map (some gm)] 62) :=
  (callsIn_wide (n := 5)).1 (Tryz.maps_Keys_45 (some gm) W)
set_option maxHeartbeats 400000 in
theorem clone_c (s : ByteArray) (w : World) (hs : s.size ≤ 2 ^ 20) : Calls Tryz.prog 46 #[.string s] w fun e w' => e = .returned (.string s) ∧ Below w.heap.size w w' := by
  go_enter Tryz.func46, Tryz.ntmps46
  go_wp2_with fail
  refine (Tryz.stringslite_Clone s _ (by omega)).mono ?_
  rintro e w1 ⟨rfl, hb⟩
  go_wp2
  go_ret
  exact ⟨rfl, hb⟩
theorem Tryz.info37 : (Tryz.prog.info? 37).map (fun i => (i.zero, i.size, i.bytes)) = some (some (.agg #[.string ⟨#[]⟩, .int .i64 0]), 2, 24) := by kernel_rfl
theorem cells_two_new (w : World) (x y : Value) (e : TypeId) : ∀ j u, [x, y][j]? = some u → (w.alloc (.cells #[x, y] e)).cell? ((⟨w.heap.size, 0, none⟩ : Addr).add j) = some u := fun j u h => by
  rw [Addr.add_lit, Nat.zero_add, box_cell (box_new w (.cells #[x, y] e)) j, List.getElem?_toArray]
  exact h
theorem two_one (s : Strd.Bs) (n : Int) : ∀ u ∈ [Value.string (bstr s), .int .i64 n], u.oneCell' = true := by
  intro u hu
  simp only [List.mem_cons, List.not_mem_nil, or_false] at hu
  rcases hu with rfl | rfl <;> rfl
theorem row_base {w : World} {b b' n size : Nat} {e : TypeId} {v : Value} {xs : List Value} (h : w.ownsRow b e size v n xs) (hb : b' ≤ b) : w.ownsRow b' e size v n xs := by
  refine ⟨h.1, ?_⟩
  rcases h.2 with h0 | ⟨g, cap, cur, rfl, h1, h2⟩
  · exact .inl h0
  · exact .inr ⟨g, cap, cur, rfl, Nat.le_trans hb h1, h2⟩
theorem sorted_name {w : World} {base n : Nat} {v : Value} {ss : List Strd.Bs} (h : w.ownsRow base 9 1 v n (ss.map encStr)) (k : Nat) (hk : k < ss.length) : ∃ g cap, v = .slice (some ⟨g, 0, none⟩) n cap ∧ g < w.heap.size ∧ w.cell? ⟨g, k, none⟩ = some (.string (bstr ss[k])) := by
  rcases h.2 with ⟨rfl, h0⟩ | ⟨g, cap, cur, rfl, hb, hx, h1, h2, h3, h4⟩
  · have := h.1
    rw [List.length_map] at this
    omega
  · refine ⟨g, cap, rfl, lt_of_box hx, ?_⟩
    have hl := h.1
    rw [List.length_map] at hl
    rw [box_cell hx k]
    have : (cur.toList.take (n * 1))[k]? = some (encStr ss[k]) := by rw [h4, List.getElem?_map, List.getElem?_eq_getElem hk]; rfl
    rw [List.getElem?_take, if_pos (by omega), Array.getElem?_toList] at this
    exact this
set_option maxRecDepth 1000000 in
set_option maxHeartbeats 4000000 in
theorem PNames_c (base gp : Nat) (r : Strd.Rd) (fs st : List Int) (w : World) (hP : PlanAt base w gp r fs st) (hlen : r.lines.length ≤ 2 ^ 20) (hfr : Strd.Fresh r.lines) (hnm : ∀ l ∈ r.lines, l.label.length ≤ 2 ^ 20) :
    Calls Tryz.prog 32 #[.pointer (some ⟨gp, 0, none⟩)] w fun e w' => ∃ v, e = .returned v ∧ NamesAt w.heap.size w' v (namesOf r.lines st) ∧ Below w.heap.size w w' := by
  have HP := hide hP
  obtain ⟨⟨p, cap, gm, qs, vf, vs, hbx, _, hLab, _, hf, hs⟩, _, _, _⟩ := hP
  obtain ⟨D, hown, hhas, hat⟩ := hLab
  have hperm := keys_labels hown hhas hfr
  have hsz : Maps.size D = (labelsOf r.lines).length := by rw [← keys_size, hperm.length_eq]
  have hll : (labelsOf r.lines).length ≤ 2 ^ 20 := Nat.le_trans (List.length_filter_le _ _) (by rw [List.length_map]; exact hlen)
  have hsort : (strKeys D).mergeSort leB = (labelsOf r.lines).mergeSort leB := (mergeSort_of_perm hperm).symm
  have hslen : ((labelsOf r.lines).mergeSort leB).length = Maps.size D := by rw [hsz]; exact (List.mergeSort_perm _ _).length_eq
  have hmem : ∀ n ∈ (labelsOf r.lines).mergeSort leB, n ≠ [] ∧ n.length ≤ 2 ^ 20 := fun n hn => by
    have h1 := (mem_labels r.lines n).1 ((List.mergeSort_perm _ _).mem_iff.1 hn)
    obtain ⟨h2, l, h3, h4⟩ := h1
    exact ⟨h2, by rw [← h4]; exact hnm l h3⟩
  have HNm : Hid (namesOf r.lines st = ((labelsOf r.lines).mergeSort leB).map fun n => (n, Strd.placeOf r.lines st n)) := hide rfl
  generalize namesOf r.lines st = NM at *
  generalize (labelsOf r.lines).mergeSort leB = ss at *
  have hN : Maps.size D ≤ 2 ^ 20 := by omega
  have Hown := hide hown
  have Hsort := hide hsort
  have Hmem := hide hmem
  have Hbx := hide hbx
  have c2 := box_cell hbx 2
  simp only [List.getElem?_toArray, List.getElem?_cons_zero, List.getElem?_cons_succ] at c2
  have hgl := lt_of_box hbx
  have hlenm := hown.len Tryz.underlying62
  generalize hMS : Maps.size D = N at *
  have HMS := hide hMS
  clear hperm hsort hown hhas hat hsz hll hmem hbx hf hs hMS
  obtain ⟨i0, hi, hz0, hz1, hz2⟩ := info_parts Tryz.info37
  go_enter Tryz.func32, Tryz.ntmps32
  go_wp2_with (at_make; refine wpList_make_own _ rfl _ _ 33 rfl w.heap.size 37 i0 (.agg #[.string ⟨#[]⟩, .int .i64 0]) 2 Tryz.underlying33 hi hz0 hz1 .i64 .i64 _ N rfl rfl rfl (by rw [hz2]; omega) (by unfold maxLen; omega) (Nat.le_refl _) ?_; intro w1 hrow0 hgrow0; have hb1 : Below w.heap.size w w1 := ⟨hgrow0.os, hgrow0.tape, hgrow0.output, hgrow0.size, fun k hk => hgrow0.block k hk (by simp)⟩; have Hrow0 := hide hrow0; have c2' := (hb1.cell (p := ⟨gp, 2, none⟩) hgl).trans c2; have hgl1 := Nat.lt_of_lt_of_le hgl hb1.size; clear hrow0 hgrow0)
  refine (keys_c gm w1).mono ?_
  rintro e w2 ⟨rfl, hw2⟩
  have Hown1 := hide (ownsMap_block (unhide Hown) (hb1.block gm (unhide Hown).lt))
  have csort := sorted_c gm _ D w1 (unhide Hown1) (by rw [unhide HMS]; omega)
  rw [unhide HMS, unhide Hsort] at csort
  rw [← hw2] at csort
  have hb2 : Below w1.heap.size w1 w2 := by rw [hw2]; exact below_a _ _
  have Csort := hide csort
  clear hw2 csort
  go_wp2_with fail
  refine (unhide Csort).mono ?_
  rintro e w3 ⟨v3, rfl, hrow3, hb3⟩
  obtain ⟨p3, c3, rfl⟩ := own_shape hrow3
  have Hrow3 := hide hrow3
  have hB3 := below_t hb1 (below_t hb2 hb3)
  have Hr3 := hide (ownsRow_below (ownsRow_below (unhide Hrow0) hb2) hb3)
  clear hrow3
  go_wp2_with fail
  have Hs3 := hide (row_base (unhide Hrow3) (Nat.le_trans hb1.size hb2.size))
  go_loopw [3, 21] (fun c4 c21 wr => ∃ k : Nat, k ≤ N ∧ World.ownsRow wr w.heap.size 37 2 c4 k (nameCells (NM.take k)) ∧ c21 = .int .i64 k ∧ Below w.heap.size w wr ∧ World.ownsRow wr w.heap.size 9 1 (.slice p3 N c3) N (ss.map encStr)) (fun _ c _ => N - (intOf c).toNat)
  case atStart => exact ⟨0, by omega, unhide Hr3, rfl, hB3, unhide Hs3⟩
  case round =>
    obtain ⟨k, hk, hrow, rfl, hbr, hsr⟩ := hrel
    have Hrow := hide hrow
    have Hsr := hide hsr
    obtain ⟨p4, c4, rfl⟩ := own_shape hrow
    have hslen' := hslen
    by_cases hlt : k < N
    · have hltI : (k : Int) < (N : Int) := by omega
      obtain ⟨g3, cap3, hv3, hg3, hc3⟩ := sorted_name hsr k (by rw [hslen]; exact hlt)
      have Hsn : Hid (NM.take (k + 1) = NM.take k ++ [(ss[k]'(by rw [hslen]; exact hlt), Strd.placeOf r.lines st (ss[k]'(by rw [hslen]; exact hlt)))]) := hide (by
        have hl : NM.length = N := by rw [unhide HNm, List.length_map, hslen]
        rw [List.take_succ_eq_append_getElem (by rw [hl]; exact hlt)]
        congr 2
        have : NM[k]? = some (ss[k]'(by rw [hslen]; exact hlt), Strd.placeOf r.lines st (ss[k]'(by rw [hslen]; exact hlt))) := by
          rw [unhide HNm, List.getElem?_map, List.getElem?_eq_getElem (by rw [hslen]; exact hlt)]; rfl
        rw [List.getElem?_eq_getElem (by rw [hl]; exact hlt)] at this
        exact Option.some.inj this)
      have hname := unhide Hmem _ (List.getElem_mem (l := ss) (n := k) (by rw [hslen]; exact hlt))
      have hntk : (NM.take k).length = k := by rw [List.length_take, unhide HNm, List.length_map, hslen]; omega
      generalize ss[k]'(by rw [hslen]; exact hlt) = nm at *
      obtain ⟨hn0, hnl⟩ := hname
      have Hn0 := hide hn0
      simp only [Value.slice.injEq] at hv3
      obtain ⟨hp3, _, hc3'⟩ := hv3
      subst hp3
      have hwk : IntKind.i64.wrap ((k : Int) + 1) = (k : Int) + 1 := IntWalk.i64_in _ (by omega)
      clear hrow hsr hslen hslen' hn0 hc3' hntk
      go_wp2_with fail
      refine (clone_c (bstr nm) wr (by rw [bstr_size]; exact hnl)).mono ?_
      rintro e w4 ⟨rfl, hb4⟩
      have hB4 := below_t hbr hb4
      go_wp2_with fail
      refine (place_c base gp r fs st (bstr nm) w4 ((unhide HP).below hB4) (by rw [bstr_list]; exact unhide Hn0) (by rw [bstr_size]; exact hnl) (by omega)).mono ?_
      rintro e w5 ⟨rfl, hb5⟩
      rw [bstr_list]
      have hB5 := below_t hB4 hb5
      have Hrow5 := hide (ownsRow_below (ownsRow_below (unhide Hrow) hb4) hb5)
      have Hsr5 := hide (ownsRow_below (ownsRow_below (unhide Hsr) hb4) hb5)
      generalize Strd.placeOf r.lines st nm = pl at *
      go_wp2_with (first | (at_builtin; refine wpList_append_own _ rfl _ _ 33 rfl w.heap.size 37 i0 (.agg #[.string ⟨#[]⟩, .int .i64 0]) 2 24 Tryz.underlying33 hi hz0 hz1 hz2 rfl (by decide) _ _ _ rfl ((unhide Hrow5).alloc _) ⟨w5.heap.size, 0, none⟩ 1 1 [.string (bstr nm), .int .i64 pl] ?cx rfl ?c1 ?c2 ?c3 ?c4 ?c5 ?_) | go_in)
      case cx => rfl
      case c1 => exact cells_two_new _ _ _ _
      case c2 => exact two_one _ _
      case c3 => unfold maxLen; omega
      case c4 => omega
      case c5 => rw [World.size_alloc]; have := hB5.size; omega
      intro v6 w6 hown hgrow _
      have hb6 : Below w.heap.size w w6 := Below.grown (hB5.alloc hB5.size _) hgrow (by rw [World.size_alloc]; have := hB5.size; omega) (fun k e => by have := ((unhide Hrow5).lt _ e).1; omega)
      have Hs6 : Hid (World.ownsRow w6 w.heap.size 9 1 (.slice (some ⟨g3, 0, none⟩) N c3) N (ss.map encStr)) := hide (row_kept ((unhide Hsr5).alloc _) (fun k' hk' => by
        refine hgrow.block k' ?_ (fun e => ?_)
        · exact ((((unhide Hsr5).alloc _).lt) k' hk').2
        · exact dis_tags (unhide Hrow5) (unhide Hsr5) (by decide) k' e.symm hk'))
      clear hgrow
      go_wp2
      go_roundw
      case rel =>
        refine ⟨k + 1, by omega, ?_, by go_num, hb6, unhide Hs6⟩
        rw [unhide Hsn, nameCells_snoc]
        exact hown
      case measure => simp [intOf]; omega
    · have hltI : ¬ (k : Int) < (N : Int) := by omega
      obtain rfl : k = N := by omega
      have Hfin : Hid (NamesAt w.heap.size wr (.slice p4 k c4) NM) := hide (by
        have hl : NM.length = k := by rw [unhide HNm, List.length_map, hslen]
        unfold NamesAt
        have := unhide Hrow
        rw [List.take_of_length_le (by omega)] at this
        rw [hl]
        exact this)
      clear hrow hsr
      go_wp2
      go_ret
      exact ⟨_, rfl, unhide Hfin, hbr⟩
/-- Labels of what is read: none twice, none longer than the source. -/
structure LabR (r : Strd.Rd) (n : Nat) : Prop where
  fresh : Strd.Fresh r.lines
  short : ∀ l ∈ r.lines, l.label.length ≤ n
theorem add_labR (r : Strd.Rd) (t : Strd.Bs) (n : Nat) (ht : t.length ≤ n) (h : LabR r n) : LabR (Strd.add r t).1 n := by
  unfold Strd.add
  split
  · exact h
  · rename_i l hl
    split
    · exact h
    · rename_i hh
      split
      · exact h
      · simp only
        split
        · exact h
        · refine ⟨List.pairwise_append.2 ⟨h.fresh, List.pairwise_singleton _ _, fun a ha b hb h0 e => ?_⟩, fun x hx => ?_⟩
          · rw [List.mem_singleton] at hb
            subst hb
            apply hh
            unfold Strd.hasLabel
            rw [Bool.and_eq_true, List.any_eq_true]
            exact ⟨by rw [← e]; simpa using h0, a, ha, by rw [e]; simp⟩
          · rcases List.mem_append.1 hx with hx | hx
            · exact h.short x hx
            · rw [List.mem_singleton] at hx
              subst hx
              exact Nat.le_trans (readLine_label t _ hl) ht
theorem addAll_labR : ∀ (ts : List Strd.Bs) (k : Nat) (r : Strd.Rd) (n : Nat), (∀ t ∈ ts, t.length ≤ n) → LabR r n → LabR (Strd.addAll k r ts).1 n
  | [], _, _, _, _, h => h
  | t :: ts, k, r, n, ht, h => by
    have h1 := add_labR r t n (ht t (by simp)) h
    unfold Strd.addAll
    simp only
    split
    · exact addAll_labR ts _ _ n (fun x hx => ht x (by simp [hx])) h1
    · exact h1
theorem source_labR (s : Strd.Bs) : LabR (Strd.readSource s).1 4000 := by
  unfold Strd.readSource
  split
  · exact ⟨List.Pairwise.nil, fun l hl => by cases hl⟩
  · rename_i hs
    have h := split_len 10 s
    exact addAll_labR _ 0 _ _ (fun t ht => by have := h.2.1 t ht; omega) ⟨List.Pairwise.nil, fun l hl => by cases hl⟩
/-- What Names answers. -/
def namesAns (s : Strd.Bs) : List (Strd.Bs × Int) := if (layOutOf s).2.2 ≠ 0 then [] else namesOf (Strd.readSource s).1.lines (layOutOf s).1.2
set_option maxRecDepth 1000000 in
set_option maxHeartbeats 4000000 in
theorem Names_c (s : ByteArray) (w : World) (hs : s.size ≤ 2 ^ 20) (h11 : 11 ≤ w.heap.size) (hT : Tabs w) :
    Calls Tryz.prog 13 #[.string s] w fun e w' => ∃ v, e = .returned (.tuple #[v, .int .i64 (layOutOf s.data.toList).2.1, .int .i64 (layOutOf s.data.toList).2.2]) ∧ NamesAt w.heap.size w' v (namesAns s.data.toList) ∧ ((layOutOf s.data.toList).2.2 ≠ 0 → v = .slice none 0 0) ∧ Below w.heap.size w w' := by
  have hlab := source_labR s.data.toList
  have hWr := source_wfR s.data.toList
  have CL := hide (layOut_c s w hs h11 hT)
  have Hln : Hid ((layOutOf s.data.toList).2.2 = 0 → (layOutOf s.data.toList).2.1 = 0) := hide (fun h => by rw [layOut_ok _ h])
  have HA : Hid (namesAns s.data.toList = if (layOutOf s.data.toList).2.2 ≠ 0 then [] else namesOf (Strd.readSource s.data.toList).1.lines (layOutOf s.data.toList).1.2) := hide rfl
  generalize namesAns s.data.toList = NA at *
  generalize layOutOf s.data.toList = Y at *
  generalize (Strd.readSource s.data.toList).1 = r at *
  obtain ⟨⟨fs, st⟩, ln, er⟩ := Y
  simp only at CL HA Hln ⊢
  go_enter Tryz.func13, Tryz.ntmps13
  go_wp2_with fail
  refine (unhide CL).mono ?_
  rintro e w1 ⟨ps, rfl, ⟨o3, p3, n3, c3, m3, p4, n4, c4, p5, n5, c5, rfl⟩, hpv, hb1⟩
  have hb2 := below_a w1 (.cells #[.int .i64 o3, .slice p3 n3 c3, .map m3, .slice p4 n4 c4, .slice p5 n5 c5] 67)
  have Hg := hide (box_new w1 (.cells #[.int .i64 o3, .slice p3 n3 c3, .map m3, .slice p4 n4 c4, .slice p5 n5 c5] 67))
  have HPl : Hid (er = 0 → ∃ base, PlanAt base (w1.alloc (.cells #[.int .i64 o3, .slice p3 n3 c3, .map m3, .slice p4 n4 c4, .slice p5 n5 c5] 67)) w1.heap.size r fs st) := hide fun h => by
    obtain ⟨base, _, h2, p, cap, gm, qs, vf, vs, e, hL, hLab, hgm, hf, hs', h8, h9⟩ := hpv h
    rw [e] at hb2 Hg ⊢
    exact ⟨base, ⟨p, cap, gm, qs, vf, vs, unhide Hg, hL.below hb2, hLab.below hb2, hgm, hf.below hb2, hs'.below hb2⟩, h2, h8, h9⟩
  clear hpv
  by_cases her : er = 0
  · subst her
    obtain ⟨base, hPl⟩ := unhide HPl rfl
    have HP := hide hPl
    have Hna : Hid (namesOf r.lines st = NA) := hide (by rw [unhide HA]; simp)
    have hln := unhide Hln rfl
    subst hln
    have hB2 := below_t hb1 hb2
    clear HPl HA hPl Hln
    go_upto_region 4 with fail
    generalize w1.alloc (.cells #[.int .i64 o3, .slice p3 n3 c3, .map m3, .slice p4 n4 c4, .slice p5 n5 c5] 67) = w2 at *
    generalize w1.heap.size = g at *
    go_wp2_with fail
    refine (PNames_c base g r fs st w2 (unhide HP) hWr.len hlab.fresh (fun l hl => Nat.le_trans (hlab.short l hl) (by omega))).mono ?_
    rintro e w3 ⟨v, rfl, hN, hb3⟩
    have hB3 := below_t hB2 hb3
    have HN : Hid (NamesAt w.heap.size w3 v NA) := hide (by rw [← unhide Hna]; exact row_base hN hB2.size)
    clear hN
    go_wp2
    refine bodyPost_ret (v := .tuple #[v, .int .i64 0, .int .i64 0]) (by simp [results, Tryz.results13]) rfl ?_
    exact ⟨v, rfl, unhide HN, fun h => (h rfl).elim, hB3⟩
  · have Hna : Hid (NA = []) := hide (by rw [unhide HA, if_pos her])
    clear HA HPl
    go_wp2
    refine bodyPost_ret (v := .tuple #[.slice none 0 0, .int .i64 (ln : Int), .int .i64 er]) (by simp [results, Tryz.results13]) rfl ?_
    exact ⟨_, rfl, by rw [unhide Hna]; exact World.ownsRow_nil _ _ _ _, fun _ => rfl, below_t hb1 hb2⟩
end Go.Proofs.YtegiloiojloaoaaGreatDoor

set_option linter.unusedVariables false
set_option linter.unusedSimpArgs false
namespace Go.Proofs.YtegiloiojloaoaaGreatDoor.Rf
open Strd

theorem labels_sel : ∀ (ks : List Bool) (ls : List Strd.Line), Out ks ls → labelsOf (sel ks ls) = labelsOf ls
  | [], [], _ => rfl
  | [], _ :: _, h => h.elim
  | _ :: _, [], h => h.elim
  | true :: ks, l :: ls, h => by
    have ih := labels_sel ks ls h.2
    unfold labelsOf at ih ⊢
    simp only [sel, List.map_cons, List.filter_cons]
    rw [ih]
  | false :: ks, l :: ls, h => by
    have ih := labels_sel ks ls h.2
    have e := h.1 rfl
    subst e
    unfold labelsOf at ih ⊢
    simp only [sel, List.map_cons, List.filter_cons]
    rw [ih]
    rfl
theorem sel_sub {α : Type} : ∀ (ks : List Bool) (xs : List α), (sel ks xs).Sublist xs
  | [], xs => by cases xs <;> exact List.nil_sublist _
  | _ :: _, [] => by simp [sel]
  | true :: ks, x :: xs => by simp only [sel]; exact (sel_sub ks xs).cons_cons x
  | false :: ks, x :: xs => by simp only [sel]; exact (sel_sub ks xs).cons x
theorem place_at (L : List Line) (st : List Int) (hf : Fresh (L.map strd)) (i : Nat) (hi : i < L.length) (hne : L[i].label ≠ []) : placeOf (L.map strd) st L[i].label = st.getD i 0 := by
  unfold placeOf labelAt
  have : (L.map strd).findIdx? (fun l => l.label == L[i].label) = some i := by
    rw [List.findIdx?_eq_some_iff_getElem]
    refine ⟨by simpa using hi, by simp [strd], fun j hj => ?_⟩
    have hp := (List.pairwise_iff_getElem.1 hf) j i (by simp; omega) (by simpa using hi) hj
    simp only [List.getElem_map] at hp ⊢
    have e1 : (strd L[i]).label = L[i].label := rfl
    have e2 : (strd (L[j]'(by omega))).label = (L[j]'(by omega)).label := rfl
    rw [e1, e2] at hp
    rw [e2]
    by_cases e : (L[j]'(by omega)).label = L[i].label
    · exact (hp (by rw [e]; exact hne) e).elim
    · simpa using e
  rw [this]; rfl
theorem labsTo_names (L : List Line) (st : List Int) (hf : Fresh (L.map strd)) : ∀ i, i ≤ L.length → labsTo L st i = (labelsOf ((L.take i).map strd)).map fun n => (n, placeOf (L.map strd) st n)
  | 0, _ => rfl
  | i + 1, h => by
    have hi : i < L.length := by omega
    rw [labsTo_succ, labsTo_names L st hf i (by omega)]
    have hg : L.getD i dl = L[i] := by rw [List.getD_eq_getElem?_getD, List.getElem?_eq_getElem hi]; rfl
    rw [hg, List.take_add_one, List.getElem?_eq_getElem hi]
    unfold labelsOf
    simp only [Option.toList_some, List.map_append, List.map_cons, List.map_nil, List.filter_append]
    congr 1
    have e : (strd L[i]).label = L[i].label := rfl
    by_cases hl : L[i].label = []
    · rw [if_pos hl, e, hl]; rfl
    · rw [if_neg hl, e]
      have hb : (L[i].label != []) = true := by simpa using hl
      rw [List.filter_cons, hb, if_pos rfl, List.filter_nil, List.map_cons, List.map_nil, place_at L st hf i hi hl]
theorem names_sorted (s : Bs) (r : Rd) (L : List Line) (n : Nat) (hr : readSource s = (r, 0, 0)) (hR : Rel n r L) (hok : (layOutOf s).2.2 = 0) : (namesAns s).Perm (labsTo L (stL r.org L) L.length) ∧ (namesAns s).Pairwise fun a b => a.1 < b.1 := by
  obtain ⟨ks, ho, hs, _⟩ := hR.ks
  have hlo := layOut_ok s hok
  have hlab := source_labR s
  rw [hr] at hlo hlab
  have hfr : Fresh r.lines := hlab.fresh
  have hfL : Fresh (L.map strd) := by
    rw [← hs]
    exact List.Pairwise.sublist (sel_sub ks r.lines) hfr
  have hz : Zero ks (layForms r.org r.lines) ∧ layForms r.org (L.map strd) = sel ks (layForms r.org r.lines) := by
    obtain ⟨_, _, h3, h4⟩ := lay_sel r.org ks r.lines ho (rel_range hR) (L.map strd) hs (sel ks (List.range' 1 r.lines.length)) rfl
    exact ⟨h4, h3⟩
  have hnum := selO_number r.org ks r.lines _ ho hz.1
  rw [hs, ← hz.2] at hnum
  have hpl : ∀ m, m ≠ [] → placeOf r.lines (starts r.org r.lines (layForms r.org r.lines)) m = placeOf (L.map strd) (stL r.org L) m := by
    intro m hm
    have := hnum ⟨m, 0⟩
    unfold numberOf at this
    simp only at this
    rw [if_neg hm, if_neg hm] at this
    exact this.symm
  have hll : labelsOf (L.map strd) = labelsOf r.lines := by rw [← hs]; exact labels_sel ks r.lines ho
  have hans : namesAns s = ((labelsOf r.lines).mergeSort leB).map fun m => (m, placeOf (L.map strd) (stL r.org L) m) := by
    unfold namesAns
    rw [if_neg (by rw [hok]; simp), hr, hlo]
    unfold namesOf
    refine List.map_congr_left (fun m hm => ?_)
    have hm' : m ∈ labelsOf r.lines := (List.mergeSort_perm _ _).mem_iff.1 hm
    rw [hpl m ((mem_labels _ _).1 hm').1]
  have hlt := labsTo_names L (stL r.org L) hfL L.length (Nat.le_refl _)
  rw [List.take_length, hll] at hlt
  rw [hans, hlt]
  refine ⟨(List.mergeSort_perm _ _).map _, ?_⟩
  rw [List.pairwise_map]
  have tr : ∀ a b c : List UInt8, leB a b = true → leB b c = true → leB a c = true := fun a b c h1 h2 => by simp only [leB, decide_eq_true_eq] at *; exact List.le_trans h1 h2
  have tot : ∀ a b : List UInt8, (leB a b || leB b a) = true := fun a b => by simp only [leB, Bool.or_eq_true, decide_eq_true_eq]; exact List.le_total a b
  have hp := List.pairwise_mergeSort tr tot (labelsOf r.lines)
  have hn : ((labelsOf r.lines).mergeSort leB).Nodup := (List.mergeSort_perm _ _).nodup_iff.2 (labels_nodup _ hfr)
  refine (hp.and hn).imp (fun {a b} h => ?_)
  have hle : a ≤ b := by simpa [leB] using h.1
  rcases List.le_iff_lt_or_eq.1 hle with h1 | h1
  · exact h1
  · exact (h.2 h1).elim
end Go.Proofs.YtegiloiojloaoaaGreatDoor.Rf

set_option linter.unusedVariables false
set_option linter.unusedSimpArgs false
namespace Go.Proofs.YtegiloiojloaoaaGreatDoor
open Go.RowKit Go.Shelf Go.Sort Go.Maps

theorem lay_asm (s : Strd.Bs) : (layOutOf s).2 = (Strd.assemble s).2 := by
  rw [asm_eq s]
  by_cases h : (layOutOf s).2.2 = 0
  · rw [if_neg (by rw [h]; simp), layOut_ok s h]
  · rw [if_pos h]
set_option maxRecDepth 1000000 in
set_option maxHeartbeats 4000000 in
theorem Names_long (s : ByteArray) (w : World) (hlong : 4000 < s.size) (hm : s.size ≤ 9223372036854775807) :
    Calls Tryz.prog 13 #[.string s] w fun e w' => e = .returned (.tuple #[.slice none 0 0, .int .i64 0, .int .i64 7]) ∧ Below w.heap.size w w' := by
  have CL := hide (fun V => layOut_long s V hlong hm)
  clear hlong hm
  go_enter Tryz.func13, Tryz.ntmps13
  go_wp2_with fail
  refine (unhide CL _).mono ?_
  rintro e w1 ⟨rfl, hb1⟩
  have hb2 := below_a w1 (.cells #[.int .i64 0, .slice none 0 0, .map none, .slice none 0 0, .slice none 0 0] 67)
  go_wp2
  refine bodyPost_ret (v := .tuple #[.slice none 0 0, .int .i64 0, .int .i64 7]) (by simp [results, Tryz.results13]) rfl ?_
  exact ⟨rfl, below_t hb1 hb2⟩
theorem cells_names (l : List (Strd.Bs × Int)) : nameCells l = Rf.labCells l := by
  unfold nameCells Rf.labCells
  rw [List.flatMap_def]
  rfl
theorem Names_any (s : Strd.Bs) (w : World) (hm : s.length ≤ 9223372036854775807) (h11 : 11 ≤ w.heap.size) (hT : Tabs w) :
    Calls Tryz.prog 13 #[.string (bstr s)] w fun e w' => ∃ p c, e = .returned (.tuple #[.slice p (namesAns s).length c, .int .i64 (Strd.assemble s).2.1, .int .i64 (Strd.assemble s).2.2]) ∧ w'.ownsRow w.heap.size 37 2 (.slice p (namesAns s).length c) (namesAns s).length (Rf.labCells (namesAns s)) ∧ Below w.heap.size w w' := by
  have hz : (bstr s).size = s.length := by rw [size_list, bstr_list]
  have hla := lay_asm s
  by_cases hl : 4000 < s.length
  · refine (Names_long (bstr s) w (by omega) (by omega)).mono ?_
    rintro e w' ⟨rfl, hb⟩
    have h7 : (Strd.assemble s).2 = (0, 7) := by rw [asm_long s hl]
    have hn : namesAns s = [] := by
      unfold namesAns
      rw [if_pos (by rw [hla, h7]; decide)]
    rw [h7, hn]
    exact ⟨none, 0, rfl, World.ownsRow_nil _ _ _ _, hb⟩
  · have hc := Names_c (bstr s) w (by omega) h11 hT
    rw [bstr_list] at hc
    refine hc.mono ?_
    rintro e w' ⟨v, rfl, hN, _, hb⟩
    obtain ⟨p, c, rfl⟩ := Rf.row_shape hN
    rw [hla]
    refine ⟨p, c, rfl, ?_, hb⟩
    have := hN
    unfold NamesAt at this
    rw [cells_names] at this
    exact this
theorem Names_ref (s : Strd.Bs) (w : World) (hm : s.length ≤ 9223372036854775807) :
    Calls Tryz.prog 29 #[.string (bstr s)] w fun e w' => ∃ p c, e = .returned (.tuple #[.slice p (namesAns s).length c, .int .i64 (Strd.assemble s).2.1, .int .i64 (Strd.assemble s).2.2]) ∧ w'.ownsRow w.heap.size 37 2 (.slice p (namesAns s).length c) (namesAns s).length (Rf.labCells (namesAns s)) ∧ Below w.heap.size w w' :=
  Names_refS s (namesAns s) w hm (fun r L n hr hR h0 => Rf.names_sorted s r L n hr hR (by rw [lay_asm s]; exact h0)) (fun h => by
    unfold namesAns
    rw [if_pos (by rw [lay_asm s]; exact h)])
end Go.Proofs.YtegiloiojloaoaaGreatDoor
