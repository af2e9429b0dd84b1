/- The reference's Made. -/
import Derived.Test.YtegiloiojloaoaaGreatDoorCRef29
import Derived.Test.YtegiloiojloaoaaGreatDoorCRef26
import Derived.Test.YtegiloiojloaoaaGreatDoorCRef14
import Derived.Test.YtegiloiojloaoaaGreatDoorCRef15
import Derived.Deep.CutBlock
import Derived.Deep.DeepCutAuto
set_option linter.unusedVariables false
set_option linter.unusedSimpArgs false
namespace Go.Proofs.YtegiloiojloaoaaGreatDoor
open Go.RowKit Go.Shelf Go.Sort Go.Maps

namespace Rf
/-- What Made hands back. -/
def MadeQ (s : Strd.Bs) (w : World) (e : Ending) (w' : World) : Prop :=
  (∃ (n : Nat) (er : Int), er ≠ 0 ∧ Strd.assemble s = ((0, []), n, er) ∧ e = .returned (.tuple #[.pointer none, .int .i64 (n : Int), .int .i64 er]) ∧ Below w.heap.size w w') ∨
  (∃ (g k : Nat) (r : Strd.Rd) (L : List Line) (qs : List (Line × Sl)) (en : Int) (pl : Option Addr) (cl : Nat) (pf : Option Addr) (cf : Nat) (pa : Option Addr) (ca : Nat) (pb : Option Addr) (cb : Nat), e = .returned (.tuple #[.pointer (some ⟨g, 0, none⟩), .int .i64 0, .int .i64 0]) ∧ Strd.readSource s = (r, 0, 0) ∧ Rel k r L ∧ L.length ≤ 4001 ∧ (0 ≤ r.org ∧ r.org ≤ 2 ^ 24) ∧ badN L = 0 ∧ ¬ 0 < missN r.org L ∧ overN r.org L = 0 ∧ ¬ (stL r.org L).getD L.length 0 - 1 > 0xfffffe ∧ PrgB w.heap.size w' g r.org en L qs (List.zipWith upf L (Strd.layForms r.org (L.map strd))) ((stL r.org L).take L.length) (labsTo L (stL r.org L) L.length) pl cl pf cf pa ca pb cb ∧ Below w.heap.size w w')
/-- What stands while lines are read. -/
structure LoopSt (B g : Nat) (w wq : World) (org : Int) (L : List Line) (qs : List (Line × Sl)) (pl : Option Addr) (cl : Nat) (parts : List Strd.Bs) (pp : Option Addr) (cp : Nat) : Prop where
  prg : PrgB B wq g org 0 L qs [] [] [] pl cl none 0 none 0 none 0
  strs : StrsAt 0 wq (.slice pp parts.length cp) parts
  kept : Kept B MTag w wq
theorem LoopSt.below {B g : Nat} {w wq w' : World} {org : Int} {L : List Line} {qs : List (Line × Sl)} {pl : Option Addr} {cl : Nat} {parts : List Strd.Bs} {pp : Option Addr} {cp : Nat} (h : LoopSt B g w wq org L qs pl cl parts pp cp) (hb : Below wq.heap.size wq w') : LoopSt B g w w' org L qs pl cl parts pp cp :=
  ⟨h.prg.below hb, h.strs.below hb, h.kept.trans (Kept.of_below hb)⟩
theorem LoopSt.low {B g : Nat} {w wq : World} {org : Int} {L : List Line} {qs : List (Line × Sl)} {pl : Option Addr} {cl : Nat} {parts : List Strd.Bs} {pp : Option Addr} {cp : Nat} (h : LoopSt B g w wq org L qs pl cl parts pp cp) (hB : B = w.heap.size) : Below w.heap.size w wq := by
  have := h.kept.below (by omega)
  rw [hB] at this
  exact this
theorem src_add (s : Strd.Bs) (i : Nat) (r : Strd.Rd) (hX : Strd.readSource s = Strd.addAll i r ((Strd.split 10 s).drop i)) (hi : i < (Strd.split 10 s).length) : Strd.readSource s = if (Strd.add r (Strd.split 10 s)[i]).2 = 0 then Strd.addAll (i + 1) (Strd.add r (Strd.split 10 s)[i]).1 ((Strd.split 10 s).drop (i + 1)) else ((Strd.add r (Strd.split 10 s)[i]).1, i + 1, (Strd.add r (Strd.split 10 s)[i]).2) := by
  rw [hX, List.drop_eq_getElem_cons hi]
  rfl
theorem asm_err (s : Strd.Bs) (i : Nat) (r : Strd.Rd) (hX : Strd.readSource s = Strd.addAll i r ((Strd.split 10 s).drop i)) (hi : i < (Strd.split 10 s).length) (er : Int) (h : (Strd.add r (Strd.split 10 s)[i]).2 = er) (hne : er ≠ 0) : Strd.assemble s = ((0, []), i + 1, er) := by
  have h1 := src_add s i r hX hi
  rw [if_neg (by rw [h]; exact hne), h] at h1
  unfold Strd.assemble
  rw [h1]
  simp [hne]
theorem src_next (s : Strd.Bs) (i : Nat) (r : Strd.Rd) (hX : Strd.readSource s = Strd.addAll i r ((Strd.split 10 s).drop i)) (hi : i < (Strd.split 10 s).length) (h : (Strd.add r (Strd.split 10 s)[i]).2 = 0) : Strd.readSource s = Strd.addAll (i + 1) (Strd.add r (Strd.split 10 s)[i]).1 ((Strd.split 10 s).drop (i + 1)) := by
  have h1 := src_add s i r hX hi
  rw [if_pos h] at h1
  exact h1
theorem texts8 (l : Line) (hl : WfL l) : l.texts.length ≤ 8 := by
  rcases hl.shaped with ⟨h1, h2⟩ | ⟨h1, h2⟩ | ⟨h1, p, q, m, n, ht, _⟩ | ⟨h1, p, q, m, n, ht, _⟩ | ⟨h1, p, ht, ha⟩ | ⟨h1, h2, h3, h4⟩ | ⟨h1, p, n, ht, ha⟩
  · rw [h2]; simp
  · rw [h2]; simp
  · rw [ht]; simp
  · rw [ht]; simp
  · rw [ht]; simp
  · exact h3
  · rw [ht]; simp
theorem org_ok (l : Line) (hl : WfL l) (hn : numbers l = true) (h : l.word = [111, 114, 103]) : 0 ≤ orgOf l ∧ orgOf l ≤ 2 ^ 24 := by
  obtain ⟨_, a, n, ht, ha⟩ := org_num l hl h
  have e : orgOf l = n := by unfold orgOf textAt; rw [ht]; simp [ha]
  rw [e]
  unfold numbers at hn
  rw [ht] at hn
  simp only [Bool.and_eq_true] at hn
  have hlast := hn.2
  rw [h] at hlast
  unfold lastNum at hlast
  rw [ha] at hlast
  simp [Strd.isPlace, Strd.within] at hlast
  omega
theorem encL_one (x : Line × Sl) : ∀ u ∈ encL x, u.oneCell' = true := by
  intro u hu
  simp only [encL, List.mem_cons, List.not_mem_nil, or_false] at hu
  rcases hu with rfl | rfl | rfl | rfl | rfl <;> rfl
theorem news_encL (w : World) (x : Line × Sl) (t : TypeId) : ∀ j u, (encL x)[j]? = some u → (w.alloc (.cells (encL x).toArray t)).drew.cell? ((⟨w.heap.size, 0, none⟩ : Addr).add j) = some u := by
  intro j u h
  have hb := box_cell (box_new_d w (.cells (encL x).toArray t)) j
  rw [List.getElem?_toArray] at hb
  have e : (⟨w.heap.size, 0, none⟩ : Addr).add j = ⟨w.heap.size, j, none⟩ := by
    unfold Addr.add
    split
    · rename_i h0; subst h0; rfl
    · simp
  rw [e]
  exact hb.trans h
theorem LoopSt.add {B g : Nat} {w w5 w6 : World} {org : Int} {L : List Line} {qs : List (Line × Sl)} {pl : Option Addr} {cl : Nat} {parts : List Strd.Bs} {pp : Option Addr} {cp : Nat} (h : LoopSt B g w w5 org L qs pl cl parts pp cp) {l : Line} {p : Option Addr} {n c : Nat} (hl : LineAt w5 p n c l) {p6 : Option Addr} {cap6 : Nat} (hk6 : Kept B (Tag 144) w5 w6) (hown : w6.ownsRow B 144 5 (.slice p6 (qs.length + 1) cap6) (qs.length + 1) (qs.flatMap encL ++ encL (l, (p, n, c)))) :
    LoopSt B g w (w6.setCell ⟨g, 1, none⟩ (.slice p6 (qs.length + 1) cap6)) org (L ++ [l]) (qs ++ [(l, (p, n, c))]) p6 cap6 parts pp cp := by
  obtain ⟨h1, h2⟩ := h.prg.addLine hl hk6 hown
  exact ⟨h1, ownsRow_keptD h.strs h2 mtag9, h.kept.trans h2⟩
end Rf
set_option maxRecDepth 1000000 in
set_option maxHeartbeats 8000000 in
theorem Made_ref (s : Strd.Bs) (w : World) (hsl0 : s.length ≤ 9223372036854775807) : Calls Tryz.prog 42 #[.string (bstr s)] w fun e w' => Rf.MadeQ s w e w' := by
  go_enter Tryz.func42, Tryz.ntmps42
  by_cases hlong : 4000 < s.length
  ·
    sorry
  · have hlI : ¬ (4000 : Int) < (s.length : Int) := by omega
    have hsl : s.length ≤ 2 ^ 40 := by omega
    clear hsl0
    obtain ⟨hpl1, hpl2, hpl3⟩ := split_len 10 s
    have C71 := hide (fun V => split_ref s 10 V hsl)
    have hP0 := Rf.PrgB.start w
    have hb1 := below_a w (.cells #[.int .i64 0, .slice none 0 0, .slice none 0 0, .slice none 0 0, .int .i64 0, .slice none 0 0] 108)
    have HP0 := hide hP0
    clear hP0
    go_upto_region 4 with fail
    generalize w.alloc (.cells #[.int .i64 0, .slice none 0 0, .slice none 0 0, .slice none 0 0, .int .i64 0, .slice none 0 0] 108) = W1 at *
    go_upto_region 5 with (go_at_call 71; refine (unhide C71 _).mono ?_; rintro e w2 ⟨v, rfl, hS, hb2⟩; obtain ⟨pp, cp, rfl⟩ := Rf.strs_shape hS; have HS := hide hS; clear hS)
    have hX0 : Strd.readSource s = Strd.addAll 0 ⟨0, [], false⟩ ((Strd.split 10 s).drop 0) := by unfold Strd.readSource; rw [if_neg (by omega)]; rfl
    have HX0 := hide hX0
    have HS2 : Hid (Rf.LoopSt w.heap.size w.heap.size w w2 0 [] [] none 0 (Strd.split 10 s) pp cp) := hide ⟨(unhide HP0).below hb2, Rf.row_base (unhide HS) (Nat.zero_le _), Kept.of_below (below_t hb1 hb2)⟩
    have Herr := hide (fun i r hX hi er h hne => Rf.asm_err s i r hX hi er h hne)
    have Hnxt := hide (fun i r hX hi h => Rf.src_next s i r hX hi h)
    have Hdrop : Hid (∀ r, Strd.readSource s = Strd.addAll (Strd.split 10 s).length r ((Strd.split 10 s).drop (Strd.split 10 s).length) → Strd.readSource s = (r, 0, 0)) := hide (fun r h => by rw [h, List.drop_length]; rfl)
    generalize Strd.split 10 s = parts at *
    clear hX0 HS HP0 C71 hb1 hb2
    go_upto_block 0 with fail
    go_cut [] (fun wq => ∃ (k : Nat) (r : Strd.Rd) (L : List Rf.Line) (qs : List (Rf.Line × Sl)) (pl : Option Addr) (cl : Nat), Strd.readSource s = (r, 0, 0) ∧ Rf.Rel k r L ∧ L.length ≤ 4001 ∧ (0 ≤ r.org ∧ r.org ≤ 2 ^ 24) ∧ Rf.PrgB w.heap.size wq w.heap.size r.org 0 L qs [] [] [] pl cl none 0 none 0 none 0 ∧ Kept w.heap.size Rf.MTag w wq)
    case first =>
      sorry
    case rest =>
      sorry
end Go.Proofs.YtegiloiojloaoaaGreatDoor
