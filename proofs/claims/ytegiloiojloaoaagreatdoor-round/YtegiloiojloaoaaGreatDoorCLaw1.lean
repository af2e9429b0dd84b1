/- What the laws begin with: arguments, the made lines, the plain source assembled. -/
import Derived.Test.YtegiloiojloaoaaGreatDoorCSrce
import Derived.Test.YtegiloiojloaoaaGreatDoorCAsm
import Derived.Test.YtegiloiojloaoaaGreatDoorCDrs
set_option linter.unusedVariables false
set_option linter.unusedSimpArgs false
namespace Go.Proofs.YtegiloiojloaoaaGreatDoor
open Go.RowKit Go.Shelf Go.Sort Go.Maps

theorem bstr_get {S : Strd.Bs} {i : Nat} {c : UInt8} (h : S[i]? = some c) : ∀ h' : i < (bstr S).size, (bstr S)[i]'h' = c := fun h' => by
  have h2 : i < S.length := by rw [bstr_size] at h'; exact h'
  rw [List.getElem?_eq_getElem h2] at h
  have := Option.some.inj h
  rw [← this]
  rfl
theorem ItemsAt.below {w w' : World} {v : Value} {xs : List Strd.Item} (h : ItemsAt w v xs) (hb : Below w.heap.size w w') : ItemsAt w' v xs := by
  rcases h with h | ⟨b, off, cap, rfl, hbl, h⟩
  · exact .inl h
  · refine .inr ⟨b, off, cap, rfl, Nat.lt_of_lt_of_le hbl hb.size, fun i hi => ?_⟩
    obtain ⟨⟨c0, c1, c2, c3⟩, hr⟩ := h i hi
    exact ⟨⟨(hb.cell (p := ⟨b, off + i * 4, none⟩) hbl).trans c0, (hb.cell (p := ⟨b, off + i * 4 + 1, none⟩) hbl).trans c1, (hb.cell (p := ⟨b, off + i * 4 + 2, none⟩) hbl).trans c2, (hb.cell (p := ⟨b, off + i * 4 + 3, none⟩) hbl).trans c3⟩, hr⟩
theorem MadeV.shape {base : Nat} {w : World} {cs : Array Value} {ms : List Strd.ML} (h : MadeV base w cs ms) : ∃ pr cr pl cl pw cw pt ct, cs = #[.slice pr ms.length cr, .slice pl ms.length cl, .slice pw ms.length cw, .slice pt ms.length ct, .int .i64 6] := by
  obtain ⟨vr, vl, vw, vt, rfl, hr, hl, hw, ht⟩ := h
  obtain ⟨pr, cr, rfl⟩ := own_shape hr
  obtain ⟨pl, cl, rfl⟩ := own_shape hl
  obtain ⟨pw, cw, rfl⟩ := own_shape hw
  obtain ⟨pt, ct, rfl⟩ := own_shape ht
  simp only [List.length_map]
  exact ⟨_, _, _, _, _, _, _, _, rfl⟩
theorem MadeV.below {base : Nat} {w w' : World} {cs : Array Value} {ms : List Strd.ML} (h : MadeV base w cs ms) (hb : Below w.heap.size w w') : MadeV base w' cs ms := by
  obtain ⟨vr, vl, vw, vt, rfl, hr, hl, hw, ht⟩ := h
  exact ⟨vr, vl, vw, vt, rfl, hr.below hb, hl.below hb, hw.below hb, ht.below hb⟩
/-- A slice of numbers as an argument. -/
def RawAt (w : World) (v : Value) (zs : List Int) : Prop := (zs = [] ∧ ∃ p cap, v = .slice p 0 cap) ∨ ∃ b off cap, v = .slice (some ⟨b, off, none⟩) zs.length cap ∧ b < w.heap.size ∧ ∀ i (h : i < zs.length), w.cell? ⟨b, off + i, none⟩ = some (.int .i64 zs[i]) ∧ I64 zs[i]
theorem RawAt.shape {w : World} {v : Value} {zs : List Int} (h : RawAt w v zs) : ∃ p cap, v = .slice p zs.length cap := by
  rcases h with ⟨rfl, p, cap, rfl⟩ | ⟨b, off, cap, rfl, _⟩
  · exact ⟨p, cap, rfl⟩
  · exact ⟨_, _, rfl⟩
theorem RawAt.below {w w' : World} {v : Value} {zs : List Int} (h : RawAt w v zs) (hb : Below w.heap.size w w') : RawAt w' v zs := by
  rcases h with h | ⟨b, off, cap, rfl, hbl, h⟩
  · exact .inl h
  · exact .inr ⟨b, off, cap, rfl, Nat.lt_of_lt_of_le hbl hb.size, fun i hi => ⟨(hb.cell (p := ⟨b, off + i, none⟩) hbl).trans (h i hi).1, (h i hi).2⟩⟩
theorem RawAt.at {w : World} {p : Option Addr} {n cap : Nat} {zs : List Int} (h : RawAt w (.slice p n cap) zs) (i : Nat) (hi : i < zs.length) : ∃ b off, p = some ⟨b, off, none⟩ ∧ b < w.heap.size ∧ w.cell? ⟨b, off + i, none⟩ = some (.int .i64 zs[i]) ∧ I64 zs[i] := by
  rcases h with ⟨rfl, _⟩ | ⟨b, off, cap', he, hbl, h⟩
  · cases hi
  · cases he
    exact ⟨b, off, rfl, hbl, h i hi⟩
theorem src_short {ms : List Strd.ML} (hM : Strd.MsEven ms) (fs : List Nat) : (Strd.srcOf (Strd.pairs ms fs)).length ≤ 960 := by
  have h1 := Strd.src_len (Strd.pairs ms fs) (fun p hp => hM.ok.ok _ (Strd.pairs_mem hp))
  rw [Strd.pairs_len] at h1
  have := hM.ok.len
  omega
/-- Assemble of the lines with forms. -/
theorem asm_src {ms : List Strd.ML} (hM : Strd.MsEven ms) (fs : List Nat) (w : World) (h11 : 11 ≤ w.heap.size) (hT : Tabs w) :
    Calls Tryz.prog 10 #[.string (bstr (Strd.srcOf (Strd.pairs ms fs)))] w fun e w' => e = .returned (.tuple #[.agg #[.int .i64 (Strd.assemble (Strd.srcOf (Strd.pairs ms fs))).1.1, .string (bstr (Strd.assemble (Strd.srcOf (Strd.pairs ms fs))).1.2)], .int .i64 (Strd.assemble (Strd.srcOf (Strd.pairs ms fs))).2.1, .int .i64 (Strd.assemble (Strd.srcOf (Strd.pairs ms fs))).2.2]) ∧ Below w.heap.size w w' := by
  have h1 := src_short hM fs
  have h := Assemble_c (bstr (Strd.srcOf (Strd.pairs ms fs))) w (by rw [bstr_size]; omega) h11 hT
  rw [bstr_list] at h
  exact h
theorem asm_plain {ms : List Strd.ML} (hM : Strd.MsEven ms) (w : World) (h11 : 11 ≤ w.heap.size) (hT : Tabs w) :
    Calls Tryz.prog 10 #[.string (bstr (Strd.srcOf (Strd.pairs ms [])))] w fun e w' => e = .returned (.tuple #[.agg #[.int .i64 0, .string (bstr (Strd.imgOf (Strd.Lp ms []) (Strd.F0 ms)))], .int .i64 0, .int .i64 0]) ∧ Below w.heap.size w w' := by
  have h := asm_src hM [] w h11 hT
  rw [Strd.plain_asm hM] at h
  exact h
end Go.Proofs.YtegiloiojloaoaaGreatDoor
