/- A source that is read has well formed lines. -/
import Derived.Test.YtegiloiojloaoaaGreatDoorCUnk
import Derived.Test.YtegiloiojloaoaaGreatDoorCSetSt
set_option linter.unusedVariables false
set_option linter.unusedSimpArgs false
namespace Go.Proofs.YtegiloiojloaoaaGreatDoor
open Go.RowKit

theorem cutForm_forms (w : Strd.Bs) : 0 ≤ (Strd.cutForm w).2.1 ∧ (Strd.cutForm w).2.1 ≤ 2 ∧ (Strd.cutForm w).2.2 ≤ 2 := by
  unfold Strd.cutForm
  split
  · simp
  · split
    · simp
    · split <;> simp
theorem find_wf (w : Strd.Bs) (op : Strd.Op) (h : Strd.find w = some op) : 0 ≤ op.first ∧ op.first ≤ 2 ∧ op.last ≤ 2 ∧ 1 ≤ op.kind ∧ op.kind ≤ 11 := by
  unfold Strd.find at h
  split at h
  · rename_i r hr
    cases h
    have hm := List.mem_of_find?_eq_some hr
    have : ∀ x ∈ Strd.fixedWords, 1 ≤ x.2.1 ∧ x.2.1 ≤ 11 := by decide
    have := this r hm
    simp only
    omega
  · have hc := cutForm_forms w
    generalize Strd.cutForm w = cf at h hc
    obtain ⟨st, f, l⟩ := cf
    simp only at h hc
    split at h
    · cases h
      simp only [Strd.jumpOp]; omega
    · split at h
      · cases h
      · split at h
        · cases h
          simp only [Strd.farOp]; omega
        · cases h
theorem readOperand_name (r : Int) (s : Strd.Bs) (o : Strd.Opr) (h : Strd.readOperand r s = some o) : o.name.length ≤ s.length ∧ (r ≠ 3 → o.name = []) := by
  unfold Strd.readOperand at h
  split at h
  · rename_i h3
    cases h; exact ⟨Nat.le_refl _, fun e => (e h3.1).elim⟩
  · split at h
    · cases h
    · split at h
      · cases h
      · rename_i d _ _
        cases hn : Strd.number d with
        | none => rw [hn] at h; cases h
        | some n => rw [hn] at h; cases h; exact ⟨by simp, fun _ => rfl⟩
theorem ros_names (n : Nat) : ∀ (rs : List Int) (ts : List Strd.Bs) (os : List Strd.Opr), (∀ t ∈ ts, t.length ≤ n) → Strd.readOperands rs ts = some os → ∀ o ∈ os, o.name.length ≤ n ∧ ((∀ r ∈ rs, r ≠ 3) → o.name = [])
  | [], [], os, _, h => by cases h; intro o ho; cases ho
  | [], _ :: _, os, _, h => by cases h
  | _ :: _, [], os, _, h => by cases h
  | r :: rs, t :: ts, os, hn, h => by
    simp only [Strd.readOperands] at h
    cases h1 : Strd.readOperand r (Strd.trim t) with
    | none => rw [h1] at h; cases h
    | some o =>
      rw [h1] at h
      simp only [Option.bind_some] at h
      cases h2 : Strd.readOperands rs ts with
      | none => rw [h2] at h; cases h
      | some os2 =>
        rw [h2] at h
        cases h
        intro x hx
        rcases List.mem_cons.1 hx with rfl | hx
        · have h3 := readOperand_name _ _ _ h1
          have h4 := trim_len t
          have h5 := hn t (by simp)
          exact ⟨by omega, fun hr => h3.2 (hr r (by simp))⟩
        · have h3 := ros_names n rs ts os2 (fun t ht => hn t (by simp [ht])) h2 x hx
          exact ⟨h3.1, fun hr => h3.2 (fun r hr' => hr r (by simp [hr']))⟩
theorem cutWord_len2 : ∀ (s : Strd.Bs), (Strd.cutWord s).1.length ≤ s.length ∧ (Strd.cutWord s).2.length ≤ s.length
  | [] => ⟨Nat.le_refl _, Nat.le_refl _⟩
  | c :: t => by
    unfold Strd.cutWord
    split
    · exact ⟨by simp, trim_len _⟩
    · have := cutWord_len2 t
      exact ⟨by simp; omega, by simp; omega⟩
structure WfL (l : Strd.Line) : Prop where
  ins : WfI l.ins
  names : ∀ o ∈ l.ins.oprs, o.name.length ≤ 2 ^ 20
  bare : 9 ≤ l.ins.op.kind → ∀ o ∈ l.ins.oprs, o.name = []
  forms : 0 ≤ l.ins.op.first ∧ l.ins.op.first ≤ 2 ∧ l.ins.op.last ≤ 2
  kinds : 0 ≤ l.ins.op.kind ∧ l.ins.op.kind ≤ 11
theorem roles_bare (k : Int) (h1 : 9 ≤ k) (h2 : k ≤ 11) (n : Nat) : ∀ r ∈ Strd.roles k n, r ≠ 3 := by
  have : k = 9 ∨ k = 10 ∨ k = 11 := by omega
  rcases this with rfl | rfl | rfl <;> simp [Strd.roles]
theorem instruction_wfL (s a : Strd.Bs) (hs : s.length ≤ 2 ^ 20) (i : Strd.Ins) (h : Strd.instruction s = some i) : WfL ⟨a, i⟩ := by
  refine ⟨instruction_wf s i h, ?_, ?_, ?_, ?_⟩ <;>
  · unfold Strd.instruction at h
    simp only at h
    split at h
    · cases h
      simp [Strd.emptyIns]
    · cases hf : Strd.find (Strd.cutWord (Strd.trim s)).1 with
      | none => rw [hf] at h; cases h
      | some op =>
        rw [hf] at h
        simp only [Option.bind_some] at h
        have hts : ∀ t ∈ (if (Strd.cutWord (Strd.trim s)).2 = [] then [] else Strd.split 44 (Strd.cutWord (Strd.trim s)).2), t.length ≤ 2 ^ 20 := by
          intro t ht
          split at ht
          · cases ht
          · have h1 := (split_len 44 (Strd.cutWord (Strd.trim s)).2).2.1 t ht
            have h2 := (cutWord_len2 (Strd.trim s)).2
            have h3 := trim_len s
            omega
        generalize (if (Strd.cutWord (Strd.trim s)).2 = [] then [] else Strd.split 44 (Strd.cutWord (Strd.trim s)).2) = ts at h hts
        cases ho : Strd.operands op.kind ts with
        | none => rw [ho] at h; cases h
        | some os =>
          rw [ho] at h
          cases h
          have hw := find_wf _ _ hf
          have hn := ros_names (2 ^ 20) _ _ _ hts ho
          simp only
          first
            | exact fun o ho => (hn o ho).1
            | exact fun h9 o ho => (hn o ho).2 (roles_bare _ h9 (by omega) _)
            | omega
theorem readLine_wfL (s : Strd.Bs) (hs : s.length ≤ 2 ^ 20) (l : Strd.Line) (h : Strd.readLine s = some l) : WfL l := by
  have h59 : ((Strd.split 59 s).headD []).length ≤ s.length := by
    obtain ⟨_, hpl, _⟩ := split_len 59 s
    cases hS : Strd.split 59 s with
    | nil => simp
    | cons c r => exact hpl c (by rw [hS]; simp)
  have h58 := (split_len 58 ((Strd.split 59 s).headD [])).2.1
  unfold Strd.readLine at h
  split at h
  · rename_i a hp
    have := h58 a (by rw [hp]; simp)
    cases hi : Strd.instruction a with
    | none => rw [hi] at h; cases h
    | some i => rw [hi] at h; cases h; exact instruction_wfL a _ (by omega) _ hi
  · rename_i a b hp
    have := h58 b (by rw [hp]; simp)
    cases hi : Strd.instruction b with
    | none => rw [hi] at h; cases h
    | some i =>
      rw [hi] at h
      simp only [Option.bind_some] at h
      cases hl : Strd.labelName a with
      | none => rw [hl] at h; cases h
      | some n => rw [hl] at h; cases h; exact instruction_wfL b _ (by omega) _ hi
  · cases h
structure WfP (r : Strd.Rd) : Prop where
  all : ∀ l ∈ r.lines, WfL l ∧ Strd.numbersMayBe l.ins = true
  org : 0 ≤ r.org ∧ r.org ≤ 16777214
/-- One operand alone, by its kind. -/
theorem one_opr {l : Strd.Line} (h : WfL l) (hk : 9 ≤ l.ins.op.kind) (hm : Strd.numbersMayBe l.ins = true) : ∃ n, l.ins.oprs = [⟨[], n⟩] ∧ Strd.allows l.ins.op.kind n = true := by
  have hlen := h.ins.len
  have hb := h.bare hk
  have hkk := h.kinds
  have hr : Strd.roles l.ins.op.kind l.ins.oprs.length = [2] := by
    have : l.ins.op.kind = 9 ∨ l.ins.op.kind = 10 ∨ l.ins.op.kind = 11 := by omega
    rcases this with e | e | e <;> rw [e] <;> simp [Strd.roles]
  rw [hr] at hlen
  unfold Strd.numbersMayBe at hm
  rw [hr] at hm
  match ho : l.ins.oprs, hlen with
  | [o], _ =>
    rw [ho] at hm hb
    have e := hb o (by simp)
    obtain ⟨nm, n⟩ := o
    simp only at e
    subst e
    simp [Strd.numbersOk] at hm
    exact ⟨n, rfl, hm⟩
theorem add_wfP (r : Strd.Rd) (t : Strd.Bs) (ht : t.length ≤ 2 ^ 20) (h : WfP r) : WfP (Strd.add r t).1 := by
  unfold Strd.add
  split
  · exact h
  · rename_i l hl
    have hw := readLine_wfL t ht l hl
    split
    · exact h
    · split
      · exact h
      · rename_i hm
        simp only [Bool.not_eq_false] at hm
        simp only
        split
        · exact h
        · refine ⟨fun x hx => ?_, ?_⟩
          · simp only [List.mem_append, List.mem_singleton] at hx
            rcases hx with hx | rfl
            · exact h.all x hx
            · exact ⟨hw, hm⟩
          · simp only
            split
            · rename_i h11
              obtain ⟨n, ho, ha⟩ := one_opr hw (by omega) hm
              rw [ho, List.headD_cons]
              rw [h11] at ha
              simp [Strd.allows, Strd.isPlace, Strd.within] at ha
              simp only
              omega
            · exact h.org
theorem addAll_wfP : ∀ (ts : List Strd.Bs) (k : Nat) (r : Strd.Rd), (∀ t ∈ ts, t.length ≤ 2 ^ 20) → WfP r → WfP (Strd.addAll k r ts).1 ∧ (Strd.addAll k r ts).1.lines.length ≤ r.lines.length + ts.length
  | [], k, r, _, h => ⟨h, by simp [Strd.addAll]⟩
  | t :: ts, k, r, ht, h => by
    have h1 := add_wfP r t (ht t (by simp)) h
    have h2 := add_len r t
    simp only [Strd.addAll]
    split
    · have h3 := addAll_wfP ts (k + 1) _ (fun t h => ht t (by simp [h])) h1
      exact ⟨h3.1, by rw [List.length_cons]; omega⟩
    · exact ⟨h1, by rw [List.length_cons]; show (Strd.add r t).1.lines.length ≤ _; omega⟩
theorem source_wfR (s : Strd.Bs) : WfR (Strd.readSource s).1 := by
  have key : WfP (Strd.readSource s).1 ∧ (Strd.readSource s).1.lines.length ≤ 4001 := by
    unfold Strd.readSource
    split
    · exact ⟨⟨fun l hl => (List.not_mem_nil hl).elim, by decide⟩, by simp⟩
    · have h := split_len 10 s
      have h1 := addAll_wfP (Strd.split 10 s) 0 ⟨0, [], false⟩ (fun t ht => by have := h.2.1 t ht; omega) ⟨fun l hl => (List.not_mem_nil hl).elim, by decide⟩
      exact ⟨h1.1, by have := h.2.2; have := h1.2; simp only [List.length_nil] at this; omega⟩
  obtain ⟨hp, hl⟩ := key
  refine ⟨by omega, fun l h => (hp.all l h).1.ins, fun l h => (hp.all l h).1.names, fun l h hk => ?_, fun l h hk => ?_, hp.org, fun l h => (hp.all l h).1.forms⟩
  · obtain ⟨n, ho, ha⟩ := one_opr (hp.all l h).1 (by omega) (hp.all l h).2
    rw [hk] at ha
    simpa [Strd.num, ho, Strd.allows] using ha
  · obtain ⟨n, ho, ha⟩ := one_opr (hp.all l h).1 (by omega) (hp.all l h).2
    rw [hk] at ha
    simp [Strd.allows, Strd.within] at ha
    simp [Strd.num, ho]
    omega
end Go.Proofs.YtegiloiojloaoaaGreatDoor

set_option linter.unusedVariables false
set_option linter.unusedSimpArgs false
namespace Go.Proofs.YtegiloiojloaoaaGreatDoor
open Go.RowKit

structure WfQ (l : Strd.Line) : Prop where
  bare : 9 ≤ l.ins.op.kind → ∀ o ∈ l.ins.oprs, o.name = []
  base : 0 ≤ l.ins.op.base ∧ l.ins.op.base ≤ 65535
  number : 0 ≤ l.ins.op.number ∧ l.ins.op.number < 16
theorem find_ops (w : Strd.Bs) (op : Strd.Op) (h : Strd.find w = some op) : 0 ≤ op.base ∧ op.base ≤ 65535 ∧ 0 ≤ op.number ∧ op.number < 16 := by
  unfold Strd.find at h
  split at h
  · rename_i r hr
    cases h
    have hm := List.mem_of_find?_eq_some hr
    have : ∀ x ∈ Strd.fixedWords, 0 ≤ x.2.2 ∧ x.2.2 ≤ 65535 := by decide
    have := this r hm
    simp only
    omega
  · generalize Strd.cutForm w = cf at h
    obtain ⟨st, f, l⟩ := cf
    simp only at h
    split at h
    · rename_i n hn
      cases h
      have hlt : n < 16 := (List.findIdx?_eq_some_iff_getElem.1 hn).1
      simp only [Strd.jumpOp]; omega
    · split at h
      · cases h
      · split at h
        · rename_i r hr
          cases h
          have hm := List.mem_of_find?_eq_some hr
          have : ∀ x ∈ Strd.farWords, 0 ≤ x.2 ∧ x.2 ≤ 65535 := by decide
          have := this r hm
          simp only [Strd.farOp]; omega
        · cases h
theorem instruction_ops (s : Strd.Bs) (i : Strd.Ins) (h : Strd.instruction s = some i) : 0 ≤ i.op.base ∧ i.op.base ≤ 65535 ∧ 0 ≤ i.op.number ∧ i.op.number < 16 := by
  unfold Strd.instruction at h
  simp only at h
  split at h
  · cases h; decide
  · cases hf : Strd.find (Strd.cutWord (Strd.trim s)).1 with
    | none => rw [hf] at h; cases h
    | some op =>
      rw [hf] at h
      simp only [Option.bind_some] at h
      generalize (if (Strd.cutWord (Strd.trim s)).2 = [] then [] else Strd.split 44 (Strd.cutWord (Strd.trim s)).2) = ts at h
      cases ho : Strd.operands op.kind ts with
      | none => rw [ho] at h; cases h
      | some os =>
        rw [ho] at h
        cases h
        exact find_ops _ _ hf
theorem readLine_q (s : Strd.Bs) (hs : s.length ≤ 2 ^ 20) (l : Strd.Line) (h : Strd.readLine s = some l) : WfQ l := by
  have hL := readLine_wfL s hs l h
  have hO : 0 ≤ l.ins.op.base ∧ l.ins.op.base ≤ 65535 ∧ 0 ≤ l.ins.op.number ∧ l.ins.op.number < 16 := by
    unfold Strd.readLine at h
    split at h
    · rename_i a _
      cases hi : Strd.instruction a with
      | none => rw [hi] at h; cases h
      | some i => rw [hi] at h; cases h; exact instruction_ops _ _ hi
    · rename_i a b _
      cases hi : Strd.instruction b with
      | none => rw [hi] at h; cases h
      | some i =>
        rw [hi] at h
        simp only [Option.bind_some] at h
        cases hl : Strd.labelName a with
        | none => rw [hl] at h; cases h
        | some n => rw [hl] at h; cases h; exact instruction_ops _ _ hi
    · cases h
  exact ⟨hL.bare, ⟨hO.1, hO.2.1⟩, hO.2.2⟩
theorem add_all (Q : Strd.Line → Prop) (r : Strd.Rd) (t : Strd.Bs) (ht : ∀ l, Strd.readLine t = some l → Q l) (h : ∀ l ∈ r.lines, Q l) : ∀ l ∈ (Strd.add r t).1.lines, Q l := by
  unfold Strd.add
  split
  · exact h
  · rename_i l hl
    split
    · exact h
    · split
      · exact h
      · simp only
        split
        · exact h
        · intro x hx
          simp only [List.mem_append, List.mem_singleton] at hx
          rcases hx with hx | rfl
          · exact h x hx
          · exact ht _ hl
theorem addAll_all (Q : Strd.Line → Prop) : ∀ (ts : List Strd.Bs) (k : Nat) (r : Strd.Rd), (∀ t ∈ ts, ∀ l, Strd.readLine t = some l → Q l) → (∀ l ∈ r.lines, Q l) → ∀ l ∈ (Strd.addAll k r ts).1.lines, Q l
  | [], k, r, _, h => h
  | t :: ts, k, r, ht, h => by
    have h1 := add_all Q r t (ht t (by simp)) h
    simp only [Strd.addAll]
    split
    · exact addAll_all Q ts (k + 1) _ (fun t h => ht t (by simp [h])) h1
    · exact h1
theorem source_wfQ (s : Strd.Bs) : ∀ l ∈ (Strd.readSource s).1.lines, WfQ l := by
  unfold Strd.readSource
  split
  · intro l hl; exact (List.not_mem_nil hl).elim
  · have h := split_len 10 s
    exact addAll_all WfQ _ _ _ (fun t ht l hl => readLine_q t (by have := h.2.1 t ht; omega) l hl) (fun l hl => (List.not_mem_nil hl).elim)

theorem placed_num (lines : List Strd.Line) (st : List Int) (i : Strd.Ins) (h : ∀ o ∈ i.oprs, o.name = []) (k : Nat) : Strd.num (Strd.placed lines st i) k = Strd.num i k := by
  unfold Strd.num Strd.placed
  simp only [List.getD_eq_getElem?_getD, List.getElem?_map]
  cases hk : i.oprs[k]? with
  | none => rfl
  | some o =>
    have := h o (List.mem_of_getElem? hk)
    simp [Strd.numberOf, this]
theorem placed_wfA (r : Strd.Rd) (hW : WfR r) (st : List Int) (hst : ∀ a ∈ st, 0 ≤ a ∧ a ≤ 2 ^ 31) (l : Strd.Line) (hl : l ∈ r.lines) (hQ : WfQ l) : WfA (Strd.placed r.lines st l.ins) := by
  have hI := hW.ins l hl
  have hlen : (Strd.placed r.lines st l.ins).oprs.length = l.ins.oprs.length := by simp [Strd.placed]
  have hrl := hI.len
  refine ⟨fun h => ?_, fun h => ?_, fun h => ?_, fun h => ?_, fun o ho => ?_, ?_, hQ.base, hQ.number⟩
  · have h' : l.ins.op.kind = 2 ∨ l.ins.op.kind = 3 ∨ l.ins.op.kind = 4 := h
    rw [hlen, ← hrl]
    rcases h' with e | e | e <;> rw [e] <;> simp [Strd.roles]
  · have h' : l.ins.op.kind = 5 ∨ l.ins.op.kind = 6 ∨ l.ins.op.kind = 9 ∨ l.ins.op.kind = 10 := h
    rw [hlen, ← hrl]
    rcases h' with e | e | e | e <;> rw [e] <;> simp [Strd.roles]
  · have h' : l.ins.op.kind = 10 := h
    rw [placed_num _ _ _ (hQ.bare (by omega))]
    exact hW.pow l hl h'
  · have h' : l.ins.op.kind = 9 := h
    rw [placed_num _ _ _ (hQ.bare (by omega))]
    exact hW.space l hl h'
  · unfold Strd.placed at ho
    simp only [List.mem_map] at ho
    obtain ⟨o', ho', rfl⟩ := ho
    have := hI.nums o' ho'
    simp only [Strd.numberOf, Strd.placeOf]
    split
    · exact this
    · generalize (Strd.labelAt r.lines o'.name).getD 0 = k
      by_cases hk : k < st.length
      · have h1 := hst _ (List.getElem_mem hk)
        rw [List.getD_eq_getElem?_getD, List.getElem?_eq_getElem hk]
        simp only [Option.getD_some]
        omega
      · rw [List.getD_eq_getElem?_getD, List.getElem?_eq_none (by omega)]
        decide
  · rw [hlen]; exact hI.le
theorem flat_words2 : ∀ (os : List Strd.Opr), ((os.map fun o => Strd.wordBs o.num).flatten).length = 2 * os.length
  | [] => rfl
  | o :: os => by rw [List.map_cons, List.flatten_cons, List.length_append, flat_words2 os, List.length_cons, show (Strd.wordBs o.num).length = 2 from rfl]; omega
theorem pow_le (n : Int) (h : Strd.isPow n = true) : 0 < n ∧ n ≤ 256 := by
  simp [Strd.isPow] at h; omega
theorem bytes_small (i : Strd.Ins) (f a : Int) (h : WfA i) : (Strd.bytes i f a).length ≤ 1024 := by
  have w2 : ∀ n, (Strd.wordBs n).length = 2 := fun _ => rfl
  have h8 := h.len
  by_cases h1 : i.op.kind = 1
  · simp [Strd.bytes, h1, w2]
  by_cases h2 : i.op.kind = 2
  · simp [Strd.bytes, h2, w2]
  by_cases h3 : i.op.kind = 3
  · simp [Strd.bytes, h3, w2]
  by_cases h4 : i.op.kind = 4
  · simp only [Strd.bytes, h4]
    unfold Strd.addBytes
    cases Strd.addsShort (Strd.num i 0) <;> simp [w2]
  by_cases h5 : i.op.kind = 5
  · simp only [Strd.bytes, h5]
    simp only [show ¬((5 : Int) = 1) by decide, show ¬((5 : Int) = 2) by decide, show ¬((5 : Int) = 3) by decide, show ¬((5 : Int) = 4) by decide, if_false, if_true]
    unfold Strd.jumpBytes
    simp only
    split
    · simp [w2]
    · split
      · simp [w2]
      · split
        · simp [Strd.longJump, w2]
        · cases Strd.isCond i.op <;> simp [Strd.longJump, w2]
  by_cases h6 : i.op.kind = 6
  · simp only [Strd.bytes, h6]
    simp only [show ¬((6 : Int) = 1) by decide, show ¬((6 : Int) = 2) by decide, show ¬((6 : Int) = 3) by decide, show ¬((6 : Int) = 4) by decide, show ¬((6 : Int) = 5) by decide, if_false, if_true]
    unfold Strd.farBytes
    split <;> simp [Strd.longJump, w2]
  by_cases h7 : i.op.kind = 7
  · have : Strd.bytes i f a = (i.oprs.map fun o => Strd.wordBs o.num).flatten := by
      simp [Strd.bytes, h7]
    rw [this, flat_words2]; omega
  by_cases h9 : i.op.kind = 8
  · have : Strd.bytes i f a = i.oprs.map fun o => Strd.byteB o.num := by
      simp [Strd.bytes, h9]
    rw [this, List.length_map]; omega
  by_cases h10 : i.op.kind = 9 ∨ i.op.kind = 10
  · have e : Strd.bytes i f a = List.replicate (Strd.size i f a).toNat 0 := by
      unfold Strd.bytes
      simp only [h1, h2, h3, h4, h5, h6, h7, h9, h10, if_false, if_true]
    rw [e, List.length_replicate]
    rcases h10 with hk | hk
    · have := h.space hk
      have e2 : Strd.size i f a = Strd.num i 0 := by unfold Strd.size; simp [hk]
      rw [e2]; omega
    · have := pow_le _ (h.pow hk)
      have e2 : Strd.size i f a = (-a) % Strd.num i 0 := by unfold Strd.size; simp [hk]
      rw [e2]
      have := Int.emod_lt_of_pos (-a) this.1
      omega
  · have e : Strd.bytes i f a = [] := by
      unfold Strd.bytes
      simp only [h1, h2, h3, h4, h5, h6, h7, h9, h10, if_false]
    rw [e]; simp
/-- The image, line by line. -/
theorem image_take (lines : List Strd.Line) (st : List Int) : ∀ (ls : List Strd.Line) (fs bs : List Int) (k : Nat) (h1 : k < ls.length), fs.length = ls.length → ls.length ≤ bs.length → Strd.image lines st (ls.take (k + 1)) (fs.take (k + 1)) (bs.take (k + 1)) = Strd.image lines st (ls.take k) (fs.take k) (bs.take k) ++ Strd.bytes (Strd.placed lines st ls[k].ins) (fs.getD k 0) (bs.getD k 0)
  | [], _, _, _, h, _, _ => by cases h
  | _ :: _, [], _, _, _, h, _ => by cases h
  | _ :: _, _ :: _, [], _, _, _, h => by simp at h
  | l :: ls, f :: fs, b :: bs, 0, _, _, _ => by simp [Strd.image]
  | l :: ls, f :: fs, b :: bs, k + 1, h, h1, h2 => by
    have ih := image_take lines st ls fs bs k (by simpa using h) (by simpa using h1) (by simpa using h2)
    simp only [List.take_succ_cons, Strd.image, List.getElem_cons_succ, List.getD_cons_succ] at ih ⊢
    rw [ih, List.append_assoc]
theorem image_cut (lines : List Strd.Line) (st : List Int) : ∀ (ls : List Strd.Line) (fs bs : List Int), fs.length = ls.length → Strd.image lines st ls fs (bs.take ls.length) = Strd.image lines st ls fs bs
  | [], _, _, _ => by simp [Strd.image]
  | _ :: _, [], _, h => by cases h
  | _ :: _, _ :: _, [], _ => by simp [Strd.image]
  | l :: ls, f :: fs, b :: bs, h => by
    simp only [List.length_cons, List.take_succ_cons, Strd.image]
    rw [image_cut lines st ls fs bs (by simpa using h)]
end Go.Proofs.YtegiloiojloaoaaGreatDoor

set_option linter.unusedVariables false
set_option linter.unusedSimpArgs false
namespace Go.Proofs.YtegiloiojloaoaaGreatDoor
open Go.RowKit

def missK (r : Strd.Rd) (fs st : List Int) (k : Nat) : Bool := if h : k < r.lines.length then Strd.misses r.lines st r.lines[k] (fs.getD k 0) (st.getD k 0) else false
def overK (r : Strd.Rd) (st : List Int) (k : Nat) : Bool := if h : k < r.lines.length then Strd.overflows r.lines st r.lines[k] else false
theorem firstMiss_cases (lines : List Strd.Line) (st : List Int) : ∀ (n : Nat) (ls : List Strd.Line) (fs bs : List Int), fs.length = ls.length → ls.length ≤ bs.length →
    (Strd.firstMiss lines st n ls fs bs = 0 ∧ ∀ k (h : k < ls.length), Strd.misses lines st ls[k] (fs.getD k 0) (bs.getD k 0) = false) ∨
    ∃ k, ∃ h : k < ls.length, Strd.firstMiss lines st n ls fs bs = n + k + 1 ∧ Strd.misses lines st ls[k] (fs.getD k 0) (bs.getD k 0) = true ∧ ∀ j (hj : j < k), Strd.misses lines st (ls[j]'(by omega)) (fs.getD j 0) (bs.getD j 0) = false
  | n, [], [], _, _, _ => .inl ⟨by simp [Strd.firstMiss], fun k hk => by cases hk⟩
  | _, [], _ :: _, _, h, _ => by cases h
  | _, _ :: _, [], _, h, _ => by cases h
  | _, _ :: _, _ :: _, [], _, h => by simp at h
  | n, l :: ls, f :: fs, a :: bs, h1, h2 => by
    simp only [Strd.firstMiss]
    cases hm : Strd.misses lines st l f a
    · rw [if_neg (by simp)]
      rcases firstMiss_cases lines st (n + 1) ls fs bs (by simpa using h1) (by simpa using h2) with ⟨e, h⟩ | ⟨k, hk, e, h, h'⟩
      · refine .inl ⟨e, fun k hk => ?_⟩
        cases k with
        | zero => simpa using hm
        | succ k => simpa using h k (by simpa using hk)
      · refine .inr ⟨k + 1, by simpa using hk, by omega, by simpa using h, fun j hj => ?_⟩
        cases j with
        | zero => simpa using hm
        | succ j => simpa using h' j (by omega)
    · rw [if_pos rfl]
      exact .inr ⟨0, by simp, by omega, by simpa using hm, fun j hj => by omega⟩
theorem firstMiss_idx (r : Strd.Rd) (fs st : List Int) (h1 : fs.length = r.lines.length) (h2 : r.lines.length ≤ st.length) : firstIdx (missK r fs st) r.lines.length = Strd.firstMiss r.lines st 0 r.lines fs st := by
  rcases firstMiss_cases r.lines st 0 r.lines fs st h1 h2 with ⟨e, h⟩ | ⟨k, hk, e, h, h'⟩
  · rw [e]
    exact firstIdx_none _ _ fun i hi => by unfold missK; rw [dif_pos hi]; exact h i hi
  · rw [e, firstIdx_some (missK r fs st) _ k hk (fun i hi => by unfold missK; rw [dif_pos (by omega)]; exact h' i hi) (by unfold missK; rw [dif_pos hk]; exact h)]
    omega
theorem firstOver_idx (r : Strd.Rd) (st : List Int) : firstIdx (overK r st) r.lines.length = Strd.firstOver r.lines st := by
  unfold Strd.firstOver
  split
  · rename_i k hk
    obtain ⟨h1, h2, h3⟩ := List.findIdx?_eq_some_iff_getElem.1 hk
    exact firstIdx_some _ _ k h1 (fun i hi => by unfold overK; rw [dif_pos (by omega)]; have := h3 i hi; simpa using this) (by unfold overK; rw [dif_pos h1]; exact h2)
  · rename_i hn
    have := List.findIdx?_eq_none_iff.1 hn
    exact firstIdx_none _ _ fun i hi => by unfold overK; rw [dif_pos hi]; exact this _ (List.getElem_mem _)
theorem settle_len (org : Int) (lines : List Strd.Line) : ∀ (n : Nat) (fs : List Int), fs.length = lines.length → (Strd.settle org lines n fs).length = lines.length
  | 0, fs, h => h
  | n + 1, fs, h => by
    unfold Strd.settle
    simp only
    split
    · exact h
    · exact settle_len org lines n _ (longer_len lines _ lines fs _ h (by rw [starts_len _ _ _ h]; omega))
theorem settle_forms (org : Int) (lines : List Strd.Line) (hl : ∀ l ∈ lines, l.ins.op.last ≤ 2) : ∀ (n : Nat) (fs : List Int), (∀ f ∈ fs, 0 ≤ f ∧ f ≤ 2) → ∀ f ∈ Strd.settle org lines n fs, 0 ≤ f ∧ f ≤ 2
  | 0, fs, h => h
  | n + 1, fs, h => by
    unfold Strd.settle
    simp only
    split
    · exact h
    · exact settle_forms org lines hl n _ (longer_bound lines _ lines fs _ hl h)
end Go.Proofs.YtegiloiojloaoaaGreatDoor
