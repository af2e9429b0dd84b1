/- Reaches: the source with a label ahead of each jump and behind it; where the bytes lead, there the label is. -/
import Derived.Test.YtegiloiojloaoaaGreatDoorCSpec
set_option linter.unusedVariables false
set_option linter.unusedSimpArgs false
namespace Go.Proofs.YtegiloiojloaoaaGreatDoor.Strd

def jn (n : Nat) : Bs := 106 :: dec n
def kn (n : Nat) : Bs := 107 :: dec n
/-- The lines of one line, by the number of jumps ahead. -/
def rTexts1 (n : Nat) (m : ML) : List Bs :=
  (if m.label < 0 then [] else [m.name ++ [58]]) ++
  (if m.word < 0 then [m.rest.body.text] else [jn n ++ 58 :: (jumpTexts.getD m.word.toNat [] ++ 32 :: nameTexts.getD m.to.toNat []), kn n ++ [58]])
def rLines1 (n : Nat) (m : ML) : List Line :=
  (if m.label < 0 then [] else [⟨m.name, emptyIns⟩]) ++
  (if m.word < 0 then [⟨[], m.rest.body.ins⟩] else [⟨jn n, (jumpBody m.word.toNat 0 m.to.toNat).ins⟩, ⟨kn n, emptyIns⟩])
def rNext (n : Nat) (m : ML) : Nat := if m.word < 0 then n else n + 1
def rTexts : Nat → List ML → List Bs
  | _, [] => []
  | n, m :: ms => rTexts1 n m ++ rTexts (rNext n m) ms
def rLines : Nat → List ML → List Line
  | _, [] => []
  | n, m :: ms => rLines1 n m ++ rLines (rNext n m) ms
def linesText (l : List Bs) : Bs := (l.map (· ++ [10])).flatten
def rSrc (ms : List ML) : Bs := linesText (rTexts 0 ms)
def RL (ms : List ML) : List Line := rLines 0 ms ++ [emptyLine]
theorem linesText_app (a b : List Bs) : linesText (a ++ b) = linesText a ++ linesText b := by simp [linesText]
theorem rTexts_app : ∀ (a b : List ML) (n : Nat), rTexts n (a ++ b) = rTexts n a ++ rTexts (n + jumpsIn a) b
  | [], b, n => by simp [rTexts, jumpsIn]
  | m :: a, b, n => by
    have e : rNext n m + jumpsIn a = n + jumpsIn (m :: a) := by
      unfold rNext jumpsIn
      rw [List.countP_cons]
      split
      · rename_i h
        rw [if_neg (by simp; omega)]
        omega
      · rename_i h
        rw [if_pos (by simp; omega)]
        omega
    rw [List.cons_append, rTexts, rTexts, rTexts_app a b, List.append_assoc, e]
theorem rSrc_snoc (ms : List ML) (i : Nat) (h : i < ms.length) : rSrc (ms.take (i + 1)) = rSrc (ms.take i) ++ linesText (rTexts1 (jIdx ms i) ms[i]) := by
  unfold rSrc
  rw [List.take_succ_eq_append_getElem h, rTexts_app, linesText_app]
  simp only [rTexts, List.append_nil, Nat.zero_add]
  rfl
theorem own_names : ∀ n, n < 40 → isName (jn n) = true ∧ isName (kn n) = true ∧ (jn n).all plainSign = true ∧ (kn n).all plainSign = true ∧ labelName (jn n) = some (jn n) ∧ labelName (kn n) = some (kn n) ∧ (jn n).length ≤ 3 ∧ (kn n).length ≤ 3 := by decide +kernel
theorem dec_inj {a b : Nat} (h : dec a = dec b) : a = b := by
  have h1 := dec_val a
  rw [h, dec_val b] at h1
  exact (Option.some.inj h1).symm
theorem names_jk : ∀ t, t < 6 → (nameTexts.getD t []).head? ≠ some 106 ∧ (nameTexts.getD t []).head? ≠ some 107 := by decide
/-- A line's own number stands behind those ahead. -/
structure RMs (n : Nat) (ms : List ML) : Prop where
  ok : ∀ m ∈ ms, MLOk m
  even : ∀ m ∈ ms, RestEven m.rest
  many : n + ms.length ≤ 40
theorem RMs.tail {n : Nat} {m : ML} {ms : List ML} (h : RMs n (m :: ms)) : RMs (rNext n m) ms := ⟨fun x hx => h.ok x (by simp [hx]), fun x hx => h.even x (by simp [hx]), by
  have := h.many
  rw [List.length_cons] at this
  unfold rNext
  split <;> omega⟩
theorem empty_instr : instruction [] = some emptyIns := rfl
theorem label_read (nm : Bs) (h1 : nm.all plainSign = true) (h2 : labelName nm = some nm) : readLine (nm ++ [58]) = some ⟨nm, emptyIns⟩ ∧ ∀ c ∈ nm ++ [58], c ≠ 10 := by
  have hs : ∀ c ∈ nm, c ≠ 58 ∧ c ≠ 59 ∧ c ≠ 10 := fun c hc => (plain_parts (List.all_eq_true.1 h1 c hc)).2.2
  constructor
  · have := readLine_named nm [] [] (fun c hc => ⟨(hs c hc).1, (hs c hc).2.1⟩) (fun c hc => by cases hc) (.inl rfl)
    rw [List.append_nil, empty_instr, h2] at this
    exact this
  · intro c hc
    rcases List.mem_append.1 hc with hc | hc
    · exact (hs c hc).2.2
    · rw [List.mem_singleton] at hc; subst hc; decide
theorem r1_read (n : Nat) (hn : n < 40) (m : ML) (hm : MLOk m) : (rTexts1 n m).map readLine = (rLines1 n m).map some ∧ (∀ t ∈ rTexts1 n m, ∀ c ∈ t, c ≠ 10) ∧ (∀ l ∈ rLines1 n m, Addable l) := by
  obtain ⟨o1, o2, o3, o4, o5, o6, _, _⟩ := own_names n hn
  have hw := hm.word
  have ht := hm.to
  have hA : ∀ nm : Bs, Addable ⟨nm, emptyIns⟩ := fun nm => ⟨rfl, show (0 : Int) ≠ 11 by decide⟩
  have hlab : ((if m.label < 0 then [] else [m.name ++ [58]]) : List Bs).map readLine = ((if m.label < 0 then [] else [⟨m.name, emptyIns⟩]) : List Line).map some ∧ (∀ t ∈ ((if m.label < 0 then [] else [m.name ++ [58]]) : List Bs), ∀ c ∈ t, c ≠ 10) ∧ (∀ l ∈ ((if m.label < 0 then [] else [⟨m.name, emptyIns⟩]) : List Line), Addable l) := by
    split
    · exact ⟨rfl, (fun t h => by cases h), (fun l h => by cases h)⟩
    · rename_i hl
      obtain ⟨_, n2, _, n4⟩ := label_name m hm hl
      have := label_read m.name n2 n4
      refine ⟨by rw [List.map_singleton, this.1]; rfl, fun t h => ?_, fun l h => ?_⟩
      · rw [List.mem_singleton] at h; subst h; exact this.2
      · rw [List.mem_singleton] at h; subst h; exact hA _
  have hbody : ((if m.word < 0 then [m.rest.body.text] else [jn n ++ 58 :: (jumpTexts.getD m.word.toNat [] ++ 32 :: nameTexts.getD m.to.toNat []), kn n ++ [58]]) : List Bs).map readLine = ((if m.word < 0 then [⟨[], m.rest.body.ins⟩] else [⟨jn n, (jumpBody m.word.toNat 0 m.to.toNat).ins⟩, ⟨kn n, emptyIns⟩]) : List Line).map some ∧ (∀ t ∈ ((if m.word < 0 then [m.rest.body.text] else [jn n ++ 58 :: (jumpTexts.getD m.word.toNat [] ++ 32 :: nameTexts.getD m.to.toNat []), kn n ++ [58]]) : List Bs), ∀ c ∈ t, c ≠ 10) ∧ (∀ l ∈ ((if m.word < 0 then [⟨[], m.rest.body.ins⟩] else [⟨jn n, (jumpBody m.word.toNat 0 m.to.toNat).ins⟩, ⟨kn n, emptyIns⟩]) : List Line), Addable l) := by
    split
    · rename_i hl
      have hb := rest_ok _ hm.rest
      have e : m.body 0 = m.rest.body := by unfold ML.body; rw [if_pos hl]
      have h2 := two_xs m 0
      rw [e] at h2
      have hlaid := body_laid m.rest.body h2
      have hi := instr_body _ hb [] _ [] blanks_nil hlaid blanks_nil
      have hs := laid_signs _ hb _ hlaid
      have hr := readLine_bare m.rest.body.text [] (fun c hc => ⟨(hs c hc).1, (hs c hc).2.1⟩) (.inl rfl)
      simp only [List.append_nil, List.nil_append] at hi hr
      rw [hi] at hr
      refine ⟨by rw [List.map_singleton, hr]; rfl, fun t h => ?_, fun l h => ?_⟩
      · rw [List.mem_singleton] at h; subst h; exact fun c hc => (hs c hc).2.2
      · rw [List.mem_singleton] at h; subst h; exact ⟨hb.may, hb.org⟩
    · rename_i hl
      have hb := jump_ok m.word.toNat 0 m.to.toNat (by omega) (by simp [formOk]) (by omega)
      have hx : (jumpBody m.word.toNat 0 m.to.toNat).text = jumpTexts.getD m.word.toNat [] ++ 32 :: nameTexts.getD m.to.toNat [] := by
        unfold jumpBody Body.text
        simp [formTexts]
      have hlaid := body_laid (jumpBody m.word.toNat 0 m.to.toNat) (by simp [jumpBody])
      have hi := instr_body _ hb [] _ [] blanks_nil hlaid blanks_nil
      have hs := laid_signs _ hb _ hlaid
      rw [hx] at hi hs
      have hsn : ∀ c ∈ jn n, c ≠ 58 ∧ c ≠ 59 ∧ c ≠ 10 := fun c hc => (plain_parts (List.all_eq_true.1 o3 c hc)).2.2
      have hr := readLine_named (jn n) (jumpTexts.getD m.word.toNat [] ++ 32 :: nameTexts.getD m.to.toNat []) [] (fun c hc => ⟨(hsn c hc).1, (hsn c hc).2.1⟩) (fun c hc => ⟨(hs c hc).1, (hs c hc).2.1⟩) (.inl rfl)
      simp only [List.append_nil, List.nil_append] at hi hr
      rw [hi, o5] at hr
      have hk := label_read (kn n) o4 o6
      refine ⟨by simp only [List.map_cons, List.map_nil, hr, hk.1]; rfl, fun t h => ?_, fun l h => ?_⟩
      · simp only [List.mem_cons, List.not_mem_nil, or_false] at h
        rcases h with rfl | rfl
        · intro c hc
          rcases List.mem_append.1 hc with hc | hc
          · exact (hsn c hc).2.2
          · rcases List.mem_cons.1 hc with rfl | hc
            · decide
            · exact (hs c hc).2.2
        · exact hk.2
      · simp only [List.mem_cons, List.not_mem_nil, or_false] at h
        rcases h with rfl | rfl
        · exact ⟨hb.may, hb.org⟩
        · exact hA _
  unfold rTexts1 rLines1
  refine ⟨by rw [List.map_append, List.map_append, hlab.1, hbody.1], fun t h => ?_, fun l h => ?_⟩
  · rcases List.mem_append.1 h with h | h
    · exact hlab.2.1 t h
    · exact hbody.2.1 t h
  · rcases List.mem_append.1 h with h | h
    · exact hlab.2.2 l h
    · exact hbody.2.2 l h
theorem r_read : ∀ (ms : List ML) (n : Nat), RMs n ms → (rTexts n ms).map readLine = (rLines n ms).map some ∧ (∀ t ∈ rTexts n ms, ∀ c ∈ t, c ≠ 10) ∧ (∀ l ∈ rLines n ms, Addable l)
  | [], n, _ => ⟨rfl, (fun t h => by cases h), (fun l h => by cases h)⟩
  | m :: ms, n, h => by
    obtain ⟨i1, i2, i3⟩ := r_read ms _ h.tail
    have hmany := h.many
    rw [List.length_cons] at hmany
    obtain ⟨j1, j2, j3⟩ := r1_read n (by omega) m (h.ok m (by simp))
    unfold rTexts rLines
    refine ⟨by rw [List.map_append, List.map_append, i1, j1], fun t ht => ?_, fun l hl => ?_⟩
    · rcases List.mem_append.1 ht with ht | ht
      · exact j2 t ht
      · exact i2 t ht
    · rcases List.mem_append.1 hl with hl | hl
      · exact j3 l hl
      · exact i3 l hl
/-- The labels: of lines told ahead, of jumps from n on. -/
theorem r1_labels (n : Nat) (m : ML) (hm : MLOk m) : ∀ l ∈ rLines1 n m, l.label ≠ [] → (¬ m.label < 0 ∧ l.label = m.name) ∨ (¬ m.word < 0 ∧ (l.label = jn n ∨ l.label = kn n)) := by
  intro l hl h0
  unfold rLines1 at hl
  rcases List.mem_append.1 hl with h | h
  · split at h
    · cases h
    · rename_i hn
      rw [List.mem_singleton] at h; subst h
      exact .inl ⟨hn, rfl⟩
  · split at h
    · rw [List.mem_singleton] at h; subst h
      exact (h0 rfl).elim
    · rename_i hn
      simp only [List.mem_cons, List.not_mem_nil, or_false] at h
      rcases h with rfl | rfl
      · exact .inr ⟨hn, .inl rfl⟩
      · exact .inr ⟨hn, .inr rfl⟩
theorem r_labels : ∀ (ms : List ML) (n : Nat), (∀ m ∈ ms, MLOk m) → ∀ l ∈ rLines n ms, l.label ≠ [] → (∃ m ∈ ms, ¬ m.label < 0 ∧ l.label = m.name) ∨ (∃ k, n ≤ k ∧ (l.label = jn k ∨ l.label = kn k))
  | [], _, _, l, hl, _ => by cases hl
  | m :: ms, n, hok, l, hl, h0 => by
    unfold rLines at hl
    rcases List.mem_append.1 hl with h | h
    · rcases r1_labels n m (hok m (by simp)) l h h0 with h1 | h1
      · exact .inl ⟨m, by simp, h1⟩
      · exact .inr ⟨n, Nat.le_refl _, h1.2⟩
    · rcases r_labels ms _ (fun x hx => hok x (by simp [hx])) l h h0 with ⟨x, hx, h1⟩ | ⟨k, hk, h1⟩
      · exact .inl ⟨x, by simp [hx], h1⟩
      · exact .inr ⟨k, by unfold rNext at hk; split at hk <;> omega, h1⟩
theorem name_jk (m : ML) (hm : MLOk m) (h : ¬ m.label < 0) (k : Nat) : m.name ≠ jn k ∧ m.name ≠ kn k := by
  have := hm.label
  have h1 := names_jk m.label.toNat (by omega)
  unfold ML.name
  rw [if_neg h]
  constructor
  · intro e; rw [e] at h1; exact h1.1 rfl
  · intro e; rw [e] at h1; exact h1.2 rfl
theorem jk_ne (a b : Nat) : jn a ≠ kn b := by
  intro e
  have := (List.cons.inj e).1
  exact absurd this (by decide)
theorem r_fresh : ∀ (ms : List ML) (n : Nat), (∀ m ∈ ms, MLOk m) → (ms.Pairwise fun a b => 0 ≤ a.label → 0 ≤ b.label → a.label < b.label) → Fresh (rLines n ms)
  | [], _, _, _ => List.Pairwise.nil
  | m :: ms, n, hok, hp => by
    have hp' := List.pairwise_cons.1 hp
    have hm := hok m (by simp)
    unfold rLines
    refine List.pairwise_append.2 ⟨?_, r_fresh ms _ (fun x hx => hok x (by simp [hx])) hp'.2, ?_⟩
    · unfold rLines1
      have hnj : ¬ m.label < 0 → m.name ≠ jn n ∧ m.name ≠ kn n := fun h => name_jk m hm h n
      split <;> split
      · exact List.pairwise_singleton _ _
      · refine List.pairwise_cons.2 ⟨fun b hb _ => ?_, List.pairwise_singleton _ _⟩
        rw [List.mem_singleton] at hb; subst hb
        exact jk_ne n n
      · rename_i h1 h2
        refine List.pairwise_cons.2 ⟨fun b hb h0 => ?_, List.pairwise_singleton _ _⟩
        have hb : b ∈ [(⟨[], m.rest.body.ins⟩ : Line)] := hb
        rw [List.mem_singleton] at hb; subst hb
        exact h0
      · rename_i h1 h2
        refine List.pairwise_cons.2 ⟨fun b hb h0 => ?_, List.pairwise_cons.2 ⟨fun b hb _ => ?_, List.pairwise_singleton _ _⟩⟩
        · have hb : b ∈ [(⟨jn n, (jumpBody m.word.toNat 0 m.to.toNat).ins⟩ : Line), ⟨kn n, emptyIns⟩] := hb
          simp only [List.mem_cons, List.not_mem_nil, or_false] at hb
          rcases hb with rfl | rfl
          · exact (hnj h1).1
          · exact (hnj h1).2
        · rw [List.mem_singleton] at hb; subst hb
          exact jk_ne n n
    · intro a ha b hb h0 e
      have hb0 : b.label ≠ [] := by rw [← e]; exact h0
      have ca := r1_labels n m hm a ha h0
      have cb := r_labels ms _ (fun x hx => hok x (by simp [hx])) b hb hb0
      rw [← e] at cb
      rcases ca with ⟨a1, a2⟩ | ⟨a1, a2⟩
      · rw [a2] at cb
        rcases cb with ⟨x, hx, b1, b2⟩ | ⟨k, hk, b2⟩
        · have h3 := hp'.1 x hx
          have hx' := hok x (by simp [hx])
          exact name_lt hm hx' h3 (label_name m hm a1).2.2.1 b2
        · rcases b2 with b2 | b2
          · exact (name_jk m hm a1 k).1 b2
          · exact (name_jk m hm a1 k).2 b2
      · have hnx : rNext n m = n + 1 := by unfold rNext; rw [if_neg a1]
        rw [hnx] at cb
        rcases cb with ⟨x, hx, b1, b2⟩ | ⟨k, hk, b2⟩
        · have hx' := hok x (by simp [hx])
          rcases a2 with a2 | a2
          · exact (name_jk x hx' b1 n).1 (b2.symm.trans a2)
          · exact (name_jk x hx' b1 n).2 (b2.symm.trans a2)
        · rcases a2 with a2 | a2 <;> rcases b2 with b2 | b2 <;> rw [a2] at b2
          · have := dec_inj (List.cons.inj b2).2; omega
          · exact jk_ne _ _ b2
          · exact jk_ne _ _ b2.symm
          · have := dec_inj (List.cons.inj b2).2; omega
theorem r1_len (n : Nat) (m : ML) (hm : MLOk m) (hn : n < 40) : (linesText (rTexts1 n m)).length ≤ 32 ∧ (rLines1 n m).length ≤ 3 := by
  obtain ⟨_, _, _, _, _, _, o7, o8⟩ := own_names n hn
  have hnm : ∀ k, k < 6 → (nameTexts.getD k []).length ≤ 4 := by decide
  have hw : ∀ w, w < 18 → (jumpTexts.getD w []).length ≤ 3 := by decide
  have h1 := hm.label
  have h2 := hm.word
  have h3 := hm.to
  constructor
  · unfold rTexts1
    rw [linesText_app, List.length_append]
    have a : (linesText (if m.label < 0 then [] else [m.name ++ [58]])).length ≤ 6 := by
      split
      · simp [linesText]
      · rename_i h
        have := hnm m.label.toNat (by omega)
        simp [linesText, ML.name, h] at this ⊢
        omega
    have b : (linesText (if m.word < 0 then [m.rest.body.text] else [jn n ++ 58 :: (jumpTexts.getD m.word.toNat [] ++ 32 :: nameTexts.getD m.to.toNat []), kn n ++ [58]])).length ≤ 26 := by
      split
      · rename_i h
        have := text_len ⟨-1, -1, 0, m.rest⟩ ⟨by simp, by simp, by simp, hm.rest⟩ 0
        simp [linesText, ML.text, ML.body] at this ⊢
        omega
      · have := hw m.word.toNat (by omega)
        have := hnm m.to.toNat (by omega)
        simp [linesText] at *
        omega
    omega
  · unfold rLines1
    rw [List.length_append]
    split <;> split <;> simp
theorem r_len : ∀ (ms : List ML) (n : Nat), RMs n ms → (linesText (rTexts n ms)).length ≤ 32 * ms.length ∧ (rLines n ms).length ≤ 3 * ms.length
  | [], _, _ => by simp [rTexts, rLines, linesText]
  | m :: ms, n, h => by
    have hmany := h.many
    rw [List.length_cons] at hmany
    have h1 := r1_len n m (h.ok m (by simp)) (by omega)
    have h2 := r_len ms _ h.tail
    unfold rTexts rLines
    rw [linesText_app, List.length_append, List.length_append, List.length_cons]
    omega
theorem r_mems (ms : List ML) (h : MsEven ms) : RMs 0 ms := ⟨h.ok.ok, h.even, by have := h.ok.len; omega⟩
theorem r_source (ms : List ML) (h : MsEven ms) : ∃ b, readSource (rSrc ms) = (⟨0, RL ms, b⟩, 0, 0) := by
  have hR := r_mems ms h
  obtain ⟨h1, h2, h3⟩ := r_read ms 0 hR
  have hl := (r_len ms 0 hR).1
  have h40 := h.ok.len
  have hf := r_fresh ms 0 h.ok.ok h.ok.fresh
  unfold readSource rSrc
  rw [if_neg (by omega)]
  have hsp := split_lines [] (rTexts 0 ms) h2
  rw [List.append_nil] at hsp
  have hsp' : split 10 (linesText (rTexts 0 ms)) = rTexts 0 ms ++ split 10 [] := hsp
  rw [hsp']
  obtain ⟨b, hb⟩ := addAll_ok (rTexts 0 ms) (rLines 0 ms) ⟨0, [], false⟩ 0 (split 10 []) h1 h3 (by rw [List.nil_append]; exact hf)
  rw [hb]
  have hr : readLine [] = some emptyLine := by rfl
  have ha := add_ok ⟨0, rLines 0 ms, b⟩ [] emptyLine hr ⟨by rfl, by decide⟩ (by simp [hasLabel, emptyLine])
  refine ⟨b || emptyLine.label != [] || decide (emptyLine.ins.op.kind ≠ 0), ?_⟩
  rw [show split 10 ([] : Bs) = [[]] from rfl, addAll]
  simp only [List.nil_append]
  rw [ha]
  simp only [if_true, addAll]
  rfl
theorem RL_fresh (ms : List ML) (h : MsEven ms) : Fresh (RL ms) := by
  unfold RL
  refine List.pairwise_append.2 ⟨r_fresh ms 0 h.ok.ok h.ok.fresh, List.pairwise_singleton _ _, fun a _ b hb h0 => ?_⟩
  rw [List.mem_singleton] at hb; subst hb
  exact h0
theorem labelAt_fresh {ls : List Line} (hf : Fresh ls) (k : Nat) (hk : k < ls.length) (h0 : ls[k].label ≠ []) : labelAt ls ls[k].label = some k := by
  unfold labelAt
  rw [List.findIdx?_eq_some_iff_getElem]
  refine ⟨hk, by simp, fun j hj => ?_⟩
  have := List.pairwise_iff_getElem.1 hf j k (by omega) hk hj
  intro e
  have e' := eq_of_beq e
  exact this (by rw [e']; exact h0) e'
theorem label_mem {ms : List ML} (h : MsEven ms) (t : Nat) (ht : t < 6) : ∃ l ∈ RL ms, l.label = nameTexts.getD t [] := by
  obtain ⟨m, hm, hl⟩ := h.ok.all t ht
  have key : ∀ (ms : List ML) (n : Nat), m ∈ ms → ∃ l ∈ rLines n ms, l.label = nameTexts.getD t [] := by
    intro ms
    induction ms with
    | nil => intro n hm; cases hm
    | cons x xs ih =>
      intro n hm
      rcases List.mem_cons.1 hm with rfl | hm
      · have h0 : ¬ m.label < 0 := by omega
        refine ⟨⟨m.name, emptyIns⟩, ?_, ?_⟩
        · unfold rLines rLines1
          rw [if_neg h0]
          simp
        · simp only [ML.name, h0, if_false]
          rw [hl]; rfl
      · obtain ⟨l, h1, h2⟩ := ih (rNext n x) hm
        exact ⟨l, by unfold rLines; exact List.mem_append_right _ h1, h2⟩
  obtain ⟨l, h1, h2⟩ := key ms 0 hm
  exact ⟨l, by unfold RL; exact List.mem_append_left _ h1, h2⟩
theorem labelAt_some {ls : List Line} {n : Bs} (h : ∃ l ∈ ls, l.label = n) : ∃ j, labelAt ls n = some j := by
  obtain ⟨l, h1, h2⟩ := h
  unfold labelAt
  cases e : ls.findIdx? (fun l => l.label == n) with
  | some j => exact ⟨j, rfl⟩
  | none =>
    have := List.findIdx?_eq_none_iff.1 e l h1
    rw [h2] at this
    simp at this
theorem r_cases : ∀ (ms : List ML) (n : Nat), ∀ l ∈ rLines n ms, l.ins = emptyIns ∨ (∃ m ∈ ms, m.word < 0 ∧ l = ⟨[], m.rest.body.ins⟩) ∨ (∃ m ∈ ms, ¬ m.word < 0 ∧ l.ins = (jumpBody m.word.toNat 0 m.to.toNat).ins)
  | [], _, l, h => by cases h
  | m :: ms, n, l, h => by
    unfold rLines at h
    rcases List.mem_append.1 h with h | h
    · unfold rLines1 at h
      rcases List.mem_append.1 h with h | h
      · split at h
        · cases h
        · rw [List.mem_singleton] at h; subst h; exact .inl rfl
      · split at h
        · rename_i hw
          rw [List.mem_singleton] at h; subst h; exact .inr (.inl ⟨m, by simp, hw, rfl⟩)
        · rename_i hw
          simp only [List.mem_cons, List.not_mem_nil, or_false] at h
          rcases h with rfl | rfl
          · exact .inr (.inr ⟨m, by simp, hw, rfl⟩)
          · exact .inl rfl
    · rcases r_cases ms _ l h with h | ⟨x, hx, h⟩ | ⟨x, hx, h⟩
      · exact .inl h
      · exact .inr (.inl ⟨x, by simp [hx], h⟩)
      · exact .inr (.inr ⟨x, by simp [hx], h⟩)
theorem RL_cases {ms : List ML} {l : Line} (h : l ∈ RL ms) : l.ins = emptyIns ∨ (∃ m ∈ ms, m.word < 0 ∧ l = ⟨[], m.rest.body.ins⟩) ∨ (∃ m ∈ ms, ¬ m.word < 0 ∧ l.ins = ⟨opOf m.word.toNat 0, [⟨nameTexts.getD m.to.toNat [], 0⟩]⟩) := by
  unfold RL at h
  rcases List.mem_append.1 h with h | h
  · exact r_cases ms 0 l h
  · rw [List.mem_singleton] at h; subst h; exact .inl rfl
theorem RL_simp (ms : List ML) (h : MsEven ms) : Simp (RL ms) ∧ (∀ l ∈ RL ms, isJump l.ins.op = true → l.ins.op.last = 2) ∧ (∀ l ∈ RL ms, l.ins.op.kind = 6 → 1 ≤ l.ins.op.first) := by
  have hlen := (r_len ms 0 (r_mems ms h)).2
  have h40 := h.ok.len
  have hop : ∀ m ∈ ms, ¬ m.word < 0 → m.word.toNat < 18 ∧ m.to.toNat < 6 := fun m hm hw => by
    have h1 := (h.ok.ok m hm).word
    have h2 := (h.ok.ok m hm).to
    omega
  refine ⟨⟨by unfold RL; rw [List.length_append, List.length_singleton]; omega, fun l hl hj => ?_, fun l hl hj => ?_, fun l hl => ?_⟩, fun l hl hj => ?_, fun l hl h6 => ?_⟩
  · rcases RL_cases hl with e | ⟨m, hm, hw, rfl⟩ | ⟨m, hm, hw, e⟩
    · rw [e] at hj; cases hj
    · rw [(rest_facts _ (h.ok.ok m hm).rest).1] at hj; cases hj
    · obtain ⟨h1, h2⟩ := hop m hm hw
      obtain ⟨j, hj'⟩ := labelAt_some (label_mem h m.to.toNat h2)
      exact ⟨_, j, by rw [e], (names_ok m.to.toNat h2).2.2.1, hj'⟩
  · rcases RL_cases hl with e | ⟨m, hm, hw, rfl⟩ | ⟨m, hm, hw, e⟩
    · rw [e]
      exact ⟨fun f a => rfl, by decide, by decide, by decide, fun o ho => by cases ho⟩
    · have := rest_facts _ (h.ok.ok m hm).rest
      exact ⟨this.2.1, this.2.2.1, this.2.2.2.1, rest_even _ (h.even m hm), this.2.2.2.2.1⟩
    · obtain ⟨h1, h2⟩ := hop m hm hw
      rw [e] at hj
      have := (op_facts m.word.toNat h1 0 (by omega) (by simp [formOk])).2.2.2.1
      rw [this] at hj; cases hj
  · rcases RL_cases hl with e | ⟨m, hm, hw, rfl⟩ | ⟨m, hm, hw, e⟩
    · rw [e]; decide
    · have := (rest_facts _ (h.ok.ok m hm).rest).2.2.2.2.2
      simp only [this.1, this.2]; decide
    · obtain ⟨h1, h2⟩ := hop m hm hw
      obtain ⟨f1, f2, f3, f4, f5, f6, f7, f8, f9, f10, f11⟩ := op_facts m.word.toNat h1 0 (by omega) (by simp [formOk])
      rw [e]
      simp only
      omega
  · rcases RL_cases hl with e | ⟨m, hm, hw, rfl⟩ | ⟨m, hm, hw, e⟩
    · rw [e] at hj; cases hj
    · rw [(rest_facts _ (h.ok.ok m hm).rest).1] at hj; cases hj
    · obtain ⟨h1, h2⟩ := hop m hm hw
      obtain ⟨f1, f2, f3, f4, f5, f6, f7, f8, f9, f10, f11⟩ := op_facts m.word.toNat h1 0 (by omega) (by simp [formOk])
      rw [e]; exact f8
  · rcases RL_cases hl with e | ⟨m, hm, hw, rfl⟩ | ⟨m, hm, hw, e⟩
    · rw [e] at h6; cases h6
    · have := (rest_facts _ (h.ok.ok m hm).rest).1
      simp [isJump] at this
      exact (this.2 h6).elim
    · obtain ⟨h1, h2⟩ := hop m hm hw
      obtain ⟨f1, f2, f3, f4, f5, f6, f7, f8, f9, f10, f11⟩ := op_facts m.word.toNat h1 0 (by omega) (by simp [formOk])
      rw [e] at h6 ⊢; exact f5 h6
def RF (ms : List ML) : List Int := layForms 0 (RL ms)
theorem RF_valid {ms : List ML} (h : MsEven ms) : Valid (RL ms) (RF ms) := fun k hm =>
  settled_valid (RL_simp ms h).1 (lay_settled (RL_simp ms h).1) k (fun hk hj => (RL_simp ms h).2.1 _ (List.getElem_mem _) hj) hm
theorem r_lay {ms : List ML} (h : MsEven ms) : lay 0 (RL ms) = ((RF ms, starts 0 (RL ms) (RF ms)), 0, 0) := by
  rcases lay_simp (RL_simp ms h).1 with ⟨_, e⟩ | ⟨hn, _⟩
  · exact e
  · exact (hn (RF_valid h)).elim
theorem r_asm {ms : List ML} (h : MsEven ms) : assemble (rSrc ms) = ((0, imgOf (RL ms) (RF ms)), 0, 0) := by
  obtain ⟨b, e⟩ := r_source ms h
  unfold assemble
  rw [e]
  simp only [ne_eq, not_true_eq_false, if_false, r_lay h]
  rfl
theorem RF_far {ms : List ML} (h : MsEven ms) : FarOk (RL ms) (RF ms) := fun k hk h6 => by
  have := (RL_simp ms h).2.2 _ (List.getElem_mem hk) h6
  have := lay_ge (RL_simp ms h).1 k hk
  unfold RF
  omega
/-- Where a line's bytes lie. -/
theorem image_at {lines : List Line} (hS : Simp lines) (st : List Int) : ∀ (ls : List Line) (fs : List Int) (a : Int) (k : Nat) (hk : k < ls.length), fs.length = ls.length → (∀ l ∈ ls, l ∈ lines) → (∀ k (hk : k < ls.length), 0 ≤ fs.getD k 0 ∧ fs.getD k 0 ≤ 2 ∧ (ls[k].ins.op.kind = 6 → fs.getD k 0 ≠ 0)) → ∃ A B, image lines st ls fs (starts a ls fs) = A ++ (bytes (placed lines st ls[k].ins) (fs.getD k 0) ((starts a ls fs).getD k 0) ++ B) ∧ (A.length : Int) = (starts a ls fs).getD k 0 - a
  | [], _, _, _, hk, _, _, _ => by cases hk
  | _ :: _, [], _, _, _, h, _, _ => by cases h
  | l :: ls, f :: fs, a, 0, _, _, _, _ => ⟨[], image lines st ls fs (starts (a + size l.ins f a) ls fs), by simp [starts, image], by simp [starts]⟩
  | l :: ls, f :: fs, a, k + 1, hk, h, hm, hf => by
    have h0 := hf 0 (by simp)
    simp only [List.getD_cons_zero, List.getElem_cons_zero] at h0
    have hb := bytes_len (placed lines st l.ins) f a ⟨h0.1, h0.2.1⟩ (by exact h0.2.2)
    rw [placed_size hS st l (hm l (by simp))] at hb
    have hz := sz_facts hS l (hm l (by simp)) f a h0.1 h0.2.1
    obtain ⟨A, B, h1, h2⟩ := image_at hS st ls fs (a + size l.ins f a) k (by simpa using hk) (by simpa using h) (fun x hx => hm x (by simp [hx])) (fun k hk => by
      have := hf (k + 1) (by simpa using hk)
      simpa using this)
    refine ⟨bytes (placed lines st l.ins) f a ++ A, B, ?_, ?_⟩
    · simp only [starts, image, List.getElem_cons_succ, List.getD_cons_succ]
      rw [h1, List.append_assoc]
    · simp only [starts, List.getD_cons_succ, List.length_append]
      rw [Int.natCast_add, h2, hb]
      omega
def wAt (b : Bs) (k : Nat) : Int := 256 * ((b.getD k 0).toNat : Int) + ((b.getD (k + 1) 0).toNat : Int)
/-- Where a jump of so many bytes leads to that stands at a place. -/
def leads (b : Bs) (a n : Int) : Int :=
  if a < 0 ∨ n < 2 ∨ (b.length : Int) < a + n then -1
  else
    let w := wAt b a.toNat
    let d := if 4 ≤ n then wAt b (a.toNat + 2) else w % 256
    if n = 2 ∧ w / 4096 = 6 ∧ 127 < d then a + 2 + d - 256
    else if n = 2 ∧ w / 4096 = 6 ∧ 0 < d then a + 2 + d
    else if n = 4 ∧ (w = 0x4ef8 ∨ w = 0x4eb8) then d
    else if n = 4 ∧ w / 4096 = 6 ∧ w % 256 = 0 ∧ 32767 < d then a + 2 + d - 65536
    else if n = 4 ∧ w / 4096 = 6 ∧ w % 256 = 0 then a + 2 + d
    else if n = 6 ∧ (w = 0x4ef9 ∨ w = 0x4eb9) then 65536 * d + wAt b (a.toNat + 4)
    else if n = 8 ∧ w / 4096 = 6 ∧ w % 256 = 6 ∧ d = 0x4ef9 then 65536 * wAt b (a.toNat + 4) + wAt b (a.toNat + 6)
    else -1
theorem byte_val (n : Int) : ((n % 256).toNat.toUInt8.toNat : Int) = n % 256 := by
  have h1 : 0 ≤ n % 256 := Int.emod_nonneg _ (by decide)
  have h2 : n % 256 < 256 := Int.emod_lt_of_pos _ (by decide)
  have : (n % 256).toNat.toUInt8.toNat = (n % 256).toNat % 256 := rfl
  rw [this, Nat.mod_eq_of_lt (by omega)]
  omega
theorem wAt_word (n : Int) (Y : Bs) : wAt (wordBs n ++ Y) 0 = n % 65536 := by
  show 256 * (((n / 256) % 256).toNat.toUInt8.toNat : Int) + ((n % 256).toNat.toUInt8.toNat : Int) = _
  rw [byte_val, byte_val]
  omega
theorem wAt_skip (n : Int) (Y : Bs) (k : Nat) : wAt (wordBs n ++ Y) (k + 2) = wAt Y k := rfl
theorem wAt_drop (A X : Bs) (k : Nat) : wAt (A ++ X) (A.length + k) = wAt X k := by
  unfold wAt
  simp only [List.getD_eq_getElem?_getD]
  rw [Nat.add_assoc, List.getElem?_append_right (by omega), List.getElem?_append_right (by omega)]
  simp
theorem op_bases : ∀ w, w < 18 → ((opOf w 0).kind = 5 ∧ (opOf w 0).base = 0x6000 + 0x100 * (opOf w 0).number ∧ 0 ≤ (opOf w 0).number ∧ (opOf w 0).number ≤ 15) ∨ ((opOf w 0).kind = 6 ∧ ((opOf w 0).base = 0x4ef8 ∨ (opOf w 0).base = 0x4eb8)) := by decide +kernel
theorem opp_rng (n : Int) (h0 : 0 ≤ n) (h : n ≤ 15) : 0 ≤ opp n ∧ opp n ≤ 15 := by unfold opp; split <;> omega
set_option maxHeartbeats 2000000 in
/-- The bytes of a jump that fits lead to its place. -/
theorem leads_at (A B : Bs) (o : Op) (f a t : Int) (ho : (o.kind = 5 ∧ o.base = 0x6000 + 0x100 * o.number ∧ 0 ≤ o.number ∧ o.number ≤ 15) ∨ (o.kind = 6 ∧ (o.base = 0x4ef8 ∨ o.base = 0x4eb8))) (h0 : 0 ≤ f ∧ f ≤ 2) (hf6 : o.kind = 6 → f ≠ 0) (hfit : fits o f a t = true) (hA : (A.length : Int) = a) :
    leads (A ++ (bytes ⟨o, [⟨[], t⟩]⟩ f a ++ B)) a (jumpSize o f) = t := by
  have hp : 0 ≤ t ∧ t ≤ 16777214 ∧ t % 2 = 0 := by
    have : isPlace t = true := by
      unfold fits at hfit
      cases e : isPlace t
      · simp [e] at hfit
      · rfl
    simp [isPlace, within, isOdd] at this
    omega
  have hn : num ⟨o, [⟨[], t⟩]⟩ 0 = t := rfl
  have hlen := bytes_len ⟨o, [⟨[], t⟩]⟩ f a h0 hf6
  have hsz : size ⟨o, [⟨[], t⟩]⟩ f a = jumpSize o f := size_jump _ (by rcases ho with ⟨h, _⟩ | ⟨h, _⟩ <;> simp [isJump, h]) f a
  have hjs := jump_size o f h0.1 h0.2
  rw [hsz] at hlen
  have hnat : a.toNat = A.length := by omega
  have hw0 := wAt_drop A (bytes ⟨o, [⟨[], t⟩]⟩ f a ++ B) 0
  have hw2 := wAt_drop A (bytes ⟨o, [⟨[], t⟩]⟩ f a ++ B) 2
  have hw4 := wAt_drop A (bytes ⟨o, [⟨[], t⟩]⟩ f a ++ B) 4
  have hw6 := wAt_drop A (bytes ⟨o, [⟨[], t⟩]⟩ f a ++ B) 6
  rw [Nat.add_zero] at hw0
  unfold leads
  rw [if_neg (by rw [List.length_append, List.length_append, hlen]; omega), hnat]
  simp only [hw0, hw2, hw4, hw6]
  have hfit' := hfit
  unfold fits at hfit'
  split at hfit'
  · cases hfit'
  have hff : f = 0 ∨ f = 1 ∨ f = 2 := by omega
  rcases ho with ⟨hk, hb, hn0, hn15⟩ | ⟨hk, hb⟩
  · have e1 : bytes ⟨o, [⟨[], t⟩]⟩ f a = jumpBytes ⟨o, [⟨[], t⟩]⟩ f a := by simp [bytes, hk]
    rw [e1]
    rcases hff with rfl | rfl | rfl
    · have hj : jumpSize o 0 = 2 := rfl
      have hbts : jumpBytes ⟨o, [⟨[], t⟩]⟩ 0 a ++ B = wordBs (o.base + (t - a - 2) % 256) ++ B := rfl
      rw [hj, hbts, wAt_word]
      simp [hk, within] at hfit'
      simp only [show ¬ ((4 : Int) ≤ 2) by decide, if_false, true_and]
      split
      · omega
      · split
        · omega
        · omega
    · have hj : jumpSize o 1 = 4 := rfl
      have hbts : jumpBytes ⟨o, [⟨[], t⟩]⟩ 1 a ++ B = wordBs o.base ++ (wordBs (t - a - 2) ++ B) := by rw [← List.append_assoc]; rfl
      rw [hj, hbts, wAt_word, wAt_skip, wAt_word]
      simp [hk, within] at hfit'
      simp only [show ¬ ((4 : Int) = 2) by decide, show (4 : Int) ≤ 4 by decide, if_true, if_false, false_and, true_and]
      rw [if_neg (by omega)]
      split
      · omega
      · rw [if_pos (by omega)]; omega
    · by_cases hc : isCond o = true
      · have h1 : o.number ≠ 1 := by
          intro e
          simp [isCond, e] at hc
        have hj : jumpSize o 2 = 8 := by simp [jumpSize, hc]
        have hop := opp_rng o.number hn0 hn15
        have hbts : jumpBytes ⟨o, [⟨[], t⟩]⟩ 2 a ++ B = wordBs (0x6000 + 0x100 * opp o.number + 6) ++ (wordBs (0x4ef8 + 1) ++ (wordBs (t / 65536) ++ (wordBs t ++ B))) := by
          simp [jumpBytes, h1, hc, longJump, num]
        rw [hj, hbts, wAt_word, wAt_skip, wAt_word, show (4 : Nat) = 2 + 2 from rfl, wAt_skip, wAt_skip, wAt_word, show (6 : Nat) = 4 + 2 from rfl, wAt_skip, show (4 : Nat) = 2 + 2 from rfl, wAt_skip, wAt_skip, wAt_word]
        simp only [show ¬ ((8 : Int) = 2) by decide, show ¬ ((8 : Int) = 4) by decide, show ¬ ((8 : Int) = 6) by decide, show (4 : Int) ≤ 8 by decide, if_true, if_false, false_and, true_and]
        rw [if_pos (by omega)]
        omega
      · have hc' : isCond o = false := by simpa using hc
        have hj : jumpSize o 2 = 6 := by simp [jumpSize, hc']
        have hbts : ∃ b, (b = 0x4ef8 ∨ b = 0x4eb8) ∧ jumpBytes ⟨o, [⟨[], t⟩]⟩ 2 a ++ B = wordBs (b + 1) ++ (wordBs (t / 65536) ++ (wordBs t ++ B)) := by
          by_cases h1 : o.number = 1
          · exact ⟨0x4eb8, .inr rfl, by simp [jumpBytes, h1, longJump, num]⟩
          · exact ⟨0x4ef8, .inl rfl, by simp [jumpBytes, h1, hc', longJump, num]⟩
        obtain ⟨b, hb', hbts⟩ := hbts
        rw [hj, hbts, wAt_word, wAt_skip, wAt_word, show (4 : Nat) = 2 + 2 from rfl, wAt_skip, wAt_skip, wAt_word]
        simp only [show ¬ ((6 : Int) = 2) by decide, show ¬ ((6 : Int) = 4) by decide, show (4 : Int) ≤ 6 by decide, if_true, if_false, false_and, true_and]
        rw [if_pos (by omega)]
        omega
  · have e1 : bytes ⟨o, [⟨[], t⟩]⟩ f a = farBytes ⟨o, [⟨[], t⟩]⟩ f := by simp [bytes, hk]
    rw [e1]
    have hc' : isCond o = false := by simp [isCond, hk]
    rcases hff with rfl | rfl | rfl
    · exact (hf6 hk rfl).elim
    · have hj : jumpSize o 1 = 4 := rfl
      have hbts : farBytes ⟨o, [⟨[], t⟩]⟩ 1 ++ B = wordBs o.base ++ (wordBs t ++ B) := by rw [← List.append_assoc]; rfl
      rw [hj, hbts, wAt_word, wAt_skip, wAt_word]
      simp [hk] at hfit'
      simp only [show ¬ ((4 : Int) = 2) by decide, show (4 : Int) ≤ 4 by decide, if_true, if_false, false_and, true_and]
      rw [if_pos (by omega)]
      omega
    · have hj : jumpSize o 2 = 6 := by simp [jumpSize, hc']
      have hbts : farBytes ⟨o, [⟨[], t⟩]⟩ 2 ++ B = wordBs (o.base + 1) ++ (wordBs (t / 65536) ++ (wordBs t ++ B)) := by
        simp [farBytes, longJump, num]
      rw [hj, hbts, wAt_word, wAt_skip, wAt_word, show (4 : Nat) = 2 + 2 from rfl, wAt_skip, wAt_skip, wAt_word]
      simp only [show ¬ ((6 : Int) = 2) by decide, show ¬ ((6 : Int) = 4) by decide, show (4 : Int) ≤ 6 by decide, if_true, if_false, false_and, true_and]
      rw [if_pos (by omega)]
      omega
/-- The place of a label. -/
def rPlace (ms : List ML) (n : Bs) : Int := placeOf (RL ms) (starts 0 (RL ms) (RF ms)) n
theorem r_split : ∀ (ms : List ML) (n i : Nat) (hi : i < ms.length), 0 ≤ ms[i].word → ∃ A B, rLines n ms = A ++ (⟨jn (n + jIdx ms i), (jumpBody ms[i].word.toNat 0 ms[i].to.toNat).ins⟩ : Line) :: (⟨kn (n + jIdx ms i), emptyIns⟩ : Line) :: B
  | [], _, _, hi, _ => by cases hi
  | m :: ms, n, 0, _, hw => by
    have hw' : ¬ m.word < 0 := by simp only [List.getElem_cons_zero] at hw; omega
    refine ⟨if m.label < 0 then [] else [⟨m.name, emptyIns⟩], rLines (rNext n m) ms, ?_⟩
    simp only [List.getElem_cons_zero, jIdx, List.take_zero, List.countP_nil, Nat.add_zero]
    rw [rLines]
    unfold rLines1
    rw [if_neg hw', List.append_assoc]
    rfl
  | m :: ms, n, i + 1, hi, hw => by
    obtain ⟨A, B, h⟩ := r_split ms (rNext n m) i (by simpa using hi) (by simpa using hw)
    refine ⟨rLines1 n m ++ A, B, ?_⟩
    have e : rNext n m + jIdx ms i = n + jIdx (m :: ms) (i + 1) := by
      unfold rNext jIdx
      rw [List.take_succ_cons, List.countP_cons]
      split
      · rename_i h
        rw [if_neg (by simp; omega)]
        omega
      · rename_i h
        rw [if_pos (by simp; omega)]
        omega
    rw [e] at h
    rw [rLines, h, List.append_assoc]
    rfl
/-- Each jump leads to its label. -/
theorem reaches {ms : List ML} (h : MsEven ms) (i : Nat) (hi : i < ms.length) (hw : 0 ≤ ms[i].word) :
    leads (imgOf (RL ms) (RF ms)) (rPlace ms (jn (jIdx ms i))) (rPlace ms (kn (jIdx ms i)) - rPlace ms (jn (jIdx ms i))) = rPlace ms (nameTexts.getD ms[i].to.toNat []) ∧ (∃ l ∈ RL ms, l.label = jn (jIdx ms i)) ∧ (∃ l ∈ RL ms, l.label = kn (jIdx ms i)) := by
  obtain ⟨hS, hS2, hS3⟩ := RL_simp ms h
  have hFr := RL_fresh ms h
  have hs := lay_settled hS
  obtain ⟨A, B, hAB⟩ := r_split ms 0 i hi hw
  rw [Nat.zero_add] at hAB
  have hRL : RL ms = A ++ (⟨jn (jIdx ms i), (jumpBody ms[i].word.toNat 0 ms[i].to.toNat).ins⟩ : Line) :: (⟨kn (jIdx ms i), emptyIns⟩ : Line) :: (B ++ [emptyLine]) := by
    unfold RL; rw [hAB]; simp
  have hwl := (h.ok.ok _ (List.getElem_mem hi)).word
  have htl := (h.ok.ok _ (List.getElem_mem hi)).to
  have hk : A.length < (RL ms).length := by rw [hRL]; simp
  have hk1 : A.length + 1 < (RL ms).length := by rw [hRL]; simp
  have g0 : (RL ms)[A.length] = ⟨jn (jIdx ms i), (jumpBody ms[i].word.toNat 0 ms[i].to.toNat).ins⟩ := by simp [hRL]
  have g1 : (RL ms)[A.length + 1] = ⟨kn (jIdx ms i), emptyIns⟩ := by
    have : (RL ms)[A.length + 1]? = some ⟨kn (jIdx ms i), emptyIns⟩ := by
      rw [hRL, List.getElem?_append_right (by omega)]
      simp
    rw [List.getElem?_eq_getElem hk1] at this
    exact Option.some.inj this
  have l0 : labelAt (RL ms) (jn (jIdx ms i)) = some A.length := by
    have := labelAt_fresh hFr A.length hk (by rw [g0]; simp [jn])
    rw [g0] at this
    exact this
  have l1 : labelAt (RL ms) (kn (jIdx ms i)) = some (A.length + 1) := by
    have := labelAt_fresh hFr (A.length + 1) hk1 (by rw [g1]; simp [kn])
    rw [g1] at this
    exact this
  have p0 : rPlace ms (jn (jIdx ms i)) = P (RL ms) (RF ms) A.length := by
    unfold rPlace placeOf; rw [l0]; rfl
  have p1 : rPlace ms (kn (jIdx ms i)) = P (RL ms) (RF ms) (A.length + 1) := by
    unfold rPlace placeOf; rw [l1]; rfl
  have hFl : (RF ms).length = (RL ms).length := hs.len
  have hFr2 : Rng (RF ms) := hs.rng
  have hstep := P_step A.length hk hFl
  have hjmp : isJump (RL ms)[A.length].ins.op = true := by
    rw [g0]
    exact (op_facts ms[i].word.toNat (by omega) 0 (by omega) (by simp [formOk])).2.2.2.1
  rw [size_jump _ hjmp] at hstep
  have hmiss : ¬ Miss (RL ms) (RF ms) A.length := RF_valid h A.length
  have hmiss' : misses (RL ms) (starts 0 (RL ms) (RF ms)) (RL ms)[A.length] ((RF ms).getD A.length 0) (P (RL ms) (RF ms) A.length) = false := by
    cases e : misses (RL ms) (starts 0 (RL ms) (RF ms)) (RL ms)[A.length] ((RF ms).getD A.length 0) (P (RL ms) (RF ms) A.length)
    · rfl
    · exact (hmiss ⟨hk, e⟩).elim
  have hins : (RL ms)[A.length].ins = ⟨opOf ms[i].word.toNat 0, [⟨nameTexts.getD ms[i].to.toNat [], 0⟩]⟩ := by rw [g0]; rfl
  have hnum : numberOf (RL ms) (starts 0 (RL ms) (RF ms)) ⟨nameTexts.getD ms[i].to.toNat [], 0⟩ = rPlace ms (nameTexts.getD ms[i].to.toNat []) := by
    unfold numberOf
    rw [if_neg (names_ok ms[i].to.toNat (by omega)).2.2.1]
    rfl
  have hfit : fits (opOf ms[i].word.toNat 0) ((RF ms).getD A.length 0) (P (RL ms) (RF ms) A.length) (rPlace ms (nameTexts.getD ms[i].to.toNat [])) = true := by
    unfold misses at hmiss'
    rw [hjmp, hins] at hmiss'
    simp only [List.headD_cons, hnum, Bool.true_and] at hmiss'
    simpa using hmiss'
  have hfar := RF_far h A.length hk
  rw [hins] at hfar hstep
  obtain ⟨X, Y, e1, e2⟩ := image_at hS (starts 0 (RL ms) (RF ms)) (RL ms) (RF ms) 0 A.length hk hFl (fun _ h => h) (fun k hk => ⟨(hFr2 k).1, (hFr2 k).2, fun h6 => by have := RF_far h k hk h6; omega⟩)
  have hpl : placed (RL ms) (starts 0 (RL ms) (RF ms)) (RL ms)[A.length].ins = ⟨opOf ms[i].word.toNat 0, [⟨[], rPlace ms (nameTexts.getD ms[i].to.toNat [])⟩]⟩ := by
    rw [hins]
    unfold placed
    simp only [List.map_cons, List.map_nil, hnum]
  rw [hpl] at e1
  refine ⟨?_, ⟨_, List.getElem_mem hk, by rw [g0]⟩, ⟨_, List.getElem_mem hk1, by rw [g1]⟩⟩
  rw [p0, p1, hstep, show P (RL ms) (RF ms) A.length + jumpSize (opOf ms[i].word.toNat 0) ((RF ms).getD A.length 0) - P (RL ms) (RF ms) A.length = jumpSize (opOf ms[i].word.toNat 0) ((RF ms).getD A.length 0) by omega]
  unfold imgOf
  rw [e1]
  exact leads_at X Y _ _ _ _ (op_bases _ (by omega)) (hFr2 A.length) (fun h6 => by have := hfar h6; omega) hfit (by rw [e2]; exact Int.sub_zero _)
end Go.Proofs.YtegiloiojloaoaaGreatDoor.Strd
