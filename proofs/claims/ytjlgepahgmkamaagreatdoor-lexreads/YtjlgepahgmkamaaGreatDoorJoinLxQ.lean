/- Texts of this claim put together: LxQ. -/
import Derived.Test.YtjlgepahgmkamaaGreatDoorJoinLxH
import Derived.Test.YtjlgepahgmkamaaGreatDoorJoinRdW
/- What stands in the tokens of any text; where an error is. -/
namespace Go.Proofs.YtjlgepahgmkamaaGreatDoor
set_option maxRecDepth 100000
set_option linter.unusedSimpArgs false
set_option linter.unusedVariables false
open Go.RowKit Go.Shelf

/-- What a token has to do with the text. -/
structure OkT (s : ByteArray) (t : LTok) : Prop where
  kind : t.kind ≤ 4
  word : t.kind = 1 ∨ t.kind = 2 → t.at' + t.txt.size ≤ s.size ∧ s.extract t.at' (t.at' + t.txt.size) = t.txt
  text : t.kind = 3 → (bytesN s)[t.at']? = some 34
  re : t.kind = 4 → (bytesN s)[t.at']? = some 47 ∧ ∃ r, t.re = some r
section
variable {s : ByteArray}
theorem tokB_ok {b c : Nat} (hc : (bytesN s)[b]? = some c) {t : LTok} {n : Nat} (h : tokB s b c = .inr (t, n)) : OkT s t := by
  have hb : b < s.size := by have := (List.getElem?_eq_some_iff.1 hc).1; rwa [bN_len] at this
  unfold tokB at h
  split at h
  · rename_i h1
    split at h
    · cases h
    · injection h with h; injection h with h2 h3
      have := lettN_le ((bytesN s).drop b)
      rw [List.length_drop, bN_len] at this
      subst h2
      have hz : (s.extract b (b + lettN ((bytesN s).drop b))).size = lettN ((bytesN s).drop b) := by rw [ByteArray.size_extract]; omega
      exact ⟨by show (1 : Nat) ≤ 4; decide, fun _ => ⟨by show b + (s.extract b (b + lettN ((bytesN s).drop b))).size ≤ _; rw [hz]; omega, by show s.extract b (b + (s.extract b (b + lettN ((bytesN s).drop b))).size) = _; rw [hz]⟩, fun e => (by cases e), fun e => (by cases e)⟩
  split at h
  · injection h with h; injection h with h2 h3; subst h2
    have hz : (s.extract b (b + 1)).size = 1 := by rw [ByteArray.size_extract]; omega
    exact ⟨by show (2 : Nat) ≤ 4; decide, fun _ => ⟨by show b + (s.extract b (b + 1)).size ≤ _; rw [hz]; omega, by show s.extract b (b + (s.extract b (b + 1)).size) = _; rw [hz]⟩, fun e => (by cases e), fun e => (by cases e)⟩
  split at h
  · rename_i h34
    split at h
    · cases h
    · injection h with h; injection h with h2 h3; subst h2
      exact ⟨by show (3 : Nat) ≤ 4; decide, fun e => (by rcases e with e | e <;> cases e), fun _ => by rw [← h34]; exact hc, fun e => (by cases e)⟩
  split at h
  · rename_i h47
    split at h
    · cases h
    split at h
    · injection h with h; injection h with h2 h3; subst h2
      exact ⟨by show (4 : Nat) ≤ 4; decide, fun e => (by rcases e with e | e <;> cases e), fun e => (by cases e), fun _ => ⟨by rw [← h47]; exact hc, _, rfl⟩⟩
    · cases h
  · cases h
theorem tokF_ok {a : Nat} {t : LTok} {n : Nat} (h : tokF s a = .inr (t, n)) : OkT s t := by
  unfold tokF at h
  split at h
  · injection h with h; injection h with h2 h3; subst h2
    exact ⟨Nat.zero_le _, fun e => (by rcases e with e | e <;> cases e), fun e => (by cases e), fun e => (by cases e)⟩
  · rename_i c h1
    exact tokB_ok h1 h
theorem tokF_err {a : Nat} (ha : a ≤ s.size) (hbig : s.size ≤ 65536) {e x : Nat} (h : tokF s a = .inl (e, x)) : (e = 2 ∨ e = 3 ∨ e = 4) ∧ x ≤ s.size := by
  have hs := skN_le ((bytesN s).drop a) false
  rw [List.length_drop, bN_len] at hs
  unfold tokF at h
  split at h
  · cases h
  · rename_i c hc
    generalize a + skN false ((bytesN s).drop a) = b at hc h
    have hb : b < s.size := by have := (List.getElem?_eq_some_iff.1 hc).1; rwa [bN_len] at this
    unfold tokB at h
    split at h
    · split at h
      · injection h with h; injection h with h1 h2; subst h1 h2; exact ⟨by omega, by omega⟩
      · cases h
    split at h
    · cases h
    split at h
    · split at h
      · injection h with h; injection h with h1 h2
        have := txN_le (s.size + 1) ((bytesN s).drop (b + 1))
        rw [List.length_drop, bN_len] at this
        subst h1 h2
        exact ⟨by omega, by omega⟩
      · cases h
    split at h
    · split at h
      · injection h with h; injection h with h1 h2; subst h1 h2; exact ⟨by omega, Nat.le_refl _⟩
      split at h
      · cases h
      · rename_i h3 h4
        injection h with h; injection h with h1 h2
        have hz : (bytesN (s.extract (b + 1) (b + 1 + reN ((bytesN s).drop (b + 1))))).length ≤ reN ((bytesN s).drop (b + 1)) := by rw [bN_len, ByteArray.size_extract]; omega
        have hw := rd_within (l := bytesN (s.extract (b + 1) (b + 1 + reN ((bytesN s).drop (b + 1))))) (by omega) h4
        subst h1 h2
        exact ⟨hw.1, by have := hw.2; omega⟩
    · injection h with h; injection h with h1 h2; subst h1 h2; exact ⟨by omega, by omega⟩
theorem lexF_inl (hbig : s.size ≤ 65536) : ∀ (f a : Nat) {e x : Nat}, a ≤ s.size → s.size < f + a → lexF s f a = .inl (e, x) → (e = 2 ∨ e = 3 ∨ e = 4) ∧ x ≤ s.size
  | 0, a, e, x, ha, hf, _ => by omega
  | f + 1, a, e, x, ha, hf, h => by
    cases hr : tokF s a with
    | inl ex =>
      rw [lexF_err hr] at h
      injection h with h
      rw [h] at hr
      exact tokF_err ha hbig hr
    | inr tn =>
      obtain ⟨t, n⟩ := tn
      obtain ⟨h1, h2, -⟩ := tokF_step ha hr
      by_cases hk : t.kind = 0
      · rw [lexF_end hr hk] at h; cases h
      · rw [lexF_tok hr hk] at h
        cases hg : lexF s f n with
        | inl ex =>
          rw [hg] at h
          have h : Sum.inl ex = (Sum.inl (e, x) : (Nat × Nat) ⊕ List LTok) := h
          injection h with h
          rw [h] at hg
          exact lexF_inl hbig f n h2 (by have := h1 hk; omega) hg
        | inr m => rw [hg] at h; cases h
/-- What is so of all tokens. -/
theorem lexF_inr : ∀ (f a : Nat) {m : List LTok}, a ≤ s.size → lexF s f a = .inr m → 0 < m.length ∧ (∀ t, m[0]? = some t → a ≤ t.at') ∧ ∀ i t, m[i]? = some t → t.at' ≤ s.size ∧ (t.kind = 0 ↔ i + 1 = m.length) ∧ (∀ t', m[i + 1]? = some t' → t.at' < t'.at') ∧ OkT s t
  | 0, a, m, _, h => by cases h
  | f + 1, a, m, ha, h => by
    cases hr : tokF s a with
    | inl ex => rw [lexF_err hr] at h; cases h
    | inr tn =>
      obtain ⟨t, n⟩ := tn
      obtain ⟨h1, h2, h3, h4, h5⟩ := tokF_step ha hr
      have hok := tokF_ok hr
      by_cases hk : t.kind = 0
      · rw [lexF_end hr hk] at h
        injection h with h
        subst h
        refine ⟨by simp, fun t' ht => ?_, fun i t' ht => ?_⟩
        · obtain rfl : t = t' := by simpa using ht
          exact h3
        · have hi : i = 0 := by
            have := (List.getElem?_eq_some_iff.1 ht).1
            simpa using this
          subst hi
          obtain rfl : t = t' := by simpa using ht
          exact ⟨by rw [(h4 hk).1]; exact Nat.le_refl _, by simp [hk], fun t' ht' => by simp at ht', hok⟩
      · rw [lexF_tok hr hk] at h
        cases hg : lexF s f n with
        | inl ex => rw [hg] at h; cases h
        | inr m' =>
          rw [hg] at h
          have h : Sum.inr ([t] ++ m') = (Sum.inr m : (Nat × Nat) ⊕ List LTok) := h
          injection h with h
          subst h
          obtain ⟨g1, g2, g3⟩ := lexF_inr f n h2 hg
          refine ⟨by simp, fun t' ht => ?_, fun i t' ht => ?_⟩
          · obtain rfl : t = t' := by simpa using ht
            exact h3
          · cases i with
            | zero =>
              obtain rfl : t = t' := by simpa using ht
              have hn := h5 hk
              refine ⟨by omega, ⟨fun e => absurd e hk, fun e => absurd e (by rw [List.length_append]; show ¬ (0 + 1 = 1 + m'.length); omega)⟩, fun t' ht' => ?_, hok⟩
              have := g2 t' (by simpa using ht')
              omega
            | succ i =>
              obtain ⟨k1, k2, k3, k4⟩ := g3 i t' (by simpa using ht)
              refine ⟨k1, by rw [k2]; simp, fun t2 ht2 => k3 t2 (by simpa using ht2), k4⟩
end
end Go.Proofs.YtjlgepahgmkamaaGreatDoor
