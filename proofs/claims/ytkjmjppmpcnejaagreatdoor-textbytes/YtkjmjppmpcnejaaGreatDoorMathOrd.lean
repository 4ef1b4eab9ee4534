/- Lists of expressions in the order of their keys, each once. -/
import Derived.Test.YtkjmjppmpcnejaaGreatDoorReH
namespace Go.Proofs.YtkjmjppmpcnejaaGreatDoor
set_option maxRecDepth 100000
set_option linter.unusedSimpArgs false
set_option linter.unusedVariables false
open Go.RowKit

def ltK (a b : RE) : Prop := lexN a.key b.key < 0
theorem ltK_trans {a b c : RE} (h1 : ltK a b) (h2 : ltK b c) : ltK a c := by
  unfold ltK at *
  have h := lexN_trans a.key b.key c.key (by omega) (by omega)
  rcases Int.lt_or_eq_of_le h.1 with h3 | h3
  · exact h3
  · have := (h.2 h3).1; omega
theorem ltK_irrefl {a : RE} (h : ltK a a) : False := by unfold ltK at h; rw [lexN_self] at h; omega
theorem ltK_asymm {a b : RE} (h1 : ltK a b) (h2 : ltK b a) : False := ltK_irrefl (ltK_trans h1 h2)
/-- Two lists that go up and have the same members are one. -/
theorem up_unique : ∀ (a b : List RE), a.Pairwise ltK → b.Pairwise ltK → (∀ r, r ∈ a ↔ r ∈ b) → a = b
  | [], [], _, _, _ => rfl
  | [], y :: b, _, _, h => by have := (h y).2 (by simp); simp at this
  | x :: a, [], _, _, h => by have := (h x).1 (by simp); simp at this
  | x :: a, y :: b, ha, hb, h => by
    have ha' := List.pairwise_cons.1 ha
    have hb' := List.pairwise_cons.1 hb
    have e : x = y := by
      rcases List.mem_cons.1 ((h x).1 (by simp)) with e | hx
      · exact e
      · rcases List.mem_cons.1 ((h y).2 (by simp)) with e | hy
        · exact e.symm
        · exact (ltK_asymm (hb'.1 x hx) (ha'.1 y hy)).elim
    subst e
    have := up_unique a b ha'.2 hb'.2 fun r => by
      constructor
      · intro hr
        rcases List.mem_cons.1 ((h r).1 (by simp [hr])) with e | hx
        · subst e; exact (ltK_irrefl (ha'.1 r hr)).elim
        · exact hx
      · intro hr
        rcases List.mem_cons.1 ((h r).2 (by simp [hr])) with e | hx
        · subst e; exact (ltK_irrefl (hb'.1 r hr)).elim
        · exact hx
    rw [this]
/-- One more, in its place. -/
def insK (x : RE) : List RE → List RE
  | [] => [x]
  | y :: r => if lexN x.key y.key < 0 then x :: y :: r else if lexN x.key y.key = 0 then y :: r else y :: insK x r
def ordL (l : List RE) : List RE := l.foldr insK []
theorem mem_insK {x : RE} (hx : WfK x) : ∀ (l : List RE), (∀ y ∈ l, WfK y) → ∀ r, r ∈ insK x l ↔ r = x ∨ r ∈ l
  | [], _, r => by simp [insK]
  | y :: l, hl, r => by
    have ih := mem_insK hx l (fun y hy => hl y (by simp [hy])) r
    simp only [insK]
    split
    · simp
    · split
      · rename_i h1 h2
        have e := key_inj hx (hl y (by simp)) (lexN_zero _ _ h2)
        subst e
        simp
      · simp only [List.mem_cons, ih]
        constructor
        · rintro (h | h | h) <;> simp [h]
        · rintro (h | h | h) <;> simp [h]
theorem up_insK {x : RE} (hx : WfK x) : ∀ (l : List RE), (∀ y ∈ l, WfK y) → l.Pairwise ltK → (insK x l).Pairwise ltK
  | [], _, _ => by simp [insK]
  | y :: l, hl, h => by
    have h' := List.pairwise_cons.1 h
    simp only [insK]
    split
    · rename_i h1
      refine List.pairwise_cons.2 ⟨fun z hz => ?_, h⟩
      rcases List.mem_cons.1 hz with rfl | hz
      · exact h1
      · exact ltK_trans h1 (h'.1 z hz)
    · split
      · exact h
      · rename_i h1 h2
        refine List.pairwise_cons.2 ⟨fun z hz => ?_, up_insK hx l (fun y hy => hl y (by simp [hy])) h'.2⟩
        rcases (mem_insK hx l (fun y hy => hl y (by simp [hy])) z).1 hz with rfl | hz
        · have := lexN_swap z.key y.key
          unfold ltK; omega
        · exact h'.1 z hz
theorem ordL_spec : ∀ (l : List RE), (∀ y ∈ l, WfK y) → (ordL l).Pairwise ltK ∧ ∀ r, r ∈ ordL l ↔ r ∈ l
  | [], _ => by simp [ordL]
  | x :: l, hl => by
    have ih := ordL_spec l (fun y hy => hl y (by simp [hy]))
    have hx := hl x (by simp)
    have hw : ∀ y ∈ ordL l, WfK y := fun y hy => hl y (by simp [(ih.2 y).1 hy])
    refine ⟨up_insK hx _ hw ih.1, fun r => ?_⟩
    rw [show ordL (x :: l) = insK x (ordL l) from rfl, mem_insK hx _ hw r, ih.2 r]
    simp
theorem ordL_eq {a l : List RE} (hl : ∀ y ∈ l, WfK y) (ha : a.Pairwise ltK) (h : ∀ r, r ∈ a ↔ r ∈ l) : a = ordL l :=
  up_unique _ _ ha (ordL_spec l hl).1 fun r => (h r).trans ((ordL_spec l hl).2 r).symm

/-- What SortFunc and CompactFunc leave. -/
theorem cpt_up (ps : List (Nat × RE)) (hs : ps.Pairwise fun x y => lexN x.2.key y.2.key ≤ 0) : ∀ k, 0 < k → k ≤ ps.length →
    ((cpt ps k).Pairwise fun x y => lexN x.2.key y.2.key < 0) ∧ (∀ p ∈ cpt ps k, lexN p.2.key (ps.getD (k - 1) pD).2.key ≤ 0) ∧ (∀ j, j < k → ∃ p ∈ cpt ps k, lexN p.2.key (ps.getD j pD).2.key = 0)
  | 0, h, _ => by omega
  | k + 1, _, hk => by
    by_cases h0 : k = 0
    · subst h0
      simp only [cpt, List.nil_append, true_or, if_true]
      refine ⟨by simp, fun p hp => ?_, fun j hj => ⟨ps.getD 0 pD, by simp, ?_⟩⟩
      · simp at hp; subst hp; simp [List.getD_eq_getElem?_getD]; rw [lexN_self]; omega
      · obtain rfl : j = 0 := by omega
        exact lexN_self _
    · obtain ⟨i1, i2, i3⟩ := cpt_up ps hs k (by omega) (by omega)
      have hstep : lexN (ps.getD (k - 1) pD).2.key (ps.getD k pD).2.key ≤ 0 := by
        have := List.pairwise_iff_getElem.1 hs (k - 1) k (by omega) (by omega) (by omega)
        simpa [List.getD_eq_getElem?_getD, show k - 1 < ps.length by omega, show k < ps.length by omega] using this
      simp only [Nat.add_sub_cancel]
      cases hkeep : keepAt ps k with
      | false =>
        have hz : lexN (ps.getD k pD).2.key (ps.getD (k - 1) pD).2.key = 0 := by simpa [keepAt] using hkeep
        have hkeq := lexN_zero _ _ hz
        simp only [cpt, hkeep, h0]
        simp only [Bool.false_eq_true, or_self, if_false, List.append_nil]
        refine ⟨i1, fun p hp => by rw [hkeq]; exact i2 p hp, fun j hj => ?_⟩
        by_cases e : j = k
        · subst e
          obtain ⟨p, hp, h⟩ := i3 (j - 1) (by omega)
          exact ⟨p, hp, by rw [hkeq]; exact h⟩
        · exact i3 j (by omega)
      | true =>
        have hz : lexN (ps.getD k pD).2.key (ps.getD (k - 1) pD).2.key ≠ 0 := by simpa [keepAt] using hkeep
        simp only [cpt, hkeep, or_true, if_true]
        refine ⟨List.pairwise_append.2 ⟨i1, by simp, fun p hp q hq => ?_⟩, fun p hp => ?_, fun j hj => ?_⟩
        · simp at hq; subst hq
          have h := lexN_trans _ _ _ (i2 p hp) hstep
          have hsw := lexN_swap (ps.getD k pD).2.key (ps.getD (k - 1) pD).2.key
          rcases Int.lt_or_eq_of_le h.1 with h3 | h3
          · exact h3
          · have := (h.2 h3).2; omega
        · rcases List.mem_append.1 hp with hp | hp
          · exact (lexN_trans _ _ _ (i2 p hp) hstep).1
          · simp at hp; subst hp
            simp only [List.getD_eq_getElem?_getD]; rw [lexN_self]; omega
        · by_cases e : j = k
          · subst e
            exact ⟨ps.getD j pD, by simp, lexN_self _⟩
          · obtain ⟨p, hp, h⟩ := i3 j (by omega)
            exact ⟨p, by simp [hp], h⟩
theorem cpt_ord {ps qs : List (Nat × RE)} (hp : ps.Perm qs) (hs : ps.Pairwise fun x y => lexN x.2.key y.2.key ≤ 0) (hw : ∀ p ∈ qs, WfK p.2) (h0 : ps ≠ []) : (cpt ps ps.length).map Prod.snd = ordL (qs.map Prod.snd) := by
  have hl := List.length_pos_iff.2 h0
  obtain ⟨i1, -, i3⟩ := cpt_up ps hs ps.length hl (Nat.le_refl _)
  refine ordL_eq (fun y hy => ?_) ?_ fun r => ?_
  · obtain ⟨p, hp', rfl⟩ := List.mem_map.1 hy
    exact hw p hp'
  · rw [List.pairwise_map]; exact i1
  · simp only [List.mem_map]
    constructor
    · rintro ⟨p, hp', rfl⟩
      exact ⟨p, hp.subset (cpt_mem ps ps.length (Nat.le_refl _) p hp'), rfl⟩
    · rintro ⟨p, hp', rfl⟩
      have hpp := hp.symm.subset hp'
      obtain ⟨j, hj, hj2⟩ := List.getElem_of_mem hpp
      obtain ⟨q, hq, hq2⟩ := i3 j hj
      have e : ps.getD j pD = p := by simp [List.getD_eq_getElem?_getD, hj, hj2]
      rw [e] at hq2
      exact ⟨q, hq, key_inj (hw q (hp.subset (cpt_mem ps ps.length (Nat.le_refl _) q hq))) (hw p hp') (lexN_zero _ _ hq2)⟩
end Go.Proofs.YtkjmjppmpcnejaaGreatDoor
