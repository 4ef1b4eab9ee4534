/- Neither the order nor the number nor the grouping of those of which one is chosen, or all are asked, turns anything; nor does the grouping of those that follow one another. -/
import Derived.Test.YtkjmjppmpcnejaaDoorMathSame
namespace Go.Proofs.YtkjmjppmpcnejaaDoor
set_option maxRecDepth 100000
set_option linter.unusedSimpArgs false
set_option linter.unusedVariables false
open Go.RowKit

theorem any_of_mem {l l' : List RE} (h : ∀ r, r ∈ l ↔ r ∈ l') (p : RE → Bool) : l.any p = l'.any p := by
  rw [Bool.eq_iff_iff, List.any_eq_true, List.any_eq_true]; simp only [h]
theorem all_of_mem {l l' : List RE} (h : ∀ r, r ∈ l ↔ r ∈ l') (p : RE → Bool) : l.all p = l'.all p := by
  rw [Bool.eq_iff_iff, List.all_eq_true, List.all_eq_true]; simp only [h]
theorem nil_of_mem {a b : List RE} (h : ∀ r, r ∈ a ↔ r ∈ b) : a = [] ↔ b = [] := by
  rw [List.eq_nil_iff_forall_not_mem, List.eq_nil_iff_forall_not_mem]; simp only [h]
theorem flatL_of_mem {l l' : List RE} (o : Nat) (h : ∀ r, r ∈ l ↔ r ∈ l') : ∀ r, r ∈ flatL o l ↔ r ∈ flatL o l' := by
  intro r; unfold flatL; simp only [List.mem_flatMap, h]
theorem orKeep_of_mem {l l' : List RE} (h : ∀ r, r ∈ l ↔ r ∈ l') : ∀ r, r ∈ orKeep l ↔ r ∈ orKeep l' := by
  intro r; unfold orKeep; simp only [List.mem_filter, h]
theorem flatL_append (o : Nat) (a b : List RE) : flatL o (a ++ b) = flatL o a ++ flatL o b := by unfold flatL; rw [List.flatMap_append]
theorem orKeep_append (a b : List RE) : orKeep (a ++ b) = orKeep a ++ orKeep b := by unfold orKeep; rw [List.filter_append]
theorem orBits (l : List RE) (i : Nat) : ∀ s : BitVec 256, (l.foldl (fun s r => if r.op = 2 then s ||| r.set else s) s).getLsbD i = (s.getLsbD i || l.any fun r => r.op == 2 && r.set.getLsbD i) := by
  induction l with
  | nil => intro s; simp
  | cons x l ih =>
    intro s
    rw [List.foldl_cons, ih, List.any_cons]
    by_cases h : x.op = 2
    · simp [h, Bool.or_assoc]
    · have hb : (x.op == 2) = false := by simpa using h
      rw [if_neg h, hb, Bool.false_and, Bool.false_or]
theorem andBits (l : List RE) (i : Nat) : ∀ s : BitVec 256, (l.foldl (fun s r => if r.op = 2 then s &&& r.set else s) s).getLsbD i = (s.getLsbD i && l.all fun r => !(r.op == 2) || r.set.getLsbD i) := by
  induction l with
  | nil => intro s; simp
  | cons x l ih =>
    intro s
    rw [List.foldl_cons, ih, List.all_cons]
    by_cases h : x.op = 2
    · simp [h, Bool.and_assoc]
    · have hb : (x.op == 2) = false := by simpa using h
      rw [if_neg h, hb, Bool.not_false, Bool.true_or, Bool.true_and]
theorem orSet_of_mem {l l' : List RE} (h : ∀ r, r ∈ l ↔ r ∈ l') : orSet l = orSet l' := by
  refine BitVec.eq_of_getLsbD_eq fun i hi => ?_
  unfold orSet
  rw [orBits, orBits, any_of_mem h]
theorem andSet_of_mem {l l' : List RE} (h : ∀ r, r ∈ l ↔ r ∈ l') : andSet l = andSet l' := by
  refine BitVec.eq_of_getLsbD_eq fun i hi => ?_
  unfold andSet
  rw [andBits, andBits, all_of_mem h]
theorem orSet_append (a b : List RE) : orSet (a ++ b) = orSet a ||| orSet b := by
  refine BitVec.eq_of_getLsbD_eq fun i hi => ?_
  unfold orSet
  rw [orBits, BitVec.getLsbD_or, orBits, orBits, List.any_append]; simp
theorem ordL_of_mem {a b : List RE} (ha : ∀ y ∈ a, WfK y) (hb : ∀ y ∈ b, WfK y) (h : ∀ r, r ∈ a ↔ r ∈ b) : ordL a = ordL b :=
  ordL_eq hb (ordL_spec a ha).1 fun r => ((ordL_spec a ha).2 r).trans (h r)

theorem any_of {l l' : List RE} (hw : ∀ r ∈ l, Wf r) (hw' : ∀ r ∈ l', Wf r) (hk : ∀ r, r ∈ orKeep (flatL 4 l) ↔ r ∈ orKeep (flatL 4 l')) (hs : orSet (flatL 4 l) = orSet (flatL 4 l')) : rAny l = rAny l' := by
  unfold rAny
  simp only [← hs]
  generalize hX : (if orSet (flatL 4 l) = 0#256 then [] else [rOne (orSet (flatL 4 l))]) = X
  have hXw : ∀ y ∈ X, WfK y := fun y hy => by
    rw [← hX] at hy
    split at hy
    · simp at hy
    · simp at hy; subst hy; exact (wf_one _).k
  have hm : ∀ r, r ∈ orKeep (flatL 4 l) ++ X ↔ r ∈ orKeep (flatL 4 l') ++ X := fun r => by rw [List.mem_append, List.mem_append, hk]
  have h1 : ∀ y ∈ orKeep (flatL 4 l) ++ X, WfK y := fun y hy => (List.mem_append.1 hy).elim (fun h => (wf_keepL (.inl rfl) hw 0#256 y h).1.k) (hXw y)
  have h2 : ∀ y ∈ orKeep (flatL 4 l') ++ X, WfK y := fun y hy => (List.mem_append.1 hy).elim (fun h => (wf_keepL (.inl rfl) hw' 0#256 y h).1.k) (hXw y)
  rw [ordL_of_mem h1 h2 hm]
  by_cases hn : orKeep (flatL 4 l) ++ X = []
  · rw [if_pos hn, if_pos ((nil_of_mem hm).1 hn)]
  · rw [if_neg hn, if_neg (fun e => hn ((nil_of_mem hm).2 e))]
theorem any_mem {l l' : List RE} (hw : ∀ r ∈ l, Wf r) (h : ∀ r, r ∈ l ↔ r ∈ l') : rAny l = rAny l' :=
  any_of hw (fun r hr => hw r ((h r).2 hr)) (orKeep_of_mem (flatL_of_mem 4 h)) (orSet_of_mem (flatL_of_mem 4 h))
theorem both_mem {l l' : List RE} (hw : ∀ r ∈ l, Wf r) (h : ∀ r, r ∈ l ↔ r ∈ l') : rBoth l = rBoth l' := by
  have hw' : ∀ r ∈ l', Wf r := fun r hr => hw r ((h r).2 hr)
  have hf := flatL_of_mem 6 h
  have hs := andSet_of_mem hf
  have hz : (flatL 6 l).any (fun r => r.op == 0) = (flatL 6 l').any (fun r => r.op == 0) := any_of_mem hf _
  have hmt : met (flatL 6 l) = met (flatL 6 l') := any_of_mem hf _
  unfold rBoth
  simp only [← hs, ← hz, ← hmt]
  generalize hX : (if met (flatL 6 l) = true then [rOne (andSet (flatL 6 l))] else []) = X
  have hXw : ∀ y ∈ X, WfK y := fun y hy => by
    rw [← hX] at hy
    split at hy
    · simp at hy; subst hy; exact (wf_one _).k
    · simp at hy
  have hm : ∀ r, r ∈ orKeep (flatL 6 l) ++ X ↔ r ∈ orKeep (flatL 6 l') ++ X := fun r => by rw [List.mem_append, List.mem_append, orKeep_of_mem hf]
  have h1 : ∀ y ∈ orKeep (flatL 6 l) ++ X, WfK y := fun y hy => (List.mem_append.1 hy).elim (fun h => (wf_keepL (.inr rfl) hw 0#256 y h).1.k) (hXw y)
  have h2 : ∀ y ∈ orKeep (flatL 6 l') ++ X, WfK y := fun y hy => (List.mem_append.1 hy).elim (fun h => (wf_keepL (.inr rfl) hw' 0#256 y h).1.k) (hXw y)
  rw [ordL_of_mem h1 h2 hm]
  by_cases hn : orKeep (flatL 6 l) ++ X = []
  · rw [if_pos hn, if_pos ((nil_of_mem hm).1 hn)]
  · rw [if_neg hn, if_neg (fun e => hn ((nil_of_mem hm).2 e))]

theorem flat_join {o : Nat} {L : List RE} (h : ∀ k ∈ L, k.op ≠ o) : flatL o [rJoin o L] = L := by
  by_cases h1 : L.length = 1
  · obtain ⟨x, rfl⟩ := List.length_eq_one_iff.1 h1
    rw [rJoin_one]
    exact flatL_same h
  · rw [rJoin_more _ _ h1]
    simp [flatL, RE.op, RE.kids]
theorem any_flat {a : List RE} (hw : ∀ r ∈ a, Wf r) : (∀ r, r ∈ orKeep (flatL 4 [rAny a]) ↔ r ∈ orKeep (flatL 4 a)) ∧ orSet (flatL 4 [rAny a]) = orSet (flatL 4 a) := by
  generalize hF : flatL 4 a = F
  have hFw : ∀ k ∈ orKeep F, Wf k ∧ k.op ≠ 0 ∧ k.op ≠ 4 ∧ k.op ≠ 2 := fun k hk => by
    have h1 := wf_keepL (.inl rfl) hw 0#256 k (by rw [hF]; exact hk)
    refine ⟨h1.1, h1.2.1, h1.2.2.1, ?_⟩
    have := (List.mem_filter.1 hk).2
    simp at this; exact this.2
  generalize hc : orSet F = c
  have hks : ∀ X, X = (if c = 0#256 then [] else [rOne c]) → (∀ k ∈ orKeep F ++ X, Wf k ∧ k.op ≠ 0 ∧ k.op ≠ 4) ∧ (∀ r, r ∈ orKeep (orKeep F ++ X) ↔ r ∈ orKeep F) ∧ orSet (orKeep F ++ X) = c := fun X hX => by
    have hkk : orKeep (orKeep F) = orKeep F := List.filter_eq_self.2 fun k hk => by have := hFw k hk; simp [this.2.1, this.2.2.2]
    have hs0 : orSet (orKeep F) = 0#256 := orSet_one (fun k hk => (hFw k hk).2.2.2) _
    rw [orSet_append, orKeep_append, hkk, hs0]
    by_cases h0 : c = 0#256
    · rw [if_pos h0] at hX; subst hX
      refine ⟨fun k hk => ?_, fun r => by simp [orKeep], by rw [h0]; simp [orSet]⟩
      rw [List.append_nil] at hk
      exact ⟨(hFw k hk).1, (hFw k hk).2.1, (hFw k hk).2.2.1⟩
    · rw [if_neg h0] at hX; subst hX
      have h2 := one_op c h0
      refine ⟨fun k hk => ?_, fun r => by simp [orKeep, h2], ?_⟩
      · rcases List.mem_append.1 hk with hk | hk
        · exact ⟨(hFw k hk).1, (hFw k hk).2.1, (hFw k hk).2.2.1⟩
        · simp at hk; subst hk; exact ⟨wf_one c, by omega, by omega⟩
      · rw [rOne_set c h0]; simp [orSet, RE.op, RE.set]
  unfold rAny
  simp only [hF, hc]
  generalize hX : (if c = 0#256 then [] else [rOne c]) = X
  obtain ⟨h1, h2, h3⟩ := hks X hX.symm
  by_cases hn : orKeep F ++ X = []
  · rw [if_pos hn]
    rw [hn] at h2 h3
    refine ⟨fun r => ?_, ?_⟩
    · rw [← h2 r]; rfl
    · rw [← h3]; rfl
  · rw [if_neg hn]
    have hw1 : ∀ y ∈ orKeep F ++ X, WfK y := fun y hy => (h1 y hy).1.k
    have hm := (ordL_spec _ hw1).2
    rw [flat_join (fun k hk => (h1 k ((hm k).1 hk)).2.2)]
    refine ⟨fun r => ?_, ?_⟩
    · rw [orKeep_of_mem hm, h2]
    · rw [orSet_of_mem hm, h3]
theorem any_group {a b : List RE} (ha : ∀ r ∈ a, Wf r) (hb : ∀ r ∈ b, Wf r) : rAny [rAny a, rAny b] = rAny (a ++ b) := by
  obtain ⟨a1, a2⟩ := any_flat ha
  obtain ⟨b1, b2⟩ := any_flat hb
  have e : [rAny a, rAny b] = [rAny a] ++ [rAny b] := rfl
  refine any_of (fun r hr => ?_) (fun r hr => ?_) (fun r => ?_) ?_
  · simp at hr
    rcases hr with rfl | rfl
    · exact wf_any ha
    · exact wf_any hb
  · rcases List.mem_append.1 hr with h | h
    · exact ha r h
    · exact hb r h
  · rw [e, flatL_append, flatL_append, orKeep_append, orKeep_append, List.mem_append, List.mem_append, a1, b1]
  · rw [e, flatL_append, flatL_append, orSet_append, orSet_append, a2, b2]

theorem then_op {a : List RE} (hw : ∀ r ∈ a, Wf r) : ((rThen a).op == 0) = a.any (fun r => r.op == 0) := by
  unfold rThen
  by_cases h : a.any (fun r => r.op == 0) = true
  · rw [if_pos h, h]; rfl
  · rw [if_neg h]
    have h' : a.any (fun r => r.op == 0) = false := by simpa using h
    rw [h']
    split
    · rfl
    · have hc := wf_catL hw h'
      by_cases h1 : (catL a).length = 1
      · obtain ⟨x, hx⟩ := List.length_eq_one_iff.1 h1
        rw [hx, rJoin_one]
        have := (hc x (by rw [hx]; simp)).2.1
        simpa using this
      · rw [rJoin_more _ _ h1]; rfl
theorem then_cat {a : List RE} (hw : ∀ r ∈ a, Wf r) (h' : a.any (fun r => r.op == 0) = false) : catK (rThen a) = catL a := by
  unfold rThen
  rw [if_neg (by rw [h']; simp)]
  split
  · rename_i h; rw [h]; rfl
  · have hc := wf_catL hw h'
    by_cases h1 : (catL a).length = 1
    · obtain ⟨x, hx⟩ := List.length_eq_one_iff.1 h1
      have := (hc x (by rw [hx]; simp)).2.2
      rw [hx, rJoin_one]
      unfold catK
      rw [if_neg this.1, if_neg this.2]
    · rw [rJoin_more _ _ h1]; rfl
theorem then_group {a b : List RE} (ha : ∀ r ∈ a, Wf r) (hb : ∀ r ∈ b, Wf r) : rThen [rThen a, rThen b] = rThen (a ++ b) := by
  have hz : [rThen a, rThen b].any (fun r => r.op == 0) = (a ++ b).any (fun r => r.op == 0) := by
    rw [List.any_append, List.any_cons, List.any_cons, List.any_nil, then_op ha, then_op hb, Bool.or_false]
  by_cases h : (a ++ b).any (fun r => r.op == 0) = true
  · have e : ∀ l : List RE, l.any (fun r => r.op == 0) = true → rThen l = rNothing := fun l hl => by unfold rThen; rw [if_pos hl]
    rw [e _ (hz.trans h), e _ h]
  · have h' : (a ++ b).any (fun r => r.op == 0) = false := by simpa using h
    have h'' := h'
    rw [List.any_append, Bool.or_eq_false_iff] at h''
    have hcat : catL [rThen a, rThen b] = catL (a ++ b) := by
      have : catL [rThen a, rThen b] = catK (rThen a) ++ catK (rThen b) := by simp [catL]
      rw [this, then_cat ha h''.1, then_cat hb h''.2]
      unfold catL; rw [List.flatMap_append]
    have e : ∀ l : List RE, l.any (fun r => r.op == 0) = false → rThen l = if catL l = [] then rEmpty else rJoin 3 (catL l) := fun l hl => by
      unfold rThen; rw [if_neg (by rw [hl]; simp)]
    rw [e _ (hz.trans h'), e _ h', hcat]
end Go.Proofs.YtkjmjppmpcnejaaDoor
