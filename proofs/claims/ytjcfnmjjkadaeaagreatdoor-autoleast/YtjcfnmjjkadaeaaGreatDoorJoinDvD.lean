/- Texts of this claim put together: MathTurn, MathDv2, DvD. -/
import Derived.Test.YtjcfnmjjkadaeaaGreatDoorJoinDvC
/- Neither the order nor the number nor the grouping of those of which one is chosen, or all are asked, turns anything; nor does the grouping of those that follow one another. -/
namespace Go.Proofs.YtjcfnmjjkadaeaaGreatDoor
set_option maxRecDepth 100000
set_option linter.unusedSimpArgs false
set_option linter.unusedVariables false
open Go.RowKit

theorem any_of_mem {l l' : List RE} (h : ∀ r, r ∈ l ↔ r ∈ l') (p : RE → Bool) : l.any p = l'.any p := by
  rw [Bool.eq_iff_iff, List.any_eq_true, List.any_eq_true]; simp only [h]
theorem nil_of_mem {a b : List RE} (h : ∀ r, r ∈ a ↔ r ∈ b) : a = [] ↔ b = [] := by
  rw [List.eq_nil_iff_forall_not_mem, List.eq_nil_iff_forall_not_mem]; simp only [h]
theorem orKeep_of_mem {l l' : List RE} (h : ∀ r, r ∈ l ↔ r ∈ l') : ∀ r, r ∈ orKeep l ↔ r ∈ orKeep l' := by
  intro r; unfold orKeep; simp only [List.mem_filter, h]
theorem flatL_append (o : Nat) (a b : List RE) : flatL o (a ++ b) = flatL o a ++ flatL o b := by unfold flatL; rw [List.flatMap_append]
theorem orKeep_append (a b : List RE) : orKeep (a ++ b) = orKeep a ++ orKeep b := by unfold orKeep; rw [List.filter_append]
theorem orBits (l : List RE) (i : Nat) : ∀ s : BitVec 256, (l.foldl (fun s r => if r.op = 2 then s ||| r.set else s) s).getLsbD i = (s.getLsbD i || l.any fun r => r.op == 2 && r.set.getLsbD i) := by
  induction l with
  | nil => intro s; simp
  | cons x l ih =>
    intro s
    rw [List.foldl_cons, ih, List.any_cons]
    by_cases h : x.op = 2
    · simp [h, Bool.or_assoc]
    · have hb : (x.op == 2) = false := by simpa using h
      rw [if_neg h, hb, Bool.false_and, Bool.false_or]
theorem andBits (l : List RE) (i : Nat) : ∀ s : BitVec 256, (l.foldl (fun s r => if r.op = 2 then s &&& r.set else s) s).getLsbD i = (s.getLsbD i && l.all fun r => !(r.op == 2) || r.set.getLsbD i) := by
  induction l with
  | nil => intro s; simp
  | cons x l ih =>
    intro s
    rw [List.foldl_cons, ih, List.all_cons]
    by_cases h : x.op = 2
    · simp [h, Bool.and_assoc]
    · have hb : (x.op == 2) = false := by simpa using h
      rw [if_neg h, hb, Bool.not_false, Bool.true_or, Bool.true_and]
theorem orSet_of_mem {l l' : List RE} (h : ∀ r, r ∈ l ↔ r ∈ l') : orSet l = orSet l' := by
  refine BitVec.eq_of_getLsbD_eq fun i hi => ?_
  unfold orSet
  rw [orBits, orBits, any_of_mem h]
theorem orSet_append (a b : List RE) : orSet (a ++ b) = orSet a ||| orSet b := by
  refine BitVec.eq_of_getLsbD_eq fun i hi => ?_
  unfold orSet
  rw [orBits, BitVec.getLsbD_or, orBits, orBits, List.any_append]; simp
theorem ordL_of_mem {a b : List RE} (ha : ∀ y ∈ a, WfK y) (hb : ∀ y ∈ b, WfK y) (h : ∀ r, r ∈ a ↔ r ∈ b) : ordL a = ordL b :=
  ordL_eq hb (ordL_spec a ha).1 fun r => ((ordL_spec a ha).2 r).trans (h r)

theorem any_of {l l' : List RE} (hw : ∀ r ∈ l, Wf r) (hw' : ∀ r ∈ l', Wf r) (hk : ∀ r, r ∈ orKeep (flatL 4 l) ↔ r ∈ orKeep (flatL 4 l')) (hs : orSet (flatL 4 l) = orSet (flatL 4 l')) : rAny l = rAny l' := by
  unfold rAny
  simp only [← hs]
  generalize hX : (if orSet (flatL 4 l) = 0#256 then [] else [rOne (orSet (flatL 4 l))]) = X
  have hXw : ∀ y ∈ X, WfK y := fun y hy => by
    rw [← hX] at hy
    split at hy
    · simp at hy
    · simp at hy; subst hy; exact (wf_one _).k
  have hm : ∀ r, r ∈ orKeep (flatL 4 l) ++ X ↔ r ∈ orKeep (flatL 4 l') ++ X := fun r => by rw [List.mem_append, List.mem_append, hk]
  have h1 : ∀ y ∈ orKeep (flatL 4 l) ++ X, WfK y := fun y hy => (List.mem_append.1 hy).elim (fun h => (wf_keepL (.inl rfl) hw 0#256 y h).1.k) (hXw y)
  have h2 : ∀ y ∈ orKeep (flatL 4 l') ++ X, WfK y := fun y hy => (List.mem_append.1 hy).elim (fun h => (wf_keepL (.inl rfl) hw' 0#256 y h).1.k) (hXw y)
  rw [ordL_of_mem h1 h2 hm]
  by_cases hn : orKeep (flatL 4 l) ++ X = []
  · rw [if_pos hn, if_pos ((nil_of_mem hm).1 hn)]
  · rw [if_neg hn, if_neg (fun e => hn ((nil_of_mem hm).2 e))]
theorem flat_join {o : Nat} {L : List RE} (h : ∀ k ∈ L, k.op ≠ o) : flatL o [rJoin o L] = L := by
  by_cases h1 : L.length = 1
  · obtain ⟨x, rfl⟩ := List.length_eq_one_iff.1 h1
    rw [rJoin_one]
    exact flatL_same h
  · rw [rJoin_more _ _ h1]
    simp [flatL, RE.op, RE.kids]
theorem any_flat {a : List RE} (hw : ∀ r ∈ a, Wf r) : (∀ r, r ∈ orKeep (flatL 4 [rAny a]) ↔ r ∈ orKeep (flatL 4 a)) ∧ orSet (flatL 4 [rAny a]) = orSet (flatL 4 a) := by
  generalize hF : flatL 4 a = F
  have hFw : ∀ k ∈ orKeep F, Wf k ∧ k.op ≠ 0 ∧ k.op ≠ 4 ∧ k.op ≠ 2 := fun k hk => by
    have h1 := wf_keepL (.inl rfl) hw 0#256 k (by rw [hF]; exact hk)
    refine ⟨h1.1, h1.2.1, h1.2.2.1, ?_⟩
    have := (List.mem_filter.1 hk).2
    simp at this; exact this.2
  generalize hc : orSet F = c
  have hks : ∀ X, X = (if c = 0#256 then [] else [rOne c]) → (∀ k ∈ orKeep F ++ X, Wf k ∧ k.op ≠ 0 ∧ k.op ≠ 4) ∧ (∀ r, r ∈ orKeep (orKeep F ++ X) ↔ r ∈ orKeep F) ∧ orSet (orKeep F ++ X) = c := fun X hX => by
    have hkk : orKeep (orKeep F) = orKeep F := List.filter_eq_self.2 fun k hk => by have := hFw k hk; simp [this.2.1, this.2.2.2]
    have hs0 : orSet (orKeep F) = 0#256 := orSet_one (fun k hk => (hFw k hk).2.2.2) _
    rw [orSet_append, orKeep_append, hkk, hs0]
    by_cases h0 : c = 0#256
    · rw [if_pos h0] at hX; subst hX
      refine ⟨fun k hk => ?_, fun r => by simp [orKeep], by rw [h0]; simp [orSet]⟩
      rw [List.append_nil] at hk
      exact ⟨(hFw k hk).1, (hFw k hk).2.1, (hFw k hk).2.2.1⟩
    · rw [if_neg h0] at hX; subst hX
      have h2 := one_op c h0
      refine ⟨fun k hk => ?_, fun r => by simp [orKeep, h2], ?_⟩
      · rcases List.mem_append.1 hk with hk | hk
        · exact ⟨(hFw k hk).1, (hFw k hk).2.1, (hFw k hk).2.2.1⟩
        · simp at hk; subst hk; exact ⟨wf_one c, by omega, by omega⟩
      · rw [rOne_set c h0]; simp [orSet, RE.op, RE.set]
  unfold rAny
  simp only [hF, hc]
  generalize hX : (if c = 0#256 then [] else [rOne c]) = X
  obtain ⟨h1, h2, h3⟩ := hks X hX.symm
  by_cases hn : orKeep F ++ X = []
  · rw [if_pos hn]
    rw [hn] at h2 h3
    refine ⟨fun r => ?_, ?_⟩
    · rw [← h2 r]; rfl
    · rw [← h3]; rfl
  · rw [if_neg hn]
    have hw1 : ∀ y ∈ orKeep F ++ X, WfK y := fun y hy => (h1 y hy).1.k
    have hm := (ordL_spec _ hw1).2
    rw [flat_join (fun k hk => (h1 k ((hm k).1 hk)).2.2)]
    refine ⟨fun r => ?_, ?_⟩
    · rw [orKeep_of_mem hm, h2]
    · rw [orSet_of_mem hm, h3]
theorem any_group {a b : List RE} (ha : ∀ r ∈ a, Wf r) (hb : ∀ r ∈ b, Wf r) : rAny [rAny a, rAny b] = rAny (a ++ b) := by
  obtain ⟨a1, a2⟩ := any_flat ha
  obtain ⟨b1, b2⟩ := any_flat hb
  have e : [rAny a, rAny b] = [rAny a] ++ [rAny b] := rfl
  refine any_of (fun r hr => ?_) (fun r hr => ?_) (fun r => ?_) ?_
  · simp at hr
    rcases hr with rfl | rfl
    · exact wf_any ha
    · exact wf_any hb
  · rcases List.mem_append.1 hr with h | h
    · exact ha r h
    · exact hb r h
  · rw [e, flatL_append, flatL_append, orKeep_append, orKeep_append, List.mem_append, List.mem_append, a1, b1]
  · rw [e, flatL_append, flatL_append, orSet_append, orSet_append, a2, b2]

theorem then_op {a : List RE} (hw : ∀ r ∈ a, Wf r) : ((rThen a).op == 0) = a.any (fun r => r.op == 0) := by
  unfold rThen
  by_cases h : a.any (fun r => r.op == 0) = true
  · rw [if_pos h, h]; rfl
  · rw [if_neg h]
    have h' : a.any (fun r => r.op == 0) = false := by simpa using h
    rw [h']
    split
    · rfl
    · have hc := wf_catL hw h'
      by_cases h1 : (catL a).length = 1
      · obtain ⟨x, hx⟩ := List.length_eq_one_iff.1 h1
        rw [hx, rJoin_one]
        have := (hc x (by rw [hx]; simp)).2.1
        simpa using this
      · rw [rJoin_more _ _ h1]; rfl
theorem then_cat {a : List RE} (hw : ∀ r ∈ a, Wf r) (h' : a.any (fun r => r.op == 0) = false) : catK (rThen a) = catL a := by
  unfold rThen
  rw [if_neg (by rw [h']; simp)]
  split
  · rename_i h; rw [h]; rfl
  · have hc := wf_catL hw h'
    by_cases h1 : (catL a).length = 1
    · obtain ⟨x, hx⟩ := List.length_eq_one_iff.1 h1
      have := (hc x (by rw [hx]; simp)).2.2
      rw [hx, rJoin_one]
      unfold catK
      rw [if_neg this.1, if_neg this.2]
    · rw [rJoin_more _ _ h1]; rfl
theorem then_group {a b : List RE} (ha : ∀ r ∈ a, Wf r) (hb : ∀ r ∈ b, Wf r) : rThen [rThen a, rThen b] = rThen (a ++ b) := by
  have hz : [rThen a, rThen b].any (fun r => r.op == 0) = (a ++ b).any (fun r => r.op == 0) := by
    rw [List.any_append, List.any_cons, List.any_cons, List.any_nil, then_op ha, then_op hb, Bool.or_false]
  by_cases h : (a ++ b).any (fun r => r.op == 0) = true
  · have e : ∀ l : List RE, l.any (fun r => r.op == 0) = true → rThen l = rNothing := fun l hl => by unfold rThen; rw [if_pos hl]
    rw [e _ (hz.trans h), e _ h]
  · have h' : (a ++ b).any (fun r => r.op == 0) = false := by simpa using h
    have h'' := h'
    rw [List.any_append, Bool.or_eq_false_iff] at h''
    have hcat : catL [rThen a, rThen b] = catL (a ++ b) := by
      have : catL [rThen a, rThen b] = catK (rThen a) ++ catK (rThen b) := by simp [catL]
      rw [this, then_cat ha h''.1, then_cat hb h''.2]
      unfold catL; rw [List.flatMap_append]
    have e : ∀ l : List RE, l.any (fun r => r.op == 0) = false → rThen l = if catL l = [] then rEmpty else rJoin 3 (catL l) := fun l hl => by
      unfold rThen; rw [if_neg (by rw [hl]; simp)]
    rw [e _ (hz.trans h'), e _ h', hcat]
end Go.Proofs.YtjcfnmjjkadaeaaGreatDoor
/- What stands behind a byte is made by the page's rules. -/
namespace Go.Proofs.YtjcfnmjjkadaeaaGreatDoor
set_option maxRecDepth 100000
set_option linter.unusedSimpArgs false
set_option linter.unusedVariables false
open Go.RowKit

theorem then_nil : rThen [] = rEmpty := rfl
theorem any_nil : rAny [] = rNothing := rfl
theorem thenW {x : RE} (h : Wf x) : rThen [x] = x := by
  by_cases h0 : x.op = 0
  · rw [h.none h0]; rfl
  · by_cases h1 : x.op = 1
    · rw [h.eps h1]; rfl
    · by_cases h3 : x.op = 3
      · have hc : catL [x] = x.kids := by simp [catL, catK, h3]
        have hs := h.shp
        have h2 := (hs.cat h3).1
        unfold rThen
        rw [hc, if_neg (by simp [h0]), if_neg (by intro e; rw [e] at h2; simp at h2), rJoin_more _ _ (by omega)]
        rw [x.eta]
        simp only [RE.kids]
        rw [h3, hs.set (by omega)]
      · have hc : catL [x] = [x] := by simp [catL, catK, h1, h3]
        unfold rThen
        rw [hc, if_neg (by simp [h0]), if_neg (by simp)]
        rfl
theorem anyW {x : RE} (h : Wf x) : rAny [x] = x := by
  by_cases h0 : x.op = 0
  · rw [h.none h0]; rfl
  · by_cases h4 : x.op = 4
    · have e := any_same h h4
      have hk := h.kid
      have h1 := any_flat hk
      have h2 := any_of (l := [rAny x.kids]) (l' := x.kids) (fun r hr => by simp at hr; subst hr; exact wf_any hk) hk h1.1 h1.2
      rw [e] at h2
      exact h2
    · by_cases h2 : x.op = 2
      · obtain ⟨e, hs⟩ := wf_class h h2
        have hf : flatL 4 [x] = [x] := by simp [flatL, h2]
        have hk : orKeep [x] = [] := by simp [orKeep, h2]
        have hse : orSet [x] = x.set := by simp [orSet, h2]
        unfold rAny
        simp only [hf, hk, hse, hs, if_false, List.nil_append]
        rw [if_neg (by simp), ← e]
        rfl
      · have hf : flatL 4 [x] = [x] := by simp [flatL, h4]
        have hk : orKeep [x] = [x] := by simp [orKeep, h0, h2]
        have hs : orSet [x] = 0#256 := by simp [orSet, h2]
        unfold rAny
        simp only [hf, hk, hs, if_true, List.append_nil]
        rw [if_neg (by simp)]
        rfl
theorem then_none (x : RE) : rThen [rNothing, x] = rNothing := by
  unfold rThen
  rw [if_pos (by simp [rNothing, RE.op])]

/-- A row of ways, put together. -/
theorem by_pack {ws : List (List RE)} (h : ∀ w ∈ ws, ∀ x ∈ w, Wf x) : byOf (pack ws) = rAny (ws.map rThen) := by
  have hm : ∀ r ∈ ws.map rThen, Wf r := fun r hr => by
    obtain ⟨w, hw, rfl⟩ := List.mem_map.1 hr
    exact wf_then (h w hw)
  rcases Nat.lt_or_ge 1 ws.length with h1 | h1
  · rw [pack_2 h1]
    simp only [byOf, if_true]
    exact thenW (wf_any hm)
  · rcases Nat.lt_or_ge 0 ws.length with h0 | h0
    · rw [pack_1 (by omega)]
      obtain ⟨w, rfl⟩ := List.length_eq_one_iff.1 (show ws.length = 1 by omega)
      simp only [byOf, List.getD_cons_zero, if_true, List.map_cons, List.map_nil]
      exact (anyW (hm _ (by simp))).symm
    · obtain rfl : ws = [] := List.length_eq_zero_iff.1 (by omega)
      rfl
theorem ways_wf (b : Nat) {l : List RE} (h : ∀ r ∈ l, Wf r) : ∀ w ∈ wayL l (l.map (RE.beh b)), ∀ x ∈ w, Wf x := by
  refine mem_wayL l _ h ?_
  intro d hd
  obtain ⟨k, hkk, rfl⟩ := List.mem_map.1 hd
  exact wf_beh b k (h k hkk)
theorem by_first (b : Nat) {k : RE} {ks : List RE} (hk : Wf k) (hks : ∀ r ∈ ks, Wf r) :
    rAny ((if (k.beh b).2 then [(k.beh b).1 ++ ks] else []).map rThen) = rThen [rBy b k, rThen ks] := by
  have h1 := wf_beh b k hk
  unfold rBy byOf
  by_cases h : (k.beh b).2 = true
  · rw [if_pos h, if_pos h, List.map_cons, List.map_nil, anyW (wf_then fun x hx => ?_), then_group h1 hks]
    rcases List.mem_append.1 hx with hx | hx
    · exact h1 x hx
    · exact hks x hx
  · rw [if_neg h, if_neg h, then_none]
    rfl
/-- By of a row. -/
theorem by_cons (b : Nat) {k : RE} {ks : List RE} (hk : Wf k) (hks : ∀ r ∈ ks, Wf r) :
    byOf (behRow b (k :: ks)) = if k.null then rAny [rThen [rBy b k, rThen ks], byOf (behRow b ks)] else rThen [rBy b k, rThen ks] := by
  have hall : ∀ r ∈ k :: ks, Wf r := fun r hr => by
    rcases List.mem_cons.1 hr with rfl | h
    · exact hk
    · exact hks r h
  unfold behRow
  rw [by_pack (ways_wf b hall), by_pack (ways_wf b hks), List.map_cons]
  have hW := ways_wf b hks
  have hA : ∀ r ∈ (if (k.beh b).2 then [(k.beh b).1 ++ ks] else []).map rThen, Wf r := fun r hr => by
    obtain ⟨w, hw, rfl⟩ := List.mem_map.1 hr
    refine wf_then fun x hx => ?_
    split at hw
    · simp at hw; subst hw
      rcases List.mem_append.1 hx with hx | hx
      · exact wf_beh b k hk x hx
      · exact hks x hx
    · simp at hw
  have hB : ∀ r ∈ (wayL ks (ks.map (RE.beh b))).map rThen, Wf r := fun r hr => by
    obtain ⟨w, hw, rfl⟩ := List.mem_map.1 hr
    exact wf_then (hW w hw)
  rw [wayL, ← by_first b hk hks]
  by_cases hn : k.null = true
  · rw [if_pos hn, if_pos hn, List.map_append, any_group hA hB]
  · rw [if_neg hn, if_neg hn, List.append_nil]
theorem byRow_nil (b : Nat) : byOf (behRow b []) = rNothing := rfl
theorem then_one {x : RE} (h : Wf x) : rThen [x, rThen []] = x := by
  have := then_group (a := [x]) (b := []) (fun r hr => by simp at hr; subst hr; exact h) (by simp)
  rwa [thenW h, List.append_nil, thenW h] at this
theorem any_one {x : RE} (h : Wf x) : rAny [x, rNothing] = x := by
  have := any_group (a := [x]) (b := []) (fun r hr => by simp at hr; subst hr; exact h) (by simp)
  rwa [anyW h, List.append_nil, anyW h, any_nil] at this
theorem then_same {l : List RE} (h : ∀ k ∈ l, k.op ≠ 0 ∧ k.op ≠ 1 ∧ k.op ≠ 3) (h2 : 2 ≤ l.length) : rThen l = .mk 3 0#256 l := by
  have hc : catL l = l := catL_same fun k hk => (h k hk).2
  unfold rThen
  rw [hc, if_neg ?_, if_neg (by intro e; rw [e] at h2; simp at h2), rJoin_more _ _ (by omega)]
  intro e
  obtain ⟨x, hx, h3⟩ := List.any_eq_true.1 e
  exact (h x hx).1 (by simpa using h3)
/-- By of a row, put together first. -/
theorem by_then (b : Nat) {l : List RE} (hw : ∀ r ∈ l, Wf r) (h : ∀ k ∈ l, k.op ≠ 0 ∧ k.op ≠ 1 ∧ k.op ≠ 3) (h0 : l ≠ []) : rBy b (rThen l) = byOf (behRow b l) := by
  rcases Nat.lt_or_ge 1 l.length with h1 | h1
  · rw [then_same h h1, rBy, beh3]
  · cases l with
    | nil => exact absurd rfl h0
    | cons x l =>
      obtain rfl : l = [] := List.length_eq_zero_iff.1 (by simp only [List.length_cons] at h1; omega)
      have hx := hw x (by simp)
      rw [thenW hx, by_cons b hx (by simp), byRow_nil, then_one (wf_by b hx)]
      split
      · exact (any_one (wf_by b hx)).symm
      · rfl
/-- By of Cat. -/
theorem by_3 (b : Nat) {s : BitVec 256} {k : RE} {ks : List RE} (h : Wf (.mk 3 s (k :: ks))) :
    rBy b (.mk 3 s (k :: ks)) = if k.null then rAny [rThen [rBy b k, rThen ks], rBy b (rThen ks)] else rThen [rBy b k, rThen ks] := by
  have hs : Shp 3 s (k :: ks) := h.shp
  obtain ⟨h2, hc⟩ := hs.cat rfl
  have hk := h.kid
  have hks : ∀ r ∈ ks, Wf r := fun r hr => hk r (by simp [RE.kids, hr])
  rw [rBy, beh3, by_cons b (hk k (by simp [RE.kids])) hks, by_then b hks (fun r hr => hc r (by simp [hr])) (by intro e; subst e; simp at h2)]
theorem by_5 (b : Nat) {s : BitVec 256} {k : RE} (h : Wf (.mk 5 s [k])) : rBy b (.mk 5 s [k]) = rThen [rBy b k, .mk 5 s [k]] := by
  have hk := h.kid k (by simp [RE.kids])
  unfold rBy
  rw [beh5]
  unfold byOf
  by_cases h1 : (k.beh b).2 = true
  · rw [if_pos h1, if_pos h1]
    have := then_group (wf_beh b k hk) (b := [RE.mk 5 s [k]]) (fun r hr => by simp at hr; subst hr; exact h)
    rw [thenW h] at this
    exact this.symm
  · rw [if_neg h1, if_neg h1, then_none]
theorem by_467 (b o : Nat) {s : BitVec 256} {ks : List RE} (ho : o = 4 ∨ o = 6 ∨ o = 7) (h : Wf (.mk o s ks)) : rBy b (.mk o s ks) = rWith (.mk o s ks) (ks.map (rBy b)) := by
  have hw : Wf (rWith (.mk o s ks) (ks.map (rBy b))) := wf_with h fun x hx => by
    obtain ⟨k, hk, rfl⟩ := List.mem_map.1 hx
    exact wf_by b (h.kid k hk)
  rw [rBy, beh467 b o s ks ho]
  generalize rWith (.mk o s ks) (ks.map (rBy b)) = x at *
  unfold byOf
  by_cases h0 : x.op = 0
  · simp only [h0, beq_self_eq_true, Bool.not_true, Bool.false_eq_true, if_false]
    exact (hw.none h0).symm
  · simp only [show (!(x.op == 0)) = true by simp [h0], if_true]
    exact thenW hw
theorem by_2 (b : Nat) (s : BitVec 256) (ks : List RE) : rBy b (.mk 2 s ks) = if s.getLsbD b then rEmpty else rNothing := by
  rw [rBy, beh2]
  unfold byOf
  split <;> rfl
theorem by_01 (b o : Nat) (s : BitVec 256) (ks : List RE) (h : o = 0 ∨ o = 1) : rBy b (.mk o s ks) = rNothing := by
  rw [rBy, beh01 b o s ks h]; rfl
end Go.Proofs.YtjcfnmjjkadaeaaGreatDoor
/- package deriv: behindRow, where behind of the parts is known. -/
namespace Go.Proofs.YtjcfnmjjkadaeaaGreatDoor
set_option maxRecDepth 100000
set_option linter.unusedSimpArgs false
set_option linter.unusedVariables false
open Go.RowKit

/-- The ways that were found. -/
structure WaW [Forb] (w : World) (B : Nat) (u : Value) (fs : List (Value × List (Nat × RE))) (ws : List (List RE)) (W : World) : Prop where
  own : OwnG W B 59 (.slice none 0 0) u (fs.map Prod.fst)
  row : ∀ f ∈ fs, Fine W B f.1 f.2
  el : ∀ f ∈ fs, ∀ p ∈ f.2, ReAt W p.1 p.2
  ws : fs.map (fun f => f.2.map Prod.snd) = ws
  below : Below B w W
theorem WaW.step [Forb] {w W W' : World} {B : Nat} {u : Value} {fs : List (Value × List (Nat × RE))} {ws : List (List RE)} (h : WaW w B u fs ws W) (hb : Below W.heap.size W W') (hB : B ≤ W.heap.size) : WaW w B u fs ws W' :=
  ⟨h.own.keep hb, fun f hf => (h.row f hf).keep hb, fun f hf p hp => (h.el f hf p hp).keep hb, h.ws, h.below.trans (hb.mono hB)⟩
theorem pt_ne_row (p : Nat) : PT p ≠ .slice none 0 0 := by simp [PT]
/-- One more way. -/
theorem WaW.append [Forb] {w W : World} {B sb : Nat} {u x : Value} {fs : List (Value × List (Nat × RE))} {ws : List (List RE)} {ps : List (Nat × RE)} (h : WaW w B u fs ws W) (hx : Fine W B x ps) (he : ∀ p ∈ ps, ReAt W p.1 p.2) (hs : Blk W sb #[x] 59) (ty : TypeId) (hl : fs.length + 1 ≤ 1099511627776) (hB : B ≤ W.heap.size) :
    ∃ u' W', (Builtin.append_ #[233, 233] ty #[u, .slice (some ⟨sb, 0, none⟩) 1 1]).run Tryz.prog W = .ok u' W' ∧ WaW w B u' (fs ++ [(x, ps)]) (ws ++ [ps.map Prod.snd]) W' ∧ (∀ b r, ReAt W b r → ReAt W' b r) := by
  have h1 : x.oneCell' = true := by
    obtain ⟨-, a, c, e, -⟩ := hx.row
    rw [e]; rfl
  obtain ⟨u', W', hr, ho, ha⟩ := run_appendG 233 59 ty (.slice none 0 0) 24 Tryz.underlying233 infoR (by omega) rfl h.own ⟨sb, 0, none⟩ 1 [x] (by simp) (World.news_of_block hs) (fun y hy => by simp at hy; subst hy; exact h1) (by simpa using hl) hB
  refine ⟨u', W', hr, ⟨by rw [List.map_append]; exact ho, fun f hf => ?_, fun f hf p hp => ?_, by rw [List.map_append, h.ws]; rfl, h.below.trans ha.below⟩, fun b r hr => hr.app ha (by decide) pt_ne_row⟩
  · rcases List.mem_append.1 hf with hf | hf
    · exact (h.row f hf).app ha (by decide) pt_ne_row
    · simp at hf; subst hf; exact hx.app ha (by decide) pt_ne_row
  · rcases List.mem_append.1 hf with hf | hf
    · exact (h.el f hf p hp).app ha (by decide) pt_ne_row
    · simp at hf; subst hf; exact (he p hp).app ha (by decide) pt_ne_row

/-- The ways, while they are put together. -/
structure WaR [Forb] (u : Value) (fs : List (Value × List (Nat × RE))) (W : World) : Prop where
  own : ∃ base, OwnG W base 59 (.slice none 0 0) u (fs.map Prod.fst)
  row : ∀ f ∈ fs, RowAt W f.1 f.2
  el : ∀ f ∈ fs, ∀ p ∈ f.2, ReAt W p.1 p.2
theorem WaR.keep [Forb] {W W' : World} {u : Value} {fs : List (Value × List (Nat × RE))} (h : WaR u fs W) (hb : Below W.heap.size W W') : WaR u fs W' := by
  obtain ⟨base, ho⟩ := h.own
  exact ⟨⟨base, ho.keep hb⟩, fun f hf => (h.row f hf).below hb, fun f hf p hp => (h.el f hf p hp).keep hb⟩
theorem WaR.app [Forb] {W W' : World} {u : Value} {fs : List (Value × List (Nat × RE))} {base : Nat} {v v' : Value} (h : WaR u fs W) (ha : AppG W W' base 30 (.pointer none) v v') : WaR u fs W' := by
  obtain ⟨base, ho⟩ := h.own
  exact ⟨⟨base, ho.app ha (by decide)⟩, fun f hf => (h.row f hf).app ha pt_ne_nil, fun f hf p hp => (h.el f hf p hp).app ha (by decide) pt_ne_nil⟩

set_option maxHeartbeats 1000000 in
theorem behindRow_any [Forb] (b : Nat) (l : List RE) (v : Value) (w : World) (hB : ∀ k ∈ l, BehC b k) (hw : ∀ k ∈ l, Wf k) (hf : FitsRow b l) (h : ResRow w v l) (hT : TabAt w) :
    Calls Tryz.prog 170 #[v, .int .u8 b] w (BPost (behRow b l) w) := by
  obtain ⟨i, hi, hz0, hz1, hz2⟩ := info_parts infoP
  obtain ⟨qs, hqs, hqe, hqr⟩ := h.pairs
  have hll : l.length ≤ 1099511627776 := Nat.le_trans (cntL_len l) hf.len
  have hql : qs.length = l.length := by rw [← hqs]; simp
  obtain ⟨ds, hds⟩ : ∃ ds, ds = l.map (RE.beh b) := ⟨_, rfl⟩
  have hdl : ds.length = l.length := by rw [hds]; simp
  have hsum := hf.sum
  rw [← hds] at hsum
  have HSUM := hide hsum
  have HDS := hide hds
  have HDL := hide hdl
  have HQS := hide hqs
  have HQE := hide hqe
  have HQR := hide hqr
  have HT := hide hT
  have HBE := hide hB
  have HWF := hide hw
  obtain ⟨⟨v0, v1⟩, a0, cap0, rfl, -⟩ := hqr
  have hcap0 : qs.length ≤ cap0 := v1.cap _ _ _ rfl
  have HLEAD := hide (leading_any _ qs w HQR.out hqe)
  have hres : behRow b l = pack (wayL l ds) := by rw [hds]; rfl
  rw [hres]
  obtain ⟨B, hBd⟩ : ∃ B, B = w.heap.size := ⟨_, rfl⟩
  have HBD := hide hBd
  rw [hqs] at HLEAD
  have hm : leadN l ≤ qs.length := by rw [hql]; exact leadN_le l
  have HWI := hide (show ∀ k, k ≤ leadN l → waySum (wayI l ds k) ≤ 1099511627776 from fun k hk => Nat.le_trans (wayI_sum hdl hk) hsum)
  have HWL := hide (wayL_I l ds hdl)
  generalize hmm : leadN l = m at *
  have hlm : (qs.take m).length = m := by simp [hm]
  have HQL := hide hql
  have HLM := hide hlm
  clear hf hB hw hqe hqs hT hds hdl hsum hres hBd v1 h hmm hql hlm
  go_enter Tryz.func170, Tryz.ntmps170
  go_wp2_with fail
  refine HLEAD.out.mono ?_
  rintro e w1 ⟨rfl, v', rfl, hlead⟩
  have HL1 := hide hlead
  obtain ⟨⟨n1, n2⟩, a1, cap1, rfl, -⟩ := hlead
  have hcap1 : (qs.take m).length ≤ cap1 := n2.cap _ _ _ rfl
  rw [HLM.out] at hcap1 n1 HL1 ⊢
  clear n2 HLEAD
  go_wp2
  have hW0 : WaW w1 B (.slice none 0 0) [] (wayI l ds 0) w1 := ⟨.nil _ _ _ _, fun f hf => by simp at hf, fun f hf => by simp at hf, rfl, Below.refl _ _⟩
  go_loopw [6, 17] (fun u c wr => ∃ (k : Nat) (fs : List (Value × List (Nat × RE))), k ≤ m ∧ c = .int .i64 k ∧ Hid (WaW w1 B u fs (wayI l ds k) wr)) (fun _ c _ => m - (intOf c).toNat)
  case atStart => exact ⟨0, [], by omega, rfl, hW0⟩
  case round =>
    clear hW0
    obtain ⟨k, fs, hk, rfl, HW⟩ := hrel
    have hbw : Below w1.heap.size w1 wr := HBD.out ▸ HW.out.below
    have hBs : B ≤ wr.heap.size := by rw [HBD.out]; exact hbw.size
    have hTW : TabAt wr := HT.out.agree (Agree.of_all (K := fun _ => True) hbw) trivial
    have hfl : fs.length = (wayI l ds k).length := by rw [← HW.out.ws]; simp
    have hfk : fs.length ≤ k := by rw [hfl]; exact wayI_len l ds k
    by_cases hlt : k < m
    · have hkd : decide (k < m) = true := by simp [hlt]
      have hkq : k < qs.length := by omega
      have hkl : k < l.length := by rw [← HQL.out]; exact hkq
      obtain ⟨-, a1', c1', e1, g1⟩ := HL1.out.below hbw
      rw [HLM.out] at e1
      obtain ⟨rfl, rfl⟩ : a1 = a1' ∧ cap1 = c1' := by injection e1 with x1 x2 x3; exact ⟨x1, x3⟩
      obtain ⟨b1, o1, rfl, -, d1⟩ := g1 k qs[k] (by rw [List.getElem?_take, if_pos hlt, List.getElem?_eq_getElem hkq])
      obtain ⟨-, a2', c2', e2, g2⟩ := HQR.out.below hbw
      obtain ⟨rfl, rfl⟩ : a0 = a2' ∧ cap0 = c2' := by injection e2 with x1 x2 x3; exact ⟨x1, x3⟩
      obtain ⟨b2, o2, rfl, -, -⟩ := g2 k qs[k] (List.getElem?_eq_getElem hkq)
      have hrp := HQE.out qs[k] (List.getElem_mem hkq)
      have hql2 : (qs[k]).2 = l[k] := by
        have h1 : (qs.map Prod.snd)[k]? = some l[k] := by rw [HQS.out]; exact List.getElem?_eq_getElem hkl
        rw [List.getElem?_map, List.getElem?_eq_getElem hkq] at h1
        simpa using h1
      rw [hql2] at hrp
      have hdk : ds.getD k ([], false) = (l[k]).beh b := by rw [HDS.out]; simp [List.getD_eq_getElem?_getD, hkl]
      have HC := hide (HBE.out l[k] (List.getElem_mem hkl) (qs[k]).1 wr (hrp.keep hbw) hTW)
      have HDK := hide hdk
      have HNX := hide (show wayI l ds (k + 1) = wayI l ds k ++ (if (ds.getD k ([], false)).2 then [(ds.getD k ([], false)).1 ++ l.drop (k + 1)] else []) from rfl)
      rw [hdk] at HNX
      have hsumk := HWI.out (k + 1) (by omega)
      have HSK := hide hsumk
      have HFL := hide hfl
      have hk63 : k + 1 ≤ 1099511627776 := by omega
      generalize (l[k]).beh b = d at *
      generalize (qs[k]).1 = p1 at *
      clear g1 g2 e1 e2 hrp hql2 hdk hTW hsumk hfl HDK
      unfold PT at d1 HC
      go_wp2_with fail
      refine HC.out.mono ?_
      rintro e w2 ⟨v2, ps2, rfl, hps2, hfine, hel, hb2⟩
      have HPS := hide hps2
      have HFINE := hide hfine
      have HEL := hide hel
      have HB2 := hide hb2
      have HBW := hide hbw
      clear hps2 hfine hel hb2 HC d1 hbw
      cases hd2 : d.2 with
      | false =>
        have HX : Hid (wayI l ds (k + 1) = wayI l ds k) := by show _ = _; rw [HNX.out, hd2]; simp
        clear HNX hd2
        go_wp2
        exact ⟨⟨k + 1, fs, by omega, by go_num, (show WaW _ _ _ _ _ _ from by rw [HX.out]; exact HW.out.step HB2.out hBs)⟩, by simp [intOf]; omega⟩
      | true =>
        have HX : Hid (wayI l ds (k + 1) = wayI l ds k ++ [d.1 ++ l.drop (k + 1)]) := by show _ = _; rw [HNX.out, hd2]; simp
        clear HNX hd2
        obtain ⟨-, av, cv, rfl, -⟩ := HFINE.out.row
        have hjl : ps2.length + (qs.drop (k + 1)).length ≤ 1099511627776 := by
          have h1 := waySum_mem (ws := wayI l ds (k + 1)) (w := d.1 ++ l.drop (k + 1)) (by rw [HX.out]; simp)
          have h2 := cntL_len (d.1 ++ l.drop (k + 1))
          have h3 := HSK.out
          have h4 : (d.1 ++ l.drop (k + 1)).length = ps2.length + (qs.drop (k + 1)).length := by
            rw [List.length_append, ← HPS.out, ← HQS.out]; simp
          omega
        have hb12 : Below w1.heap.size w1 w2 := HBW.out.trans (HB2.out.mono HBW.out.size)
        have HR1 := hide (RowAt.drop (a := none) (HQR.out.below hb12) (k := k + 1) (by omega))
        have HR2 := hide (show cap0 ≤ k + 1 → ∀ c, RowAt w2 (.slice (some ⟨b2, o2, none⟩) (qs.length - (k + 1)) c) (qs.drop (k + 1)) from fun h c => RowAt.dropAll (HQR.out.1.2.fl.mono hb12.size) (by omega) c)
        have HJL := hide hjl
        have hBs2 : wr.heap.size ≤ w2.heap.size := HB2.out.size
        have hfl1 : fs.length + 1 ≤ 1099511627776 := by omega
        clear hjl hb12
        by_cases hcc : cap0 - (k + 1) = 0
        all_goals
          go_wp2_with fail
          refine (joined_any wr.heap.size _ _ ps2 (qs.drop (k + 1)) w2 HFINE.out (by first | exact HR1.out | exact HR2.out (by omega) _) HJL.out hBs2 (HQR.out.1.2.fl.mono HBW.out.size)).mono ?_
          rintro e w3 ⟨v3, rfl, h3, hb3, hel3⟩
          obtain ⟨-, a3, c3, rfl, -⟩ := h3.row
          have hb13 : Below wr.heap.size wr w3 := HB2.out.trans hb3
          have hb4 := (Below.refl w3.heap.size w3).alloc (Nat.le_refl _) (.cells #[.slice a3 (ps2 ++ qs.drop (k + 1)).length c3] 59)
          have hs4 : B ≤ (w3.alloc (.cells #[.slice a3 (ps2 ++ qs.drop (k + 1)).length c3] 59)).heap.size := by have := hb13.size; simp; omega
          have hs3 : B ≤ w3.heap.size := by have := hb13.size; omega
          obtain ⟨u', W', hr, hW', -⟩ := ((HW.out.step hb13 hBs).step hb4 hs3).append ((h3.lower hBs).keep hb4) (fun q hq => by
            rcases List.mem_append.1 hq with hq | hq
            · exact (hel3 _ _ (HEL.out q hq)).keep hb4
            · exact ((HQE.out q (List.mem_of_mem_drop hq)).keep (HBW.out.trans (hb13.mono HBW.out.size))).keep hb4) (Blk.newAt rfl _ _) 233 hfl1 hs4
          have HWN := hide hW'
          obtain ⟨au', cu', hu', -⟩ := hW'.own.slice
          rw [show ((fs ++ [(Value.slice a3 (ps2 ++ qs.drop (k + 1)).length c3, ps2 ++ qs.drop (k + 1))]).map Prod.fst).length = fs.length + 1 from by simp] at hu'
          subst hu'
          obtain ⟨au, cu, hu, -⟩ := HW.out.own.slice
          rw [List.length_map] at hu
          subst hu
          clear h3 hb3 hel3 hb13 hb4 hW' HR1 HR2
          generalize (ps2 ++ qs.drop (k + 1)).length = nn at *
          go_wp2_with (refine wpList_append_run rfl _ _ _ rfl _ _ _ rfl rfl hr ?_)
          refine ⟨⟨k + 1, fs ++ [(Value.slice a3 nn c3, ps2 ++ qs.drop (k + 1))], by omega, by go_num, ?_⟩, by simp [intOf]; omega⟩
          show WaW _ _ _ _ _ _
          have e : (ps2 ++ qs.drop (k + 1)).map Prod.snd = d.1 ++ l.drop (k + 1) := by rw [List.map_append, HPS.out, List.map_drop, HQS.out]
          rw [HX.out, ← e]
          exact HWN.out
    · obtain rfl : k = m := by omega
      have hws : fs.map (fun f => f.2.map Prod.snd) = wayL l ds := by rw [HWL.out]; exact HW.out.ws
      have hsm : waySum (wayL l ds) ≤ 1099511627776 := by rw [HWL.out]; exact HWI.out k (Nat.le_refl _)
      have hwl : ∀ w ∈ wayL l ds, ∀ x ∈ w, Wf x := by
        refine mem_wayL l ds HWF.out ?_
        rw [HDS.out]
        intro d hd x hx
        obtain ⟨r, hr, rfl⟩ := List.mem_map.1 hd
        exact wf_beh b r (HWF.out r hr) x hx
      have hwlen : (wayL l ds).length = fs.length := by rw [← hws]; simp
      obtain ⟨au, cu, hu, hcu⟩ := HW.out.own.slice
      rw [List.length_map] at hu hcu
      subst hu
      have HWS := hide hws
      have HSM := hide hsm
      have HWFL := hide hwl
      have HWLEN := hide hwlen
      have HBW := hide hbw
      have HTW := hide hTW
      rw [HBD.out] at HW
      clear hws hsm hwl hwlen hbw hTW hfl HSUM HWI HBE
      by_cases h0 : fs.length = 0
      · have hd0 : ((fs.length : Int) == 0) = true := by simp [h0]
        have HP := hide (pack_0 (ws := wayL l ds) (by rw [HWLEN.out]; exact h0))
        clear h0
        go_wp2
        refine bodyPost_ret (v := .tuple #[.slice none 0 0, .bool false]) (by simp [results, Tryz.results170, go_sem]) rfl ?_
        rw [HP.out]
        exact ⟨.slice none 0 0, [], rfl, rfl, Fine.nil _ _ (HQR.out.1.2.fl.mono HBW.out.size), fun p hp => by simp at hp, HBW.out⟩
      · have hd0 : ((fs.length : Int) == 0) = false := beq_eq_false_iff_ne.2 (by omega)
        by_cases h1 : fs.length = 1
        · have hd1 : ((fs.length : Int) == 1) = true := by simp [h1]
          have HP := hide (pack_1 (ws := wayL l ds) (by rw [HWLEN.out]; exact h1))
          obtain ⟨f0, hf0⟩ := List.length_eq_one_iff.1 h1
          have hfine := HW.out.row f0 (by rw [hf0]; simp)
          have hel := HW.out.el f0 (by rw [hf0]; simp)
          obtain ⟨g, cp, e3, -, hg, -, hcell⟩ := HW.out.own.at (by rw [hf0]; simp)
          obtain ⟨rfl, -⟩ : au = some ⟨g, 0, none⟩ ∧ True := by injection e3 with x1 x2 x3; exact ⟨x1, trivial⟩
          have c0 := hcell 0 f0.1 (by rw [hf0]; rfl)
          obtain ⟨-, a3, c3, e4, -⟩ := hfine.row
          rw [e4] at c0 hfine
          have HF := hide hfine
          have HE := hide hel
          have HFS := hide hf0
          have hlt1 : 0 < fs.length := by omega
          clear h0 h1 hfine hel e3 hcell e4 hf0
          go_wp2
          refine bodyPost_ret (v := .tuple #[.slice a3 f0.2.length c3, .bool true]) (by simp [results, Tryz.results170, go_sem]) rfl ?_
          rw [HP.out]
          refine ⟨.slice a3 f0.2.length c3, f0.2, rfl, ?_, HF.out, HE.out, HBW.out⟩
          have := HWS.out
          rw [HFS.out] at this
          rw [← this]; rfl
        · have hd1 : ((fs.length : Int) == 1) = false := beq_eq_false_iff_ne.2 (by omega)
          have HP := hide (pack_2 (ws := wayL l ds) (by rw [HWLEN.out]; omega))
          have hfl40 : fs.length ≤ 1099511627776 := by have := HQL.out; omega
          obtain ⟨g, cp, e3, -, hg, -, hcell⟩ := HW.out.own.at (by simp; omega)
          obtain ⟨rfl, -⟩ : au = some ⟨g, 0, none⟩ ∧ True := by injection e3 with x1 x2 x3; exact ⟨x1, trivial⟩
          have hR0 : WaR (.slice (some ⟨g, 0, none⟩) fs.length cu) fs wr := ⟨⟨_, HW.out.own⟩, fun f hf => (HW.out.row f hf).row, HW.out.el⟩
          obtain ⟨w5, hw5⟩ : ∃ x, x = wr := ⟨_, rfl⟩
          subst hw5
          have hn2 : 2 ≤ fs.length := by omega
          clear h0 h1
          clear e3 hcell hg hfk
          generalize hn : fs.length = n at *
          have HNN := hide hn.symm
          clear hn
          go_wp2_with (refine wpList_make_full _ rfl _ _ _ rfl w5.heap.size _ i _ 1 Tryz.underlying59 hi hz0 hz1 .i64 .i64 _ _ n rfl rfl rfl rfl (by rw [hz2]; omega) (by unfold maxLen; omega) (Nat.le_refl _) ?_; intro w2 ho2 hg2)
          have hM0 : MkR w5 w5.heap.size w5.heap.size n [] w2 := .start ho2 hg2
          have hR2 := hR0.keep hM0.below
          clear ho2 hg2 hR0 HW
          obtain ⟨B2, hB2⟩ : ∃ B2, B2 = w5.heap.size := ⟨_, rfl⟩
          rw [← hB2] at hM0 ⊢
          have HB2 := hide hB2
          clear hB2
          go_loopw [53] (fun c wr => ∃ (k : Nat) (ps : List (Nat × RE)), k ≤ n ∧ c = .int .i64 k ∧ Hid (ps.length = k) ∧ Hid (ps.map Prod.snd = ((wayL l ds).take k).map rThen) ∧ Hid (MkR w5 B2 B2 n ps wr) ∧ Hid (WaR (.slice (some ⟨g, 0, none⟩) n cu) fs wr)) (fun c _ => n - (intOf c).toNat)
          case atStart => exact ⟨0, [], by omega, rfl, rfl, rfl, hM0, hR2⟩
          case round =>
            clear hM0 hR2
            obtain ⟨k2, ps, hk2, rfl, HL, HS, HM, HR⟩ := hrel
            have hb2 : Below w5.heap.size w5 wr := HB2.out ▸ HM.out.below
            have hB2s : B2 ≤ wr.heap.size := by rw [HB2.out]; exact hb2.size
            have hTX : TabAt wr := HTW.out.agree (Agree.of_all (K := fun _ => True) hb2) trivial
            by_cases hlt2 : k2 < n
            · have hkd2 : decide (k2 < n) = true := by simp [hlt2]
              have hk2f : k2 < fs.length := by rw [← HNN.out]; exact hlt2
              obtain ⟨base, ho⟩ := HR.out.own
              obtain ⟨g', cp', e3, -, hg', hcell⟩ := ho.cell (j := k2) (x := (fs[k2]).1) (by rw [List.getElem?_map, List.getElem?_eq_getElem hk2f]; rfl)
              obtain rfl : g = g' := by injection e3 with x1; injection x1 with x1; injection x1
              have hfm := List.getElem_mem hk2f
              have hrow := HR.out.row _ hfm
              have hres := hrow.res (HR.out.el _ hfm)
              obtain ⟨-, a3, c3, e4, -⟩ := hrow
              rw [e4] at hcell hres
              have hkw : k2 < (wayL l ds).length := by rw [HWLEN.out]; exact hlt2
              have hwk : (fs[k2]).2.map Prod.snd = (wayL l ds)[k2] := by
                have h1 : (fs.map (fun f => f.2.map Prod.snd))[k2]? = some (wayL l ds)[k2] := by rw [HWS.out]; exact List.getElem?_eq_getElem hkw
                rw [List.getElem?_map, List.getElem?_eq_getElem hk2f] at h1
                simpa using h1
              have hmem := List.getElem_mem hkw
              have hsw := waySum_mem hmem
              have hwfw := HWFL.out _ hmem
              have hln := congrArg List.length hwk
              rw [List.length_map] at hln
              have hsum2 := HSM.out
              rw [hwk] at hres
              have HTK := hide (show (wayL l ds).take (k2 + 1) = (wayL l ds).take k2 ++ [(wayL l ds)[k2]] from List.take_succ_eq_append_getElem hkw)
              generalize (wayL l ds)[k2] = way at *
              have HC := hide (then_any way _ wr hres hwfw (by have := cntL_len way; omega) (by have := cntL_len (catL way); have := cntL_catL way; omega))
              generalize (fs[k2]).2.length = fl at *
              clear ho hg' e3 hfm e4 hres hwk hmem hsw hwfw hln hsum2 hTX
              go_wp2_with fail
              refine HC.out.mono ?_
              rintro e w3 ⟨c, rfl, h1, h2⟩
              have hM3 := HM.out.step h2 hB2s
              have hln : ps.length < n := by rw [HL.out]; exact hlt2
              obtain ⟨cK, fK⟩ := hM3.cell hln
              rw [HL.out] at cK fK
              have HST := hide (hM3.store h1 hln)
              have HR3 := hide ((HR.out.keep h2).app (hM3.grows (b := c) hln))
              rw [HL.out] at HST HR3
              clear h1 h2 hM3 HC hcell hln
              unfold PT
              go_wp2
              refine ⟨⟨k2 + 1, ps ++ [(c, rThen way)], by omega, by go_num, ?_, ?_, HST.out, HR3.out⟩, by simp [intOf]; omega⟩
              · show (ps ++ [_]).length = k2 + 1
                rw [List.length_append, HL.out]; rfl
              · show (ps ++ [_]).map Prod.snd = _
                rw [HTK.out, List.map_append, List.map_append, HS.out]; rfl
            · obtain rfl : k2 = n := by omega
              have hS := HS.out
              rw [← HWLEN.out, List.take_length] at hS
              have hrow := (HM.out.row (HQR.out.1.2.fl.mono (by rw [HB2.out]; exact HBW.out.size)) HL.out (by omega)).res HM.out.el
              rw [hS] at hrow
              have hwf : ∀ r ∈ (wayL l ds).map rThen, Wf r := fun r hr => by
                obtain ⟨x, hx, rfl⟩ := List.mem_map.1 hr
                exact wf_then (HWFL.out x hx)
              have hsum2 := HSM.out
              have hct := cntL_then_map (wayL l ds)
              have HC := hide (any_re ((wayL l ds).map rThen) _ wr hrow hwf (by have := cntL_len ((wayL l ds).map rThen); omega) (by have := cntL_len (flatL 4 ((wayL l ds).map rThen)); have := cntL_flatL 4 ((wayL l ds).map rThen); omega) hTX)
              generalize rAny ((wayL l ds).map rThen) = x at *
              clear hS hrow hwf hsum2 hct hTX HS
              go_wp2_with fail
              refine HC.out.mono ?_
              rintro e w3 ⟨c, rfl, h1, h2⟩
              have HX := hide h1
              have HB3 := hide (HBW.out.trans ((hb2.trans (h2.mono hb2.size)).mono HBW.out.size))
              clear h1 h2 HC
              unfold PT
              go_wp2
              refine bodyPost_ret (v := .tuple #[.slice (some ⟨w3.heap.size, 0, none⟩) 1 1, .bool true]) (by simp [results, Tryz.results170, go_sem]) rfl ?_
              rw [HP.out]
              have hb4 := (Below.refl w3.heap.size w3).alloc (Nat.le_refl _) (.cells #[PT c] 30)
              have hBK := Blk.newAt (w := w3) rfl #[PT c] 30
              have hrow : RowAt (w3.alloc (.cells #[PT c] 30)) (.slice (some ⟨w3.heap.size, 0, none⟩) 1 1) [(c, x)] := by
                refine ⟨⟨by simp, .new (Nat.le_refl _) (HX.out.keep hb4).fl HX.out.fl (Nat.le_refl _)⟩, some ⟨w3.heap.size, 0, none⟩, 1, rfl, fun j q hq => ⟨w3.heap.size, 0, rfl, by simp, ?_⟩⟩
                obtain rfl : j = 0 := by
                  have := (List.getElem?_eq_some_iff.1 hq).1
                  simp at this; exact this
                simp at hq; subst hq
                exact hBK.cell 0
              refine ⟨.slice (some ⟨w3.heap.size, 0, none⟩) 1 1, [(c, x)], rfl, rfl, ⟨hrow, .inl ⟨_, rfl⟩⟩, fun q hq => ?_, HB3.out.trans (hb4.mono HB3.out.size)⟩
              simp at hq; subst hq; exact HX.out.keep hb4
end Go.Proofs.YtjcfnmjjkadaeaaGreatDoor
