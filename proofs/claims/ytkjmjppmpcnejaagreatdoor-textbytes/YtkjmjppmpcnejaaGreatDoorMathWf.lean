/- What the calls make is in the settled form, and not much greater than what went in. -/
import Derived.Test.YtkjmjppmpcnejaaGreatDoorReO
namespace Go.Proofs.YtkjmjppmpcnejaaGreatDoor
set_option maxRecDepth 100000
set_option linter.unusedSimpArgs false
set_option linter.unusedVariables false
open Go.RowKit

def RE.cnt : RE → Nat
  | .mk _ _ ks => 1 + (ks.map fun k => k.cnt).sum
def cntL (l : List RE) : Nat := (l.map RE.cnt).sum
theorem RE.cnt_mk (o : Nat) (s : BitVec 256) (ks : List RE) : (RE.mk o s ks).cnt = 1 + cntL ks := by rw [RE.cnt, cntL]
theorem RE.cnt_kids (r : RE) : r.cnt = 1 + cntL r.kids := by cases r; exact RE.cnt_mk _ _ _
theorem cntL_cons (x : RE) (l : List RE) : cntL (x :: l) = x.cnt + cntL l := by simp [cntL]
theorem cntL_append (a b : List RE) : cntL (a ++ b) = cntL a + cntL b := by simp [cntL]
theorem cntL_len (l : List RE) : l.length ≤ cntL l := by
  induction l with
  | nil => simp [cntL]
  | cons x l ih => rw [cntL_cons, RE.cnt_kids]; simp; omega
theorem cntL_flatMap (f : RE → List RE) (hf : ∀ r, cntL (f r) ≤ r.cnt) (l : List RE) : cntL (l.flatMap f) ≤ cntL l := by
  induction l with
  | nil => simp [cntL]
  | cons x l ih => rw [List.flatMap_cons, cntL_append, cntL_cons]; have := hf x; omega
theorem cntL_catL (l : List RE) : cntL (catL l) ≤ cntL l := cntL_flatMap _ (fun r => by
  have := r.cnt_kids
  unfold catK
  split
  · simp [cntL]
  · split
    · omega
    · rw [cntL_cons]; simp [cntL]) l
theorem cntL_flatL (o : Nat) (l : List RE) : cntL (flatL o l) ≤ cntL l := cntL_flatMap _ (fun r => by
  have := r.cnt_kids
  split
  · omega
  · rw [cntL_cons]; simp [cntL]) l
theorem cntL_filter (p : RE → Bool) (l : List RE) : cntL (l.filter p) ≤ cntL l := by
  induction l with
  | nil => simp
  | cons x l ih =>
    rw [List.filter_cons, cntL_cons]
    split
    · rw [cntL_cons]; omega
    · omega
theorem cntL_insK (x : RE) (l : List RE) : cntL (insK x l) ≤ x.cnt + cntL l := by
  induction l with
  | nil => simp [insK, cntL]
  | cons y l ih =>
    simp only [insK]
    split
    · simp only [cntL_cons]; omega
    · split
      · simp only [cntL_cons]; omega
      · simp only [cntL_cons]; omega
theorem cntL_ordL (l : List RE) : cntL (ordL l) ≤ cntL l := by
  induction l with
  | nil => simp [ordL]
  | cons x l ih =>
    have := cntL_insK x (ordL l)
    rw [cntL_cons]
    have e : ordL (x :: l) = insK x (ordL l) := rfl
    rw [e]; omega
theorem cnt_join (o : Nat) (l : List RE) : (rJoin o l).cnt ≤ 1 + cntL l := by
  unfold rJoin
  split
  · simp [cntL]
  · rw [RE.cnt_mk]; omega
theorem cnt_nothing : rNothing.cnt = 1 := by rw [RE.cnt_kids]; rfl
theorem cnt_empty : rEmpty.cnt = 1 := by rw [RE.cnt_kids]; rfl
theorem cnt_one (s : BitVec 256) : (rOne s).cnt = 1 := by rw [RE.cnt_kids, rOne_kids]; rfl
theorem cnt_then (l : List RE) : (rThen l).cnt ≤ 1 + cntL l := by
  unfold rThen
  split
  · rw [cnt_nothing]; omega
  · split
    · rw [cnt_empty]; omega
    · have h1 := cnt_join 3 (catL l); have h2 := cntL_catL l; omega
theorem cnt_any (l : List RE) : (rAny l).cnt ≤ 2 + cntL l := by
  unfold rAny
  simp only
  generalize hk : (orKeep (flatL 4 l) ++ if orSet (flatL 4 l) = 0#256 then [] else [rOne (orSet (flatL 4 l))]) = ks
  split
  · rw [cnt_nothing]; omega
  · have h1 := cnt_join 4 (ordL ks)
    have h2 := cntL_ordL ks
    have h3 := cntL_filter (fun r => !(r.op == 0) && !(r.op == 2)) (flatL 4 l)
    have h4 := cntL_flatL 4 l
    have h5 : cntL ks ≤ cntL (orKeep (flatL 4 l)) + 1 := by
      rw [← hk, cntL_append]
      split
      · simp [cntL]
      · simp [cntL, cnt_one]
    unfold orKeep at h5
    omega
theorem cnt_many (r : RE) : (rMany r).cnt ≤ 1 + r.cnt := by
  unfold rMany
  split
  · rw [cnt_empty]; omega
  · split
    · omega
    · rw [RE.cnt_mk]; simp [cntL]
theorem cnt_both (l : List RE) : (rBoth l).cnt ≤ 2 + cntL l := by
  unfold rBoth
  simp only
  split
  · rw [cnt_nothing]; omega
  · split
    · rw [cnt_nothing]; omega
    · generalize hk : (orKeep (flatL 6 l) ++ if met (flatL 6 l) = true then [rOne (andSet (flatL 6 l))] else []) = ks
      split
      · have := cnt_many (rOne allB); rw [cnt_one] at this; omega
      · have h1 := cnt_join 6 (ordL ks)
        have h2 := cntL_ordL ks
        have h3 := cntL_filter (fun r => !(r.op == 0) && !(r.op == 2)) (flatL 6 l)
        have h4 := cntL_flatL 6 l
        have h5 : cntL ks ≤ cntL (orKeep (flatL 6 l)) + 1 := by
          rw [← hk, cntL_append]
          split
          · simp [cntL, cnt_one]
          · simp [cntL]
        unfold orKeep at h5
        omega
theorem cnt_but (a b : RE) : (rBut a b).cnt ≤ 1 + a.cnt + b.cnt := by
  unfold rBut
  split
  · omega
  · split
    · rw [cnt_one]; omega
    · split
      · rw [cnt_nothing]; omega
      · rw [RE.cnt_mk]; simp [cntL]; omega
theorem cnt_word (t : List Nat) : (rWord t).cnt ≤ 1 + t.length := by
  have h := cnt_then (t.map rLetter)
  have key : ∀ t : List Nat, cntL (t.map rLetter) = t.length := fun t => by
    induction t with
    | nil => rfl
    | cons x t ih => rw [List.map_cons, cntL_cons, show (rLetter x).cnt = 1 from cnt_one _, ih, List.length_cons]; omega
  have := key t
  unfold rWord; omega

theorem wf_catL {l : List RE} (hw : ∀ r ∈ l, Wf r) (h0 : l.any (fun r => r.op == 0) = false) : ∀ k ∈ catL l, Wf k ∧ k.op ≠ 0 ∧ k.op ≠ 1 ∧ k.op ≠ 3 := by
  intro k hk
  obtain ⟨r, hr, hk⟩ := List.mem_flatMap.1 hk
  have hr0 : r.op ≠ 0 := fun e => by
    have := List.any_eq_false.1 h0 r hr
    simp [e] at this
  unfold catK at hk
  split at hk
  · simp at hk
  · split at hk
    · rename_i h3
      have h := ((hw r hr).shp.cat h3).2 k hk
      exact ⟨(hw r hr).kid k hk, h⟩
    · simp at hk; subst hk
      exact ⟨hw _ hr, hr0, by assumption, by assumption⟩
theorem wf_then {l : List RE} (hw : ∀ r ∈ l, Wf r) : Wf (rThen l) := by
  unfold rThen
  split
  · exact wf_nothing
  · rename_i h0
    have hc := wf_catL hw (by simpa using h0)
    split
    · exact wf_empty
    · rename_i hne
      by_cases h1 : (catL l).length = 1
      · match hl : catL l, h1 with
        | [x], _ => exact (hc x (by rw [hl]; simp)).1
      · rw [rJoin_more 3 _ h1]
        have h2 : 2 ≤ (catL l).length := by
          have := List.length_pos_iff.2 hne
          omega
        exact .mk _ _ _ (fun k hk => (hc k hk).1) ⟨by omega, fun _ => rfl, by omega, by omega, fun _ => ⟨h2, fun k hk => (hc k hk).2⟩, by omega, by omega, by omega⟩
/-- The heart of Any and Both. -/
theorem wf_ord {o : Nat} (ho : o = 4 ∨ o = 6) {ks : List RE} {c : BitVec 256} (hw : ∀ k ∈ ks, Wf k ∧ k.op ≠ 0 ∧ k.op ≠ o ∧ (k.op = 2 → k = rOne c)) (hne : ks ≠ []) : Wf (rJoin o (ordL ks)) := by
  obtain ⟨h1, h2⟩ := ordL_spec ks (fun y hy => (hw y hy).1.k)
  have hw' : ∀ k ∈ ordL ks, Wf k ∧ k.op ≠ 0 ∧ k.op ≠ o ∧ (k.op = 2 → k = rOne c) := fun k hk => hw k ((h2 k).1 hk)
  have hne' : ordL ks ≠ [] := fun e => by
    obtain ⟨x, hx⟩ := List.exists_mem_of_ne_nil ks hne
    have := (h2 x).2 hx
    rw [e] at this; simp at this
  by_cases hl : (ordL ks).length = 1
  · match hk : ordL ks, hl with
    | [x], _ => exact (hw' x (by rw [hk]; simp)).1
  · rw [rJoin_more o _ hl]
    have hl2 : 2 ≤ (ordL ks).length := by
      have := List.length_pos_iff.2 hne'
      omega
    have hcl : ((ordL ks).filter fun k => k.op == 2).length ≤ 1 := by
      have hp := h1.filter (fun k => k.op == 2)
      match hf : (ordL ks).filter (fun k => k.op == 2) with
      | [] => rw [hf]; simp
      | [x] => rw [hf]; simp
      | x :: y :: r =>
        exfalso
        rw [hf] at hp
        have hxy := (List.pairwise_cons.1 hp).1 y (by simp)
        have hx : x ∈ (ordL ks).filter (fun k => k.op == 2) := by rw [hf]; simp
        have hy : y ∈ (ordL ks).filter (fun k => k.op == 2) := by rw [hf]; simp
        have ex := (hw' x (List.mem_filter.1 hx).1).2.2.2 (by simpa using (List.mem_filter.1 hx).2)
        have ey := (hw' y (List.mem_filter.1 hy).1).2.2.2 (by simpa using (List.mem_filter.1 hy).2)
        rw [ex, ey] at hxy
        exact ltK_irrefl hxy
    exact .mk _ _ _ (fun k hk => (hw' k hk).1) ⟨by omega, fun _ => rfl, by omega, by omega, by omega, fun _ => ⟨hl2, fun k hk => ⟨(hw' k hk).2.1, (hw' k hk).2.2.1⟩, h1, hcl⟩, by omega, by omega⟩
theorem wf_flatL {o : Nat} (ho : o = 4 ∨ o = 6) {l : List RE} (hw : ∀ r ∈ l, Wf r) : ∀ k ∈ flatL o l, Wf k ∧ k.op ≠ o := by
  intro k hk
  obtain ⟨r, hr, hk⟩ := List.mem_flatMap.1 hk
  split at hk
  · rename_i h3
    have h := ((hw r hr).shp.or (by omega)).2.1 k hk
    exact ⟨(hw r hr).kid k hk, by rw [h3] at h; exact h.2⟩
  · simp at hk; subst hk
    exact ⟨hw _ hr, by assumption⟩
theorem one_op (c : BitVec 256) (h : c ≠ 0#256) : (rOne c).op = 2 := by unfold rOne; rw [if_neg h]; rfl
theorem wf_keepL {o : Nat} (ho : o = 4 ∨ o = 6) {l : List RE} (hw : ∀ r ∈ l, Wf r) (c : BitVec 256) : ∀ k ∈ orKeep (flatL o l), Wf k ∧ k.op ≠ 0 ∧ k.op ≠ o ∧ (k.op = 2 → k = rOne c) := by
  intro k hk
  obtain ⟨h1, h2⟩ := List.mem_filter.1 hk
  obtain ⟨h3, h4⟩ := wf_flatL ho hw k h1
  simp at h2
  exact ⟨h3, h2.1, h4, fun e => absurd e h2.2⟩
theorem wf_any {l : List RE} (hw : ∀ r ∈ l, Wf r) : Wf (rAny l) := by
  unfold rAny
  simp only
  generalize hks : (orKeep (flatL 4 l) ++ if orSet (flatL 4 l) = 0#256 then [] else [rOne (orSet (flatL 4 l))]) = ks
  split
  · exact wf_nothing
  · rename_i hne
    refine wf_ord (.inl rfl) (c := orSet (flatL 4 l)) (fun k hk => ?_) hne
    rw [← hks] at hk
    rcases List.mem_append.1 hk with hk | hk
    · exact wf_keepL (.inl rfl) hw _ k hk
    · split at hk
      · simp at hk
      · rename_i hc
        simp at hk; subst hk
        have := one_op _ hc
        exact ⟨wf_one _, by omega, by omega, fun _ => rfl⟩
theorem wf_many {r : RE} (hw : Wf r) : Wf (rMany r) := by
  unfold rMany
  split
  · exact wf_empty
  · split
    · exact hw
    · rename_i h1 h2
      exact .mk _ _ _ (fun k hk => by simp at hk; subst hk; exact hw) ⟨by omega, fun _ => rfl, by omega, by omega, by omega, by omega, fun _ => ⟨r, rfl, by omega, by omega, h2⟩, by omega⟩
theorem wf_both {l : List RE} (hw : ∀ r ∈ l, Wf r) : Wf (rBoth l) := by
  unfold rBoth
  simp only
  split
  · exact wf_nothing
  · split
    · exact wf_nothing
    · rename_i h0 hc
      generalize hks : (orKeep (flatL 6 l) ++ if met (flatL 6 l) = true then [rOne (andSet (flatL 6 l))] else []) = ks
      split
      · exact wf_many (wf_one _)
      · rename_i hne
        refine wf_ord (.inr rfl) (c := andSet (flatL 6 l)) (fun k hk => ?_) hne
        rw [← hks] at hk
        rcases List.mem_append.1 hk with hk | hk
        · exact wf_keepL (.inr rfl) hw _ k hk
        · split at hk
          · simp at hk; subst hk
            have := one_op _ hc
            exact ⟨wf_one _, by omega, by omega, fun _ => rfl⟩
          · simp at hk
theorem wf_but {a b : RE} (ha : Wf a) (hb : Wf b) : Wf (rBut a b) := by
  unfold rBut
  split
  · exact ha
  · split
    · exact wf_one _
    · split
      · exact wf_nothing
      · rename_i h1 h2 h3
        exact .mk _ _ _ (fun k hk => by simp at hk; rcases hk with rfl | rfl; exact ha; exact hb) ⟨by omega, fun _ => rfl, by omega, by omega, by omega, by omega, by omega, fun _ => ⟨a, b, rfl, by omega, by omega, fun e => h3 (by rw [e]; exact lexN_self _), h2⟩⟩
theorem wf_word (t : List Nat) : Wf (rWord t) := wf_then fun r hr => by
  obtain ⟨x, -, rfl⟩ := List.mem_map.1 hr
  exact wf_one _
end Go.Proofs.YtkjmjppmpcnejaaGreatDoor
