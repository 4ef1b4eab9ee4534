/- An expression in the settled form, with its own kids, is itself. -/
import Derived.Test.YtkjmjppmpcnejaaDoorMathWf
namespace Go.Proofs.YtkjmjppmpcnejaaDoor
set_option maxRecDepth 100000
set_option linter.unusedSimpArgs false
set_option linter.unusedVariables false
open Go.RowKit

theorem flatL_same {o : Nat} {l : List RE} (h : ∀ k ∈ l, k.op ≠ o) : flatL o l = l := by
  induction l with
  | nil => rfl
  | cons x l ih =>
    have hx := h x (by simp)
    have hl := ih fun k hk => h k (by simp [hk])
    unfold flatL at *
    rw [List.flatMap_cons, if_neg hx, hl]; rfl
theorem catL_same {l : List RE} (h : ∀ k ∈ l, k.op ≠ 1 ∧ k.op ≠ 3) : catL l = l := by
  induction l with
  | nil => rfl
  | cons x l ih =>
    have hx := h x (by simp)
    have hl := ih fun k hk => h k (by simp [hk])
    unfold catL at *
    rw [List.flatMap_cons, hl]
    unfold catK
    rw [if_neg hx.1, if_neg hx.2]; rfl
theorem rOne_set (c : BitVec 256) (h : c ≠ 0#256) : rOne c = .mk 2 c [] := by unfold rOne; rw [if_neg h]
theorem wf_class {r : RE} (hw : Wf r) (h : r.op = 2) : r = rOne r.set ∧ r.set ≠ 0#256 := by
  obtain ⟨h1, h2⟩ := hw.shp.cls h
  refine ⟨?_, h2⟩
  rw [rOne_set _ h2, ← h, ← h1]; exact r.eta
/-- At most one Class: what is gathered of them. -/
theorem orSet_one {l : List RE} : (∀ k ∈ l, k.op ≠ 2) → ∀ s, l.foldl (fun s r => if r.op = 2 then s ||| r.set else s) s = s := by
  induction l with
  | nil => intro _ s; rfl
  | cons x l ih =>
    intro h s
    rw [List.foldl_cons, if_neg (h x (by simp))]
    exact ih (fun k hk => h k (by simp [hk])) s
theorem andSet_one {l : List RE} : (∀ k ∈ l, k.op ≠ 2) → ∀ s, l.foldl (fun s r => if r.op = 2 then s &&& r.set else s) s = s := by
  induction l with
  | nil => intro _ s; rfl
  | cons x l ih =>
    intro h s
    rw [List.foldl_cons, if_neg (h x (by simp))]
    exact ih (fun k hk => h k (by simp [hk])) s
/-- A list with one Class at most, apart. -/
theorem one_class {l : List RE} (hc : (l.filter fun k => k.op == 2).length ≤ 1) : (∀ k ∈ l, k.op ≠ 2) ∨ ∃ a x b, l = a ++ x :: b ∧ x.op = 2 ∧ (∀ k ∈ a, k.op ≠ 2) ∧ ∀ k ∈ b, k.op ≠ 2 := by
  induction l with
  | nil => left; simp
  | cons x l ih =>
    by_cases hx : x.op = 2
    · right
      refine ⟨[], x, l, rfl, hx, by simp, fun k hk e => ?_⟩
      rw [List.filter_cons, if_pos (by simp [hx])] at hc
      have : k ∈ l.filter (fun k => k.op == 2) := List.mem_filter.2 ⟨hk, by simp [e]⟩
      have := List.length_pos_of_mem this
      rw [List.length_cons] at hc
      omega
    · rw [List.filter_cons, if_neg (by simp [hx])] at hc
      rcases ih hc with h | ⟨a, y, b, rfl, h1, h2, h3⟩
      · left
        intro k hk
        rcases List.mem_cons.1 hk with rfl | hk
        · exact hx
        · exact h k hk
      · right
        refine ⟨x :: a, y, b, rfl, h1, fun k hk => ?_, h3⟩
        rcases List.mem_cons.1 hk with rfl | hk
        · exact hx
        · exact h2 k hk
theorem mem_orKeep {l : List RE} (h0 : ∀ k ∈ l, k.op ≠ 0) (r : RE) : r ∈ orKeep l ↔ r ∈ l ∧ r.op ≠ 2 := by
  unfold orKeep
  rw [List.mem_filter]
  constructor
  · rintro ⟨h1, h2⟩; simp at h2; exact ⟨h1, h2.2⟩
  · rintro ⟨h1, h2⟩; exact ⟨h1, by simp [h0 r h1, h2]⟩
theorem any_same {r : RE} (hw : Wf r) (h4 : r.op = 4) : rAny r.kids = r := by
  obtain ⟨h2, hk, hup, hc⟩ := hw.shp.or (.inl h4)
  have hset := hw.shp.set (by omega)
  have hkw := hw.kid
  have hf : flatL 4 r.kids = r.kids := flatL_same fun k hk' => by have := (hk k hk').2; rwa [h4] at this
  have h0 : ∀ k ∈ r.kids, k.op ≠ 0 := fun k hk' => (hk k hk').1
  have key : ∀ ks, (∀ x, x ∈ ks ↔ x ∈ r.kids) → (∀ x ∈ ks, WfK x) → ordL ks = r.kids := fun ks h1 h3 => (ordL_eq h3 hup fun x => (h1 x).symm).symm
  have hne : r.kids ≠ [] := fun e => by rw [e] at h2; simp at h2
  have fin : ∀ ks, (∀ x, x ∈ ks ↔ x ∈ r.kids) → (∀ x ∈ ks, WfK x) → (if ks = [] then rNothing else rJoin 4 (ordL ks)) = r := fun ks h1 h3 => by
    rw [if_neg (fun e => hne (List.eq_nil_iff_forall_not_mem.2 fun x hx => by have := (h1 x).2 hx; rw [e] at this; simp at this)), key ks h1 h3, rJoin_more _ _ (by omega)]
    rw [← hset, ← h4]; exact r.eta.symm
  unfold rAny
  simp only [hf]
  rcases one_class hc with hn | ⟨a, x, b, e, hx, ha, hb⟩
  · have hs : orSet r.kids = 0#256 := orSet_one hn _
    rw [if_pos hs, List.append_nil]
    refine fin _ (fun y => ?_) (fun y hy => (hkw y ((mem_orKeep h0 y).1 hy).1).k)
    rw [mem_orKeep h0]
    exact ⟨fun h => h.1, fun h => ⟨h, hn y h⟩⟩
  · have hxm : x ∈ r.kids := by rw [e]; simp
    obtain ⟨hx1, hx2⟩ := wf_class (hkw x hxm) hx
    have hs : orSet r.kids = x.set := by
      unfold orSet
      rw [e, List.foldl_append, orSet_one ha, List.foldl_cons, if_pos hx, orSet_one hb]; simp
    rw [hs, if_neg hx2, ← hx1]
    have hm : ∀ y, y ∈ orKeep r.kids ++ [x] ↔ y ∈ r.kids := fun y => by
      rw [List.mem_append, mem_orKeep h0]
      constructor
      · rintro (h | h)
        · exact h.1
        · simp at h; subst h; exact hxm
      · intro h
        by_cases hy : y.op = 2
        · right
          rw [e] at h
          rcases List.mem_append.1 h with h | h
          · exact absurd hy (ha y h)
          · rcases List.mem_cons.1 h with rfl | h
            · simp
            · exact absurd hy (hb y h)
        · exact .inl ⟨h, hy⟩
    exact fin _ hm (fun y hy => (hkw y ((hm y).1 hy)).k)
theorem both_same {r : RE} (hw : Wf r) (h6 : r.op = 6) : rBoth r.kids = r := by
  obtain ⟨h2, hk, hup, hc⟩ := hw.shp.or (.inr h6)
  have hset := hw.shp.set (by omega)
  have hkw := hw.kid
  have hf : flatL 6 r.kids = r.kids := flatL_same fun k hk' => by have := (hk k hk').2; rwa [h6] at this
  have h0 : ∀ k ∈ r.kids, k.op ≠ 0 := fun k hk' => (hk k hk').1
  have hany : r.kids.any (fun r => r.op == 0) = false := List.any_eq_false.2 fun k hk' => by simp [h0 k hk']
  have key : ∀ ks, (∀ x, x ∈ ks ↔ x ∈ r.kids) → (∀ x ∈ ks, WfK x) → ordL ks = r.kids := fun ks h1 h3 => (ordL_eq h3 hup fun x => (h1 x).symm).symm
  have hne : r.kids ≠ [] := fun e => by rw [e] at h2; simp at h2
  have fin : ∀ ks, (∀ x, x ∈ ks ↔ x ∈ r.kids) → (∀ x ∈ ks, WfK x) → (if ks = [] then rMany (rOne allB) else rJoin 6 (ordL ks)) = r := fun ks h1 h3 => by
    rw [if_neg (fun e => hne (List.eq_nil_iff_forall_not_mem.2 fun x hx => by have := (h1 x).2 hx; rw [e] at this; simp at this)), key ks h1 h3, rJoin_more _ _ (by omega)]
    rw [← hset, ← h6]; exact r.eta.symm
  unfold rBoth
  simp only [hf]
  rw [if_neg (by rw [hany]; simp)]
  rcases one_class hc with hn | ⟨a, x, b, e, hx, ha, hb⟩
  · have hs : andSet r.kids = allB := andSet_one hn _
    have hm : met r.kids = false := List.any_eq_false.2 fun k hk' => by simp [hn k hk']
    rw [hs, if_neg (by decide +kernel), hm]
    simp only [Bool.false_eq_true, if_false, List.append_nil]
    refine fin _ (fun y => ?_) (fun y hy => (hkw y ((mem_orKeep h0 y).1 hy).1).k)
    rw [mem_orKeep h0]
    exact ⟨fun h => h.1, fun h => ⟨h, hn y h⟩⟩
  · have hxm : x ∈ r.kids := by rw [e]; simp
    obtain ⟨hx1, hx2⟩ := wf_class (hkw x hxm) hx
    have hs : andSet r.kids = x.set := by
      unfold andSet
      rw [e, List.foldl_append, andSet_one ha, List.foldl_cons, if_pos hx, andSet_one hb]
      have : allB = BitVec.allOnes 256 := by decide +kernel
      rw [this, BitVec.allOnes_and]
    have hm' : met r.kids = true := List.any_eq_true.2 ⟨x, hxm, by simp [hx]⟩
    rw [hs, if_neg hx2, hm', if_pos rfl, ← hx1]
    have hm : ∀ y, y ∈ orKeep r.kids ++ [x] ↔ y ∈ r.kids := fun y => by
      rw [List.mem_append, mem_orKeep h0]
      constructor
      · rintro (h | h)
        · exact h.1
        · simp at h; subst h; exact hxm
      · intro h
        by_cases hy : y.op = 2
        · right
          rw [e] at h
          rcases List.mem_append.1 h with h | h
          · exact absurd hy (ha y h)
          · rcases List.mem_cons.1 h with rfl | h
            · simp
            · exact absurd hy (hb y h)
        · exact .inl ⟨h, hy⟩
    exact fin _ hm (fun y hy => (hkw y ((hm y).1 hy)).k)
theorem with_same {r : RE} (hw : Wf r) : rWith r r.kids = r := by
  have hs := hw.shp
  unfold rWith
  split
  · rename_i h3
    obtain ⟨h2, hk⟩ := hs.cat h3
    unfold rThen
    rw [if_neg (by
      rw [List.any_eq_true]
      rintro ⟨k, hk', e⟩
      exact (hk k hk').1 (by simpa using e)), catL_same (fun k hk' => (hk k hk').2), if_neg (fun e => by rw [e] at h2; simp at h2), rJoin_more _ _ (by omega)]
    rw [← hs.set (by omega), ← h3]; exact r.eta.symm
  · split
    · exact any_same hw (by assumption)
    · split
      · exact both_same hw (by assumption)
      · split
        · rename_i h5
          obtain ⟨k, hk, h1, h2, h3⟩ := hs.star h5.1
          rw [hk]
          show rMany k = r
          unfold rMany
          rw [if_neg (by omega), if_neg h3, ← hk, ← hs.set (by omega), ← h5.1]; exact r.eta.symm
        · split
          · rename_i h7
            obtain ⟨a, b, hk, h1, h2, h3, h4⟩ := hs.minus h7.1
            have ha := (hw.kid a (by rw [hk]; simp)).k
            have hb := (hw.kid b (by rw [hk]; simp)).k
            rw [hk]
            show rBut a b = r
            unfold rBut
            rw [if_neg (by omega), if_neg h4, if_neg (fun e => h3 (key_inj ha hb (lexN_zero _ _ e))), ← hk, ← hs.set (by omega), ← h7.1]; exact r.eta.symm
          · rfl
theorem wf_with {r : RE} (hw : Wf r) {l : List RE} (hl : ∀ x ∈ l, Wf x) : Wf (rWith r l) := by
  have hg : ∀ i, Wf (l.getD i rNothing) := fun i => by
    by_cases hi : i < l.length
    · rw [show l.getD i rNothing = l[i] from by simp [List.getD_eq_getElem?_getD, hi]]; exact hl _ (List.getElem_mem hi)
    · rw [show l.getD i rNothing = rNothing from by simp [List.getD_eq_getElem?_getD, hi]]; exact wf_nothing
  unfold rWith
  split
  · exact wf_then hl
  · split
    · exact wf_any hl
    · split
      · exact wf_both hl
      · split
        · exact wf_many (hg 0)
        · split
          · exact wf_but (hg 0) (hg 1)
          · exact hw
end Go.Proofs.YtkjmjppmpcnejaaDoor
