/- Texts of this claim put together: MathSame, LawReWiths, MathTurn, Flow, FlowR, LawReOrders. -/
import Derived.Test.YtkjmjppmpcnejaaDoorMathWf
import Derived.Test.YtkjmjppmpcnejaaDoorShF
import Derived.OrdersHeld
import Derived.WalkKit
import Derived.Test.YtkjmjppmpcnejaaDoorReJ
/- An expression in the settled form, with its own kids, is itself. -/
namespace Go.Proofs.YtkjmjppmpcnejaaDoor
set_option maxRecDepth 100000
set_option linter.unusedSimpArgs false
set_option linter.unusedVariables false
open Go.RowKit

theorem flatL_same {o : Nat} {l : List RE} (h : ∀ k ∈ l, k.op ≠ o) : flatL o l = l := by
  induction l with
  | nil => rfl
  | cons x l ih =>
    have hx := h x (by simp)
    have hl := ih fun k hk => h k (by simp [hk])
    unfold flatL at *
    rw [List.flatMap_cons, if_neg hx, hl]; rfl
theorem catL_same {l : List RE} (h : ∀ k ∈ l, k.op ≠ 1 ∧ k.op ≠ 3) : catL l = l := by
  induction l with
  | nil => rfl
  | cons x l ih =>
    have hx := h x (by simp)
    have hl := ih fun k hk => h k (by simp [hk])
    unfold catL at *
    rw [List.flatMap_cons, hl]
    unfold catK
    rw [if_neg hx.1, if_neg hx.2]; rfl
theorem rOne_set (c : BitVec 256) (h : c ≠ 0#256) : rOne c = .mk 2 c [] := by unfold rOne; rw [if_neg h]
theorem wf_class {r : RE} (hw : Wf r) (h : r.op = 2) : r = rOne r.set ∧ r.set ≠ 0#256 := by
  obtain ⟨h1, h2⟩ := hw.shp.cls h
  refine ⟨?_, h2⟩
  rw [rOne_set _ h2, ← h, ← h1]; exact r.eta
/-- At most one Class: what is gathered of them. -/
theorem orSet_one {l : List RE} : (∀ k ∈ l, k.op ≠ 2) → ∀ s, l.foldl (fun s r => if r.op = 2 then s ||| r.set else s) s = s := by
  induction l with
  | nil => intro _ s; rfl
  | cons x l ih =>
    intro h s
    rw [List.foldl_cons, if_neg (h x (by simp))]
    exact ih (fun k hk => h k (by simp [hk])) s
theorem andSet_one {l : List RE} : (∀ k ∈ l, k.op ≠ 2) → ∀ s, l.foldl (fun s r => if r.op = 2 then s &&& r.set else s) s = s := by
  induction l with
  | nil => intro _ s; rfl
  | cons x l ih =>
    intro h s
    rw [List.foldl_cons, if_neg (h x (by simp))]
    exact ih (fun k hk => h k (by simp [hk])) s
/-- A list with one Class at most, apart. -/
theorem one_class {l : List RE} (hc : (l.filter fun k => k.op == 2).length ≤ 1) : (∀ k ∈ l, k.op ≠ 2) ∨ ∃ a x b, l = a ++ x :: b ∧ x.op = 2 ∧ (∀ k ∈ a, k.op ≠ 2) ∧ ∀ k ∈ b, k.op ≠ 2 := by
  induction l with
  | nil => left; simp
  | cons x l ih =>
    by_cases hx : x.op = 2
    · right
      refine ⟨[], x, l, rfl, hx, by simp, fun k hk e => ?_⟩
      rw [List.filter_cons, if_pos (by simp [hx])] at hc
      have : k ∈ l.filter (fun k => k.op == 2) := List.mem_filter.2 ⟨hk, by simp [e]⟩
      have := List.length_pos_of_mem this
      rw [List.length_cons] at hc
      omega
    · rw [List.filter_cons, if_neg (by simp [hx])] at hc
      rcases ih hc with h | ⟨a, y, b, rfl, h1, h2, h3⟩
      · left
        intro k hk
        rcases List.mem_cons.1 hk with rfl | hk
        · exact hx
        · exact h k hk
      · right
        refine ⟨x :: a, y, b, rfl, h1, fun k hk => ?_, h3⟩
        rcases List.mem_cons.1 hk with rfl | hk
        · exact hx
        · exact h2 k hk
theorem mem_orKeep {l : List RE} (h0 : ∀ k ∈ l, k.op ≠ 0) (r : RE) : r ∈ orKeep l ↔ r ∈ l ∧ r.op ≠ 2 := by
  unfold orKeep
  rw [List.mem_filter]
  constructor
  · rintro ⟨h1, h2⟩; simp at h2; exact ⟨h1, h2.2⟩
  · rintro ⟨h1, h2⟩; exact ⟨h1, by simp [h0 r h1, h2]⟩
theorem any_same {r : RE} (hw : Wf r) (h4 : r.op = 4) : rAny r.kids = r := by
  obtain ⟨h2, hk, hup, hc⟩ := hw.shp.or (.inl h4)
  have hset := hw.shp.set (by omega)
  have hkw := hw.kid
  have hf : flatL 4 r.kids = r.kids := flatL_same fun k hk' => by have := (hk k hk').2; rwa [h4] at this
  have h0 : ∀ k ∈ r.kids, k.op ≠ 0 := fun k hk' => (hk k hk').1
  have key : ∀ ks, (∀ x, x ∈ ks ↔ x ∈ r.kids) → (∀ x ∈ ks, WfK x) → ordL ks = r.kids := fun ks h1 h3 => (ordL_eq h3 hup fun x => (h1 x).symm).symm
  have hne : r.kids ≠ [] := fun e => by rw [e] at h2; simp at h2
  have fin : ∀ ks, (∀ x, x ∈ ks ↔ x ∈ r.kids) → (∀ x ∈ ks, WfK x) → (if ks = [] then rNothing else rJoin 4 (ordL ks)) = r := fun ks h1 h3 => by
    rw [if_neg (fun e => hne (List.eq_nil_iff_forall_not_mem.2 fun x hx => by have := (h1 x).2 hx; rw [e] at this; simp at this)), key ks h1 h3, rJoin_more _ _ (by omega)]
    rw [← hset, ← h4]; exact r.eta.symm
  unfold rAny
  simp only [hf]
  rcases one_class hc with hn | ⟨a, x, b, e, hx, ha, hb⟩
  · have hs : orSet r.kids = 0#256 := orSet_one hn _
    rw [if_pos hs, List.append_nil]
    refine fin _ (fun y => ?_) (fun y hy => (hkw y ((mem_orKeep h0 y).1 hy).1).k)
    rw [mem_orKeep h0]
    exact ⟨fun h => h.1, fun h => ⟨h, hn y h⟩⟩
  · have hxm : x ∈ r.kids := by rw [e]; simp
    obtain ⟨hx1, hx2⟩ := wf_class (hkw x hxm) hx
    have hs : orSet r.kids = x.set := by
      unfold orSet
      rw [e, List.foldl_append, orSet_one ha, List.foldl_cons, if_pos hx, orSet_one hb]; simp
    rw [hs, if_neg hx2, ← hx1]
    have hm : ∀ y, y ∈ orKeep r.kids ++ [x] ↔ y ∈ r.kids := fun y => by
      rw [List.mem_append, mem_orKeep h0]
      constructor
      · rintro (h | h)
        · exact h.1
        · simp at h; subst h; exact hxm
      · intro h
        by_cases hy : y.op = 2
        · right
          rw [e] at h
          rcases List.mem_append.1 h with h | h
          · exact absurd hy (ha y h)
          · rcases List.mem_cons.1 h with rfl | h
            · simp
            · exact absurd hy (hb y h)
        · exact .inl ⟨h, hy⟩
    exact fin _ hm (fun y hy => (hkw y ((hm y).1 hy)).k)
theorem both_same {r : RE} (hw : Wf r) (h6 : r.op = 6) : rBoth r.kids = r := by
  obtain ⟨h2, hk, hup, hc⟩ := hw.shp.or (.inr h6)
  have hset := hw.shp.set (by omega)
  have hkw := hw.kid
  have hf : flatL 6 r.kids = r.kids := flatL_same fun k hk' => by have := (hk k hk').2; rwa [h6] at this
  have h0 : ∀ k ∈ r.kids, k.op ≠ 0 := fun k hk' => (hk k hk').1
  have hany : r.kids.any (fun r => r.op == 0) = false := List.any_eq_false.2 fun k hk' => by simp [h0 k hk']
  have key : ∀ ks, (∀ x, x ∈ ks ↔ x ∈ r.kids) → (∀ x ∈ ks, WfK x) → ordL ks = r.kids := fun ks h1 h3 => (ordL_eq h3 hup fun x => (h1 x).symm).symm
  have hne : r.kids ≠ [] := fun e => by rw [e] at h2; simp at h2
  have fin : ∀ ks, (∀ x, x ∈ ks ↔ x ∈ r.kids) → (∀ x ∈ ks, WfK x) → (if ks = [] then rMany (rOne allB) else rJoin 6 (ordL ks)) = r := fun ks h1 h3 => by
    rw [if_neg (fun e => hne (List.eq_nil_iff_forall_not_mem.2 fun x hx => by have := (h1 x).2 hx; rw [e] at this; simp at this)), key ks h1 h3, rJoin_more _ _ (by omega)]
    rw [← hset, ← h6]; exact r.eta.symm
  unfold rBoth
  simp only [hf]
  rw [if_neg (by rw [hany]; simp)]
  rcases one_class hc with hn | ⟨a, x, b, e, hx, ha, hb⟩
  · have hs : andSet r.kids = allB := andSet_one hn _
    have hm : met r.kids = false := List.any_eq_false.2 fun k hk' => by simp [hn k hk']
    rw [hs, if_neg (by decide +kernel), hm]
    simp only [Bool.false_eq_true, if_false, List.append_nil]
    refine fin _ (fun y => ?_) (fun y hy => (hkw y ((mem_orKeep h0 y).1 hy).1).k)
    rw [mem_orKeep h0]
    exact ⟨fun h => h.1, fun h => ⟨h, hn y h⟩⟩
  · have hxm : x ∈ r.kids := by rw [e]; simp
    obtain ⟨hx1, hx2⟩ := wf_class (hkw x hxm) hx
    have hs : andSet r.kids = x.set := by
      unfold andSet
      rw [e, List.foldl_append, andSet_one ha, List.foldl_cons, if_pos hx, andSet_one hb]
      have : allB = BitVec.allOnes 256 := by decide +kernel
      rw [this, BitVec.allOnes_and]
    have hm' : met r.kids = true := List.any_eq_true.2 ⟨x, hxm, by simp [hx]⟩
    rw [hs, if_neg hx2, hm', if_pos rfl, ← hx1]
    have hm : ∀ y, y ∈ orKeep r.kids ++ [x] ↔ y ∈ r.kids := fun y => by
      rw [List.mem_append, mem_orKeep h0]
      constructor
      · rintro (h | h)
        · exact h.1
        · simp at h; subst h; exact hxm
      · intro h
        by_cases hy : y.op = 2
        · right
          rw [e] at h
          rcases List.mem_append.1 h with h | h
          · exact absurd hy (ha y h)
          · rcases List.mem_cons.1 h with rfl | h
            · simp
            · exact absurd hy (hb y h)
        · exact .inl ⟨h, hy⟩
    exact fin _ hm (fun y hy => (hkw y ((hm y).1 hy)).k)
theorem with_same {r : RE} (hw : Wf r) : rWith r r.kids = r := by
  have hs := hw.shp
  unfold rWith
  split
  · rename_i h3
    obtain ⟨h2, hk⟩ := hs.cat h3
    unfold rThen
    rw [if_neg (by
      rw [List.any_eq_true]
      rintro ⟨k, hk', e⟩
      exact (hk k hk').1 (by simpa using e)), catL_same (fun k hk' => (hk k hk').2), if_neg (fun e => by rw [e] at h2; simp at h2), rJoin_more _ _ (by omega)]
    rw [← hs.set (by omega), ← h3]; exact r.eta.symm
  · split
    · exact any_same hw (by assumption)
    · split
      · exact both_same hw (by assumption)
      · split
        · rename_i h5
          obtain ⟨k, hk, h1, h2, h3⟩ := hs.star h5.1
          rw [hk]
          show rMany k = r
          unfold rMany
          rw [if_neg (by omega), if_neg h3, ← hk, ← hs.set (by omega), ← h5.1]; exact r.eta.symm
        · split
          · rename_i h7
            obtain ⟨a, b, hk, h1, h2, h3, h4⟩ := hs.minus h7.1
            have ha := (hw.kid a (by rw [hk]; simp)).k
            have hb := (hw.kid b (by rw [hk]; simp)).k
            rw [hk]
            show rBut a b = r
            unfold rBut
            rw [if_neg (by omega), if_neg h4, if_neg (fun e => h3 (key_inj ha hb (lexN_zero _ _ e))), ← hk, ← hs.set (by omega), ← h7.1]; exact r.eta.symm
          · rfl
theorem wf_with {r : RE} (hw : Wf r) {l : List RE} (hl : ∀ x ∈ l, Wf x) : Wf (rWith r l) := by
  have hg : ∀ i, Wf (l.getD i rNothing) := fun i => by
    by_cases hi : i < l.length
    · rw [show l.getD i rNothing = l[i] from by simp [List.getD_eq_getElem?_getD, hi]]; exact hl _ (List.getElem_mem hi)
    · rw [show l.getD i rNothing = rNothing from by simp [List.getD_eq_getElem?_getD, hi]]; exact wf_nothing
  unfold rWith
  split
  · exact wf_then hl
  · split
    · exact wf_any hl
    · split
      · exact wf_both hl
      · split
        · exact wf_many (hg 0)
        · split
          · exact wf_but (hg 0) (hg 1)
          · exact hw
end Go.Proofs.YtkjmjppmpcnejaaDoor
/- ReWiths: an expression with other kids has what its op makes of them; with its own it is itself. -/
namespace Go.Proofs.YtkjmjppmpcnejaaDoor
set_option maxRecDepth 100000
set_option linter.unusedSimpArgs false
set_option linter.unusedVariables false
open Go.RowKit

theorem cnt_bounds {l : List RE} (h : cntL l ≤ 100000) : l.length ≤ 1099511627776 ∧ (catL l).length ≤ 1099511627776 ∧ (flatL 4 l).length ≤ 1099511627776 ∧ (flatL 6 l).length ≤ 1099511627776 := by
  have a0 := cntL_len l
  have a1 := cntL_len (catL l); have a2 := cntL_catL l
  have b1 := cntL_len (flatL 4 l); have b2 := cntL_flatL 4 l
  have c1 := cntL_len (flatL 6 l); have c2 := cntL_flatL 6 l
  omega
theorem cntL_shapes (l : List SHP) (h : ∀ x ∈ l, Tx x ∧ x.nodes ≤ 30) : cntL (l.map SHP.re) ≤ 660 * l.length := by
  induction l with
  | nil => simp [cntL]
  | cons x l ih =>
    have e1 := x.cnt (h x (by simp)).1
    have e3 := (h x (by simp)).2
    have e2 := ih fun k hk => h k (by simp [hk])
    rw [List.map_cons, cntL_cons, List.length_cons]
    omega

end Go.Proofs.YtkjmjppmpcnejaaDoor
/- Neither the order nor the number nor the grouping of those of which one is chosen, or all are asked, turns anything; nor does the grouping of those that follow one another. -/
namespace Go.Proofs.YtkjmjppmpcnejaaDoor
set_option maxRecDepth 100000
set_option linter.unusedSimpArgs false
set_option linter.unusedVariables false
open Go.RowKit

theorem any_of_mem {l l' : List RE} (h : ∀ r, r ∈ l ↔ r ∈ l') (p : RE → Bool) : l.any p = l'.any p := by
  rw [Bool.eq_iff_iff, List.any_eq_true, List.any_eq_true]; simp only [h]
theorem all_of_mem {l l' : List RE} (h : ∀ r, r ∈ l ↔ r ∈ l') (p : RE → Bool) : l.all p = l'.all p := by
  rw [Bool.eq_iff_iff, List.all_eq_true, List.all_eq_true]; simp only [h]
theorem nil_of_mem {a b : List RE} (h : ∀ r, r ∈ a ↔ r ∈ b) : a = [] ↔ b = [] := by
  rw [List.eq_nil_iff_forall_not_mem, List.eq_nil_iff_forall_not_mem]; simp only [h]
theorem flatL_of_mem {l l' : List RE} (o : Nat) (h : ∀ r, r ∈ l ↔ r ∈ l') : ∀ r, r ∈ flatL o l ↔ r ∈ flatL o l' := by
  intro r; unfold flatL; simp only [List.mem_flatMap, h]
theorem orKeep_of_mem {l l' : List RE} (h : ∀ r, r ∈ l ↔ r ∈ l') : ∀ r, r ∈ orKeep l ↔ r ∈ orKeep l' := by
  intro r; unfold orKeep; simp only [List.mem_filter, h]
theorem flatL_append (o : Nat) (a b : List RE) : flatL o (a ++ b) = flatL o a ++ flatL o b := by unfold flatL; rw [List.flatMap_append]
theorem orKeep_append (a b : List RE) : orKeep (a ++ b) = orKeep a ++ orKeep b := by unfold orKeep; rw [List.filter_append]
theorem orBits (l : List RE) (i : Nat) : ∀ s : BitVec 256, (l.foldl (fun s r => if r.op = 2 then s ||| r.set else s) s).getLsbD i = (s.getLsbD i || l.any fun r => r.op == 2 && r.set.getLsbD i) := by
  induction l with
  | nil => intro s; simp
  | cons x l ih =>
    intro s
    rw [List.foldl_cons, ih, List.any_cons]
    by_cases h : x.op = 2
    · simp [h, Bool.or_assoc]
    · have hb : (x.op == 2) = false := by simpa using h
      rw [if_neg h, hb, Bool.false_and, Bool.false_or]
theorem andBits (l : List RE) (i : Nat) : ∀ s : BitVec 256, (l.foldl (fun s r => if r.op = 2 then s &&& r.set else s) s).getLsbD i = (s.getLsbD i && l.all fun r => !(r.op == 2) || r.set.getLsbD i) := by
  induction l with
  | nil => intro s; simp
  | cons x l ih =>
    intro s
    rw [List.foldl_cons, ih, List.all_cons]
    by_cases h : x.op = 2
    · simp [h, Bool.and_assoc]
    · have hb : (x.op == 2) = false := by simpa using h
      rw [if_neg h, hb, Bool.not_false, Bool.true_or, Bool.true_and]
theorem orSet_of_mem {l l' : List RE} (h : ∀ r, r ∈ l ↔ r ∈ l') : orSet l = orSet l' := by
  refine BitVec.eq_of_getLsbD_eq fun i hi => ?_
  unfold orSet
  rw [orBits, orBits, any_of_mem h]
theorem andSet_of_mem {l l' : List RE} (h : ∀ r, r ∈ l ↔ r ∈ l') : andSet l = andSet l' := by
  refine BitVec.eq_of_getLsbD_eq fun i hi => ?_
  unfold andSet
  rw [andBits, andBits, all_of_mem h]
theorem orSet_append (a b : List RE) : orSet (a ++ b) = orSet a ||| orSet b := by
  refine BitVec.eq_of_getLsbD_eq fun i hi => ?_
  unfold orSet
  rw [orBits, BitVec.getLsbD_or, orBits, orBits, List.any_append]; simp
theorem ordL_of_mem {a b : List RE} (ha : ∀ y ∈ a, WfK y) (hb : ∀ y ∈ b, WfK y) (h : ∀ r, r ∈ a ↔ r ∈ b) : ordL a = ordL b :=
  ordL_eq hb (ordL_spec a ha).1 fun r => ((ordL_spec a ha).2 r).trans (h r)

theorem any_of {l l' : List RE} (hw : ∀ r ∈ l, Wf r) (hw' : ∀ r ∈ l', Wf r) (hk : ∀ r, r ∈ orKeep (flatL 4 l) ↔ r ∈ orKeep (flatL 4 l')) (hs : orSet (flatL 4 l) = orSet (flatL 4 l')) : rAny l = rAny l' := by
  unfold rAny
  simp only [← hs]
  generalize hX : (if orSet (flatL 4 l) = 0#256 then [] else [rOne (orSet (flatL 4 l))]) = X
  have hXw : ∀ y ∈ X, WfK y := fun y hy => by
    rw [← hX] at hy
    split at hy
    · simp at hy
    · simp at hy; subst hy; exact (wf_one _).k
  have hm : ∀ r, r ∈ orKeep (flatL 4 l) ++ X ↔ r ∈ orKeep (flatL 4 l') ++ X := fun r => by rw [List.mem_append, List.mem_append, hk]
  have h1 : ∀ y ∈ orKeep (flatL 4 l) ++ X, WfK y := fun y hy => (List.mem_append.1 hy).elim (fun h => (wf_keepL (.inl rfl) hw 0#256 y h).1.k) (hXw y)
  have h2 : ∀ y ∈ orKeep (flatL 4 l') ++ X, WfK y := fun y hy => (List.mem_append.1 hy).elim (fun h => (wf_keepL (.inl rfl) hw' 0#256 y h).1.k) (hXw y)
  rw [ordL_of_mem h1 h2 hm]
  by_cases hn : orKeep (flatL 4 l) ++ X = []
  · rw [if_pos hn, if_pos ((nil_of_mem hm).1 hn)]
  · rw [if_neg hn, if_neg (fun e => hn ((nil_of_mem hm).2 e))]
theorem any_mem {l l' : List RE} (hw : ∀ r ∈ l, Wf r) (h : ∀ r, r ∈ l ↔ r ∈ l') : rAny l = rAny l' :=
  any_of hw (fun r hr => hw r ((h r).2 hr)) (orKeep_of_mem (flatL_of_mem 4 h)) (orSet_of_mem (flatL_of_mem 4 h))
theorem both_mem {l l' : List RE} (hw : ∀ r ∈ l, Wf r) (h : ∀ r, r ∈ l ↔ r ∈ l') : rBoth l = rBoth l' := by
  have hw' : ∀ r ∈ l', Wf r := fun r hr => hw r ((h r).2 hr)
  have hf := flatL_of_mem 6 h
  have hs := andSet_of_mem hf
  have hz : (flatL 6 l).any (fun r => r.op == 0) = (flatL 6 l').any (fun r => r.op == 0) := any_of_mem hf _
  have hmt : met (flatL 6 l) = met (flatL 6 l') := any_of_mem hf _
  unfold rBoth
  simp only [← hs, ← hz, ← hmt]
  generalize hX : (if met (flatL 6 l) = true then [rOne (andSet (flatL 6 l))] else []) = X
  have hXw : ∀ y ∈ X, WfK y := fun y hy => by
    rw [← hX] at hy
    split at hy
    · simp at hy; subst hy; exact (wf_one _).k
    · simp at hy
  have hm : ∀ r, r ∈ orKeep (flatL 6 l) ++ X ↔ r ∈ orKeep (flatL 6 l') ++ X := fun r => by rw [List.mem_append, List.mem_append, orKeep_of_mem hf]
  have h1 : ∀ y ∈ orKeep (flatL 6 l) ++ X, WfK y := fun y hy => (List.mem_append.1 hy).elim (fun h => (wf_keepL (.inr rfl) hw 0#256 y h).1.k) (hXw y)
  have h2 : ∀ y ∈ orKeep (flatL 6 l') ++ X, WfK y := fun y hy => (List.mem_append.1 hy).elim (fun h => (wf_keepL (.inr rfl) hw' 0#256 y h).1.k) (hXw y)
  rw [ordL_of_mem h1 h2 hm]
  by_cases hn : orKeep (flatL 6 l) ++ X = []
  · rw [if_pos hn, if_pos ((nil_of_mem hm).1 hn)]
  · rw [if_neg hn, if_neg (fun e => hn ((nil_of_mem hm).2 e))]

theorem flat_join {o : Nat} {L : List RE} (h : ∀ k ∈ L, k.op ≠ o) : flatL o [rJoin o L] = L := by
  by_cases h1 : L.length = 1
  · obtain ⟨x, rfl⟩ := List.length_eq_one_iff.1 h1
    rw [rJoin_one]
    exact flatL_same h
  · rw [rJoin_more _ _ h1]
    simp [flatL, RE.op, RE.kids]
theorem any_flat {a : List RE} (hw : ∀ r ∈ a, Wf r) : (∀ r, r ∈ orKeep (flatL 4 [rAny a]) ↔ r ∈ orKeep (flatL 4 a)) ∧ orSet (flatL 4 [rAny a]) = orSet (flatL 4 a) := by
  generalize hF : flatL 4 a = F
  have hFw : ∀ k ∈ orKeep F, Wf k ∧ k.op ≠ 0 ∧ k.op ≠ 4 ∧ k.op ≠ 2 := fun k hk => by
    have h1 := wf_keepL (.inl rfl) hw 0#256 k (by rw [hF]; exact hk)
    refine ⟨h1.1, h1.2.1, h1.2.2.1, ?_⟩
    have := (List.mem_filter.1 hk).2
    simp at this; exact this.2
  generalize hc : orSet F = c
  have hks : ∀ X, X = (if c = 0#256 then [] else [rOne c]) → (∀ k ∈ orKeep F ++ X, Wf k ∧ k.op ≠ 0 ∧ k.op ≠ 4) ∧ (∀ r, r ∈ orKeep (orKeep F ++ X) ↔ r ∈ orKeep F) ∧ orSet (orKeep F ++ X) = c := fun X hX => by
    have hkk : orKeep (orKeep F) = orKeep F := List.filter_eq_self.2 fun k hk => by have := hFw k hk; simp [this.2.1, this.2.2.2]
    have hs0 : orSet (orKeep F) = 0#256 := orSet_one (fun k hk => (hFw k hk).2.2.2) _
    rw [orSet_append, orKeep_append, hkk, hs0]
    by_cases h0 : c = 0#256
    · rw [if_pos h0] at hX; subst hX
      refine ⟨fun k hk => ?_, fun r => by simp [orKeep], by rw [h0]; simp [orSet]⟩
      rw [List.append_nil] at hk
      exact ⟨(hFw k hk).1, (hFw k hk).2.1, (hFw k hk).2.2.1⟩
    · rw [if_neg h0] at hX; subst hX
      have h2 := one_op c h0
      refine ⟨fun k hk => ?_, fun r => by simp [orKeep, h2], ?_⟩
      · rcases List.mem_append.1 hk with hk | hk
        · exact ⟨(hFw k hk).1, (hFw k hk).2.1, (hFw k hk).2.2.1⟩
        · simp at hk; subst hk; exact ⟨wf_one c, by omega, by omega⟩
      · rw [rOne_set c h0]; simp [orSet, RE.op, RE.set]
  unfold rAny
  simp only [hF, hc]
  generalize hX : (if c = 0#256 then [] else [rOne c]) = X
  obtain ⟨h1, h2, h3⟩ := hks X hX.symm
  by_cases hn : orKeep F ++ X = []
  · rw [if_pos hn]
    rw [hn] at h2 h3
    refine ⟨fun r => ?_, ?_⟩
    · rw [← h2 r]; rfl
    · rw [← h3]; rfl
  · rw [if_neg hn]
    have hw1 : ∀ y ∈ orKeep F ++ X, WfK y := fun y hy => (h1 y hy).1.k
    have hm := (ordL_spec _ hw1).2
    rw [flat_join (fun k hk => (h1 k ((hm k).1 hk)).2.2)]
    refine ⟨fun r => ?_, ?_⟩
    · rw [orKeep_of_mem hm, h2]
    · rw [orSet_of_mem hm, h3]
theorem any_group {a b : List RE} (ha : ∀ r ∈ a, Wf r) (hb : ∀ r ∈ b, Wf r) : rAny [rAny a, rAny b] = rAny (a ++ b) := by
  obtain ⟨a1, a2⟩ := any_flat ha
  obtain ⟨b1, b2⟩ := any_flat hb
  have e : [rAny a, rAny b] = [rAny a] ++ [rAny b] := rfl
  refine any_of (fun r hr => ?_) (fun r hr => ?_) (fun r => ?_) ?_
  · simp at hr
    rcases hr with rfl | rfl
    · exact wf_any ha
    · exact wf_any hb
  · rcases List.mem_append.1 hr with h | h
    · exact ha r h
    · exact hb r h
  · rw [e, flatL_append, flatL_append, orKeep_append, orKeep_append, List.mem_append, List.mem_append, a1, b1]
  · rw [e, flatL_append, flatL_append, orSet_append, orSet_append, a2, b2]

theorem then_op {a : List RE} (hw : ∀ r ∈ a, Wf r) : ((rThen a).op == 0) = a.any (fun r => r.op == 0) := by
  unfold rThen
  by_cases h : a.any (fun r => r.op == 0) = true
  · rw [if_pos h, h]; rfl
  · rw [if_neg h]
    have h' : a.any (fun r => r.op == 0) = false := by simpa using h
    rw [h']
    split
    · rfl
    · have hc := wf_catL hw h'
      by_cases h1 : (catL a).length = 1
      · obtain ⟨x, hx⟩ := List.length_eq_one_iff.1 h1
        rw [hx, rJoin_one]
        have := (hc x (by rw [hx]; simp)).2.1
        simpa using this
      · rw [rJoin_more _ _ h1]; rfl
theorem then_cat {a : List RE} (hw : ∀ r ∈ a, Wf r) (h' : a.any (fun r => r.op == 0) = false) : catK (rThen a) = catL a := by
  unfold rThen
  rw [if_neg (by rw [h']; simp)]
  split
  · rename_i h; rw [h]; rfl
  · have hc := wf_catL hw h'
    by_cases h1 : (catL a).length = 1
    · obtain ⟨x, hx⟩ := List.length_eq_one_iff.1 h1
      have := (hc x (by rw [hx]; simp)).2.2
      rw [hx, rJoin_one]
      unfold catK
      rw [if_neg this.1, if_neg this.2]
    · rw [rJoin_more _ _ h1]; rfl
theorem then_group {a b : List RE} (ha : ∀ r ∈ a, Wf r) (hb : ∀ r ∈ b, Wf r) : rThen [rThen a, rThen b] = rThen (a ++ b) := by
  have hz : [rThen a, rThen b].any (fun r => r.op == 0) = (a ++ b).any (fun r => r.op == 0) := by
    rw [List.any_append, List.any_cons, List.any_cons, List.any_nil, then_op ha, then_op hb, Bool.or_false]
  by_cases h : (a ++ b).any (fun r => r.op == 0) = true
  · have e : ∀ l : List RE, l.any (fun r => r.op == 0) = true → rThen l = rNothing := fun l hl => by unfold rThen; rw [if_pos hl]
    rw [e _ (hz.trans h), e _ h]
  · have h' : (a ++ b).any (fun r => r.op == 0) = false := by simpa using h
    have h'' := h'
    rw [List.any_append, Bool.or_eq_false_iff] at h''
    have hcat : catL [rThen a, rThen b] = catL (a ++ b) := by
      have : catL [rThen a, rThen b] = catK (rThen a) ++ catK (rThen b) := by simp [catL]
      rw [this, then_cat ha h''.1, then_cat hb h''.2]
      unfold catL; rw [List.flatMap_append]
    have e : ∀ l : List RE, l.any (fun r => r.op == 0) = false → rThen l = if catL l = [] then rEmpty else rJoin 3 (catL l) := fun l hl => by
      unfold rThen; rw [if_neg (by rw [hl]; simp)]
    rw [e _ (hz.trans h'), e _ h', hcat]
end Go.Proofs.YtkjmjppmpcnejaaDoor
/- A region that draws its order, operation by operation: what each must yield, whatever came up ahead of it. -/
namespace Go.Proofs.YtkjmjppmpcnejaaDoor
set_option maxRecDepth 100000
open Go.RowKit
set_option linter.unusedSimpArgs false

/-- What was yielded, laid in the text's order. -/
def lay : List Oper → List (Option Value) → Act → Act
  | o :: os, x :: xs, a => lay os xs (match x with | some v => a.put o.dst v | none => a)
  | _, _, a => a

def dstsB : List Oper → Bool
  | [] => true
  | o :: os => (os.all fun o' => match o.dst, o'.dst with | some t, some t' => t != t' | _, _ => true) && dstsB os
def backB : List Oper → Nat → Bool
  | [], _ => true
  | o :: os, k => (o.after.toList.all fun e => Nat.blt e.on k) && backB os (k + 1)

theorem dstsB_cons {o : Oper} {os : List Oper} (h : dstsB (o :: os) = true) : (∀ o' ∈ os, ∀ t, o.dst = some t → o'.dst ≠ some t) ∧ dstsB os = true := by
  simp only [dstsB, Bool.and_eq_true, List.all_eq_true] at h
  refine ⟨fun o' ho' t ht e => ?_, h.2⟩
  have := h.1 o' ho'
  rw [ht, e] at this
  simp at this
theorem lay_put {d : Option Tmp} {v : Value} : ∀ (os : List Oper) (xs : List (Option Value)) (a : Act), (∀ o' ∈ os, ∀ t, d = some t → o'.dst ≠ some t) → lay os xs (a.put d v) = (lay os xs a).put d v
  | [], xs, a, _ => by cases xs <;> rfl
  | o :: os, [], a, _ => rfl
  | o :: os, none :: xs, a, h => lay_put os xs a fun o' ho' => h o' (List.mem_cons_of_mem _ ho')
  | o :: os, some u :: xs, a, h => by
    show lay os xs ((a.put d v).put o.dst u) = _
    rw [Act.put_comm a v u (h o List.mem_cons_self)]
    exact lay_put os xs _ fun o' ho' => h o' (List.mem_cons_of_mem _ ho')
theorem lay_set {v : Value} {o : Oper} : ∀ (os : List Oper) (L : List (Option Value)) (a : Act) (i : Nat), dstsB os = true → L[i]? = some none → os[i]? = some o → lay os (L.set i (some v)) a = (lay os L a).put o.dst v
  | [], _, _, i, _, _, ho => by simp at ho
  | _ :: _, [], _, i, _, hL, _ => by simp at hL
  | o' :: os, x :: xs, a, 0, hd, hL, ho => by
    have e1 : x = none := by simpa using hL
    have e2 : o' = o := by simpa using ho
    subst e1 e2
    exact lay_put os xs a (dstsB_cons hd).1
  | o' :: os, x :: xs, a, i + 1, hd, hL, ho => by
    rw [List.set_cons_succ]
    exact lay_set os xs _ i (dstsB_cons hd).2 (by simpa using hL) (by simpa using ho)
theorem put_size (a : Act) (d : Option Tmp) (v : Value) : (a.put d v).tmps.size = a.tmps.size := by
  cases d <;> simp [Act.put]
theorem lay_size : ∀ (os : List Oper) (L : List (Option Value)) (a : Act), (lay os L a).tmps.size = a.tmps.size
  | [], L, a => by cases L <;> rfl
  | _ :: _, [], _ => rfl
  | o :: os, none :: xs, a => lay_size os xs a
  | o :: os, some u :: xs, a => (lay_size os xs _).trans (put_size _ _ _)
theorem lay_other {t : Nat} : ∀ (os : List Oper) (L : List (Option Value)) (a : Act), (∀ o ∈ os, o.dst ≠ some t) → (lay os L a).tmps[t]? = a.tmps[t]?
  | [], L, a, _ => by cases L <;> rfl
  | _ :: _, [], _, _ => rfl
  | o :: os, none :: xs, a, h => lay_other os xs a fun o' ho' => h o' (List.mem_cons_of_mem _ ho')
  | o :: os, some u :: xs, a, h => by
    refine (lay_other os xs _ fun o' ho' => h o' (List.mem_cons_of_mem _ ho')).trans ?_
    have h0 := h o List.mem_cons_self
    cases hd : o.dst with
    | none => rfl
    | some d =>
      have : d ≠ t := fun e => h0 (by rw [hd, e])
      simp [Act.put, Array.getElem?_setIfInBounds, this]
theorem lay_get {t : Nat} {v : Value} {o : Oper} : ∀ (os : List Oper) (L : List (Option Value)) (a : Act) (i : Nat), dstsB os = true → L[i]? = some (some v) → os[i]? = some o → o.dst = some t → t < a.tmps.size → (lay os L a).tmps[t]? = some v
  | [], _, _, i, _, _, ho, _, _ => by simp at ho
  | _ :: _, [], _, i, _, hL, _, _, _ => by simp at hL
  | o' :: os, x :: xs, a, 0, hd, hL, ho, ht, hs => by
    have e1 : x = some v := by simpa using hL
    have e2 : o' = o := by simpa using ho
    subst e1 e2
    refine (lay_other os xs _ fun o'' ho'' => (dstsB_cons hd).1 o'' ho'' t ht).trans ?_
    simp [Act.put, ht, Array.getElem?_setIfInBounds, hs]
  | o' :: os, none :: xs, a, i + 1, hd, hL, ho, ht, hs => lay_get os xs a i (dstsB_cons hd).2 (by simpa using hL) (by simpa using ho) ht hs
  | o' :: os, some u :: xs, a, i + 1, hd, hL, ho, ht, hs => lay_get os xs _ i (dstsB_cons hd).2 (by simpa using hL) (by simpa using ho) ht (by rw [put_size]; exact hs)

def depsOf (o : Oper) : List Nat := (o.after.toList.filter fun e => Region.binds .any e).map (·.on)
def noDst (ops : List Oper) (t : Nat) : Bool := ops.all fun o => match o.dst with | some d => d != t | none => true

/-- What no other operation than i uses up (an append its row). -/
def useB (eat : List (Nat × Nat)) (i j : Nat) : Bool := eat.all fun p => !(Nat.beq p.2 j) || Nat.beq p.1 i
/-- Operation i may come up where j has, and is still of use. -/
def liveB (ops : List Oper) (eat : List (Nat × Nat)) (i j : Nat) : Bool :=
  !(Nat.beq i j) && !eat.contains (i, j) && (match ops[i]? with | some o => (depsOf o).all fun k => !eat.contains (k, j) | none => true) && (match ops[j]? with | some o => !(depsOf o).contains i | none => false)

/-- One operation: what it yields (R), where all that it waits for has come up. -/
def FStep (P : Program) (ops : List Oper) (eat : List (Nat × Nat)) (S : World → Prop) (G : Nat → World → World → Prop) (R : Nat → Value → World → Prop) (a0 : Act) (Q : Exit → Act → World → Prop) (i : Nat) (o : Oper) : Prop :=
  ∀ a w, S w → a.tmps.size = a0.tmps.size → (∀ t, noDst ops t = true → a.tmps[t]? = a0.tmps[t]?) → (∀ j, (depsOf o).contains j = true → useB eat i j = true → ∃ v, R j v w ∧ ∀ o' t, ops[j]? = some o' → o'.dst = some t → a.tmps[t]? = some v) →
    (Region.wanted o (yielded ops.toArray a.tmps) = true ∧ o.wp P a w (fun a' w' => ∃ v, a' = a.put o.dst v ∧ R i v w' ∧ S w' ∧ G i w w') Q) ∨ (Region.wanted o (yielded ops.toArray a.tmps) = false ∧ R i undef w)
def FSteps (P : Program) (ops : List Oper) (eat : List (Nat × Nat)) (S : World → Prop) (G : Nat → World → World → Prop) (R : Nat → Value → World → Prop) (a0 : Act) (Q : Exit → Act → World → Prop) : List Oper → Nat → Prop
  | [], _ => True
  | o :: os, k => FStep P ops eat S G R a0 Q k o ∧ FSteps P ops eat S G R a0 Q os (k + 1)

section
variable {P : Program} {ops : List Oper} {S : World → Prop} {G : Nat → World → World → Prop} {eat : List (Nat × Nat)} {R : Nat → Value → World → Prop} {a0 : Act} {Q : Exit → Act → World → Prop}
theorem FSteps.get : ∀ (os : List Oper) (k : Nat), FSteps P ops eat S G R a0 Q os k → ∀ i o, os[i]? = some o → FStep P ops eat S G R a0 Q (k + i) o
  | [], _, _, i, o, h => by simp at h
  | o' :: os, k, hs, 0, o, h => by
    have : o' = o := by simpa using h
    exact this ▸ hs.1
  | o' :: os, k, hs, i + 1, o, h => by
    have := FSteps.get os (k + 1) hs.2 i o (by simpa using h)
    rwa [Nat.add_assoc, Nat.add_comm 1 i] at this
theorem backB_get : ∀ (os : List Oper) (k : Nat), backB os k = true → ∀ i o, os[i]? = some o → ∀ e ∈ o.after, e.on < k + i
  | [], _, _, i, o, h => by simp at h
  | o' :: os, k, hs, 0, o, h => fun e he => by
    have e1 : o' = o := by simpa using h
    subst e1
    simp only [backB, Bool.and_eq_true] at hs
    have h1 : Nat.blt e.on k = true := by
      exact (List.all_eq_true.1 hs.1) e (Array.mem_toList_iff.2 he)
    simpa [Nat.blt_eq] using h1
  | o' :: os, k, hs, i + 1, o, h => fun e he => by
    simp only [backB, Bool.and_eq_true] at hs
    have := backB_get os (k + 1) hs.2 i o (by simpa using h) e he
    omega
theorem mem_ready {listed : Array Bool} {i : Nat} : i ∈ Region.ready .any ops.toArray listed ↔ i < ops.length ∧ listed.getD i true = false ∧ ∃ o, ops[i]? = some o ∧ ∀ e ∈ o.after, Region.binds .any e = true → listed.getD e.on false = true := by
  unfold Region.ready
  rw [List.mem_filter, List.mem_range]
  refine and_congr (by simp) ?_
  rw [Bool.and_eq_true, Bool.not_eq_true']
  refine and_congr Iff.rfl ?_
  rw [List.getElem?_toArray]
  cases ho : ops[i]? with
  | none => simp
  | some o =>
    simp only [Option.map_some, Option.getD_some, Option.some.injEq, exists_eq_left']
    constructor
    · intro h e he hb
      obtain ⟨j, hj, rfl⟩ := Array.mem_iff_getElem.1 he
      have := (Array.all_eq_true.1 h) j hj
      simpa [hb] using this
    · intro h
      refine Array.all_eq_true.2 fun j hj => ?_
      cases hb : Region.binds .any o.after[j] with
      | false => rfl
      | true => simp [h _ (Array.getElem_mem hj) hb]

theorem flow_go (hd : dstsB ops = true) (hk : backB ops 0 = true) (hsz : ∀ o ∈ ops, ∀ t, o.dst = some t → t < a0.tmps.size) (hG : ∀ i j v w w', liveB ops eat i j = true → G i w w' → R j v w → R j v w') (hs : FSteps P ops eat S G R a0 Q ops 0)
    (hfin : ∀ (vs : List Value) w, vs.length = ops.length → S w → (∀ j v, vs[j]? = some v → (∀ i, i < ops.length → eat.contains (i, j) = false) → R j v w) → Q .normal (lay ops (vs.map some) a0) w) :
    ∀ (fuel : Nat) (L : List (Option Value)) (w : World), L.length = ops.length → (L.filter Option.isNone).length ≤ fuel → S w → (∀ j v, L[j]? = some (some v) → (∀ i u, L[i]? = some (some u) → eat.contains (i, j) = false) → R j v w) → (∀ (j : Nat) v o, L[j]? = some (some v) → ops[j]? = some o → ∀ k : Nat, (depsOf o).contains k = true → ∃ u, L[k]? = some (some u)) → wpAnyH P .any ops.toArray Q S fuel (L.map Option.isSome).toArray (lay ops L a0) w := by
  have hlist : ∀ (L : List (Option Value)) i, (L.map Option.isSome).toArray.getD i true = false → i < L.length → L[i]? = some none := fun L i h hi => by
    have : (L.map Option.isSome).toArray.getD i true = L[i].isSome := by simp [Array.getD, hi]
    rw [this] at h
    rw [List.getElem?_eq_getElem hi]
    cases hx : L[i] with
    | none => rfl
    | some v => rw [hx] at h; cases h
  have hlist2 : ∀ (L : List (Option Value)) i, (L.map Option.isSome).toArray.getD i false = true → ∃ v, L[i]? = some (some v) := fun L i h => by
    by_cases hi : i < L.length
    · have : (L.map Option.isSome).toArray.getD i false = L[i].isSome := by simp [Array.getD, hi]
      rw [this] at h
      rw [List.getElem?_eq_getElem hi]
      cases hx : L[i] with
      | none => rw [hx] at h; cases h
      | some v => exact ⟨v, rfl⟩
    · have : (L.map Option.isSome).toArray.getD i false = false := by simp [Array.getD, hi]
      rw [this] at h; cases h
  have hall : ∀ (L : List (Option Value)), L.length = ops.length → Region.ready .any ops.toArray (L.map Option.isSome).toArray = [] → ∃ vs : List Value, L = vs.map some := by
    intro L hL hr
    have h1 : ∀ i, i < L.length → ∃ v, L[i]? = some (some v) := by
      intro i
      induction i using Nat.strongRecOn with
      | ind i ih =>
        intro hi
        cases hx : L[i]? with
        | none => rw [List.getElem?_eq_none_iff] at hx; omega
        | some x =>
          cases x with
          | some v => exact ⟨v, rfl⟩
          | none =>
            have hm : i ∈ Region.ready .any ops.toArray (L.map Option.isSome).toArray := by
              refine mem_ready.2 ⟨by omega, ?_, ops[i]'(by omega), List.getElem?_eq_getElem _, fun e he _ => ?_⟩
              · have : L[i] = none := by rw [List.getElem?_eq_getElem hi] at hx; simpa using hx
                simp [Array.getD, hi, this]
              · have hlt := backB_get ops 0 hk i _ (List.getElem?_eq_getElem (by omega)) e he
                obtain ⟨v, hv⟩ := ih e.on (by omega) (by omega)
                have he' : e.on < L.length := by omega
                rw [List.getElem?_eq_getElem he'] at hv
                have : L[e.on] = some v := by simpa using hv
                simp [Array.getD, he', this]
            rw [hr] at hm; cases hm
    refine ⟨L.map (·.getD undef), ?_⟩
    apply List.ext_getElem?
    intro i
    by_cases hi : i < L.length
    · obtain ⟨v, hv⟩ := h1 i hi
      simp [hv]
    · simp [List.getElem?_eq_none (Nat.le_of_not_lt hi)]
  have hdone : ∀ (L : List (Option Value)) w, L.length = ops.length → S w → (∀ j v, L[j]? = some (some v) → (∀ i u, L[i]? = some (some u) → eat.contains (i, j) = false) → R j v w) → Region.ready .any ops.toArray (L.map Option.isSome).toArray = [] → Q .normal (lay ops L a0) w := by
    intro L w hL hS hR hr
    obtain ⟨vs, rfl⟩ := hall L hL hr
    exact hfin vs w (by simpa using hL) hS fun j v hv he => hR j v (by simp [hv]) fun i u hu => he i (by
      have := (List.getElem?_eq_some_iff.1 hu).1
      rw [List.length_map] at this
      have h2 : vs.length = ops.length := by simpa using hL
      omega)
  intro fuel
  induction fuel with
  | zero =>
    intro L w hL hf hS hR _
    have hr : Region.ready .any ops.toArray (L.map Option.isSome).toArray = [] := by
      refine List.eq_nil_iff_forall_not_mem.2 fun i hi => ?_
      obtain ⟨h1, h2, -⟩ := mem_ready.1 hi
      have hx := hlist L i h2 (by omega)
      have hmem : (none : Option Value) ∈ L.filter Option.isNone := List.mem_filter.2 ⟨List.mem_of_getElem? hx, rfl⟩
      have := List.length_pos_of_mem hmem
      omega
    exact ⟨hr, hdone L w hL hS hR hr⟩
  | succ fuel ih =>
    intro L w hL hf hS hR hC
    refine ⟨hdone L w hL hS hR, fun i hi => ?_⟩
    obtain ⟨h1, h2, o, ho, h3⟩ := mem_ready.1 hi
    have hx := hlist L i h2 (by omega)
    have hdep : ∀ j, (depsOf o).contains j = true → ∃ v, L[j]? = some (some v) := fun j hj => by
      obtain ⟨e, he, rfl⟩ := List.mem_map.1 (List.contains_iff_mem.1 hj)
      obtain ⟨he1, he2⟩ := List.mem_filter.1 he
      exact hlist2 L e.on (h3 e (by simpa using he1) he2)
    have hstep := FSteps.get ops 0 hs i o ho (lay ops L a0) w hS (lay_size _ _ _) (fun t ht => lay_other ops L a0 fun o' ho' e => by
        have := (List.all_eq_true.1 ht) o' ho'
        rw [e] at this; simp at this) (fun j hj huse => by
        obtain ⟨v, hv⟩ := hdep j hj
        refine ⟨v, hR _ _ hv (fun i' u hu => ?_), fun o' t ho' ht => lay_get ops L a0 _ hd hv ho' ht (hsz o' (List.mem_of_getElem? ho') t ht)⟩
        refine Bool.eq_false_iff.2 fun hc => ?_
        have h4 := (List.all_eq_true.1 huse) _ (List.contains_iff_mem.1 hc)
        have h5 : Nat.beq j j = true := Nat.beq_refl j
        rw [Nat.zero_add] at h4
        simp only [h5, Bool.not_true, Bool.false_or] at h4
        have h6 := Nat.eq_of_beq_eq_true h4
        subst h6
        rw [hx] at hu; cases hu)
    rw [Nat.zero_add] at hstep
    have hnext : ∀ v w', R i v w' → S w' → (∀ j u, liveB ops eat i j = true → R j u w → R j u w') → S w' ∧ wpAnyH P .any ops.toArray Q S fuel ((L.map Option.isSome).toArray.setIfInBounds i true) ((lay ops L a0).put o.dst v) w' := by
      intro v w' hRv hS' hk'
      refine ⟨hS', ?_⟩
      have e1 : (L.map Option.isSome).toArray.setIfInBounds i true = ((L.set i (some v)).map Option.isSome).toArray := by
        rw [List.setIfInBounds_toArray, List.map_set]; rfl
      rw [e1, ← lay_set ops L a0 i hd hx ho]
      refine ih (L.set i (some v)) w' (by rw [List.length_set]; exact hL) ?_ hS' (fun j u hu hne => ?_) (fun j u o' hu ho' k hk2 => ?_)
      · have hi' : i < L.length := by omega
        have hLi : L[i] = none := by rw [List.getElem?_eq_getElem hi'] at hx; simpa using hx
        have e2 : L = L.take i ++ none :: L.drop (i + 1) := by
          conv => lhs; rw [← List.take_append_drop i L, List.drop_eq_getElem_cons hi', hLi]
        have e3 : L.set i (some v) = L.take i ++ some v :: L.drop (i + 1) := List.set_eq_take_append_cons_drop .. |>.trans (by rw [if_pos hi'])
        rw [e3]
        rw [e2] at hf
        simp only [List.filter_append, List.filter_cons, Option.isNone_some, Option.isNone_none, List.length_append, List.length_cons, if_true, Bool.false_eq_true, if_false] at hf ⊢
        omega
      · rw [List.getElem?_set] at hu
        split at hu
        · subst_vars
          split at hu
          · cases hu; exact hRv
          · cases hu
        · rename_i hij
          refine hk' _ _ ?_ (hR j u hu fun i' u' hu' => ?_)
          · unfold liveB
            have b1 : Nat.beq i j = false := Bool.eq_false_iff.2 fun hc => hij (Nat.eq_of_beq_eq_true hc)
            have b2 := hne i v (by rw [List.getElem?_set_self (by omega)])
            simp only [b1, b2, ho, Bool.not_false, Bool.true_and]
            rw [Bool.and_eq_true]
            refine ⟨List.all_eq_true.2 fun k hk3 => ?_, ?_⟩
            · obtain ⟨x, hx3⟩ := hdep k (List.contains_iff_mem.2 hk3)
              have hki : i ≠ k := fun e => by subst e; rw [hx] at hx3; cases hx3
              rw [hne k x (by rw [List.getElem?_set_ne hki]; exact hx3)]; rfl
            · cases ho3 : ops[j]? with
              | none =>
                have hj1 := (List.getElem?_eq_some_iff.1 hu).1
                rw [List.getElem?_eq_none_iff] at ho3
                omega
              | some o3 =>
                simp only [Bool.not_eq_true']
                refine Bool.eq_false_iff.2 fun hc => ?_
                obtain ⟨x, hx3⟩ := hC j u o3 hu ho3 i hc
                rw [hx] at hx3; cases hx3
          by_cases hii : i = i'
          · subst hii; rw [hx] at hu'; cases hu'
          · exact hne i' u' (by rw [List.getElem?_set_ne hii]; exact hu')
      · have hk4 : ∃ x, L[k]? = some (some x) := by
          rw [List.getElem?_set] at hu
          split at hu
          · subst_vars
            rw [ho] at ho'; cases ho'
            exact hdep k hk2
          · exact hC j u o' hu ho' k hk2
        obtain ⟨x, hx3⟩ := hk4
        by_cases hki : i = k
        · subst hki; rw [hx] at hx3; cases hx3
        · exact ⟨x, by rw [List.getElem?_set_ne hki]; exact hx3⟩
    unfold wpOp
    rw [List.getElem?_toArray, ho]
    rcases hstep with ⟨hw, hp⟩ | ⟨hw, hu⟩
    · simp only [hw, if_true]
      refine .inl (Oper.wp_mono ?_ hp)
      rintro a' w' ⟨v, rfl, hRv, hS', hg⟩
      exact hnext v w' hRv hS' fun j u hn h => hG i j u w w' hn hg h
    · simp only [hw]
      exact hnext undef w hu hS fun j u _ h => h

/-- The whole region. -/
theorem flow {id : Nat} {w : World} (eat : List (Nat × Nat)) (S : World → Prop) (G : Nat → World → World → Prop) (R : Nat → Value → World → Prop) (hm : P.follows .mixedOrders = true) (hd : dstsB ops = true) (hk : backB ops 0 = true) (hsz : (ops.all fun o => match o.dst with | some t => Nat.blt t a0.tmps.size | none => true) = true)
    (hG : ∀ i j v w w', liveB ops eat i j = true → G i w w' → R j v w → R j v w') (hS : S { w with drawn := w.drawn + 1 }) (hs : FSteps P ops eat S G R a0 Q ops 0)
    (hfin : ∀ (vs : List Value) w, vs.length = ops.length → S w → (∀ j v, vs[j]? = some v → (∀ i, i < ops.length → eat.contains (i, j) = false) → R j v w) → Q .normal (lay ops (vs.map some) a0) w) : (Code.region id ops.toArray true).wp P Q a0 w := by
  refine wp_region_held (S := S) hm ?_
  have h := flow_go hd hk (fun o ho t ht => by
    have := (List.all_eq_true.1 hsz) o ho
    rw [ht] at this; simpa [Nat.blt_eq] using this) hG hs hfin ops.length (List.replicate ops.length none) _ (by simp) (by simp) hS (fun i v h _ => by
    rw [List.getElem?_replicate] at h; split at h <;> cases h) (fun i v _ h => by
    rw [List.getElem?_replicate] at h; split at h <;> cases h)
  have e1 : lay ops (List.replicate ops.length none) a0 = a0 := by
    clear h hs hfin hsz hd hk hG
    induction ops with
    | nil => rfl
    | cons o os ih => exact ih
  rw [e1] at h
  have e2 : ((List.replicate ops.length (none : Option Value)).map Option.isSome).toArray = Array.replicate ops.length false := by simp
  rw [e2] at h
  exact h
end
end Go.Proofs.YtkjmjppmpcnejaaDoor
/- Flows whose operations yield plain values, expressions and rows of them, and only lay new memory. -/
namespace Go.Proofs.YtkjmjppmpcnejaaDoor
set_option maxRecDepth 100000
open Go.RowKit

set_option linter.unusedVariables false
theorem ev {a : Act} {t : Nat} {v : Value} (h : a.tmps[t]? = some v) : a.eval (.tmp t) = v := by
  simp [Act.eval, Array.getD_eq_getD_getElem?, h]
section
variable {o : Oper} {a : Act} {w w' : World} {K : Act → World → Prop} {Q : Exit → Act → World → Prop}
theorem wp_val {v : Value} (h : (execOp a.eval o).run Tryd.prog w = .ok (.value v) w') (hK : K (a.put o.dst v) w') : o.wp Tryd.prog a w K Q := by
  unfold Oper.wp
  rw [h, Oper.upon_value]
  exact hK
theorem wp_ent {f : FuncId} {vs : Array Value} (h : (execOp a.eval o).run Tryd.prog w = .ok (.enter f vs) w) (hc : Calls Tryd.prog f vs w fun e w' => ∃ v, e = .returned v ∧ K (a.put o.dst v) w') : o.wp Tryd.prog a w K Q := by
  unfold Oper.wp
  rw [h, Oper.upon_enter]
  refine hc.mono ?_
  rintro e w' ⟨v, rfl, hk⟩
  exact hk
end
theorem want_in {ops : List Oper} {o oj : Oper} {a : Act} {j t : Nat} {b : Bool} (hg : o.guard = some (j, b)) (hj : ops[j]? = some oj) (ht : oj.dst = some t) (h : a.tmps[t]? = some (.bool b)) : Region.wanted o (yielded ops.toArray a.tmps) = true := by
  unfold Region.wanted yielded
  simp [hg, hj, ht, h]

/-- What an operation yields. -/
inductive Sp where
  | val (v : Value)
  | re (r : RE)
  | row (l : List RE)
  | any
def Sp.at : Sp → Value → World → Prop
  | .val u, v, _ => v = u
  | .re r, v, w => ∃ b, v = PT b ∧ ReAt w b r
  | .row l, v, w => ResRow w v l
  | .any, _, _ => True
theorem Sp.keep {s : Sp} {v : Value} {w w' : World} (hb : Below w.heap.size w w') (h : s.at v w) : s.at v w' := by
  cases s with
  | val u => exact h
  | re r => obtain ⟨b, h1, h2⟩ := h; exact ⟨b, h1, h2.keep hb⟩
  | row l => exact ResRow.below h hb
  | any => trivial

def BStep (ops : List Oper) (sp : List Sp) (w0 : World) (a0 : Act) (Q : Exit → Act → World → Prop) (i : Nat) (o : Oper) : Prop :=
  ∀ a w, Below w0.heap.size w0 w → (∀ t, noDst ops t = true → a.tmps[t]? = a0.tmps[t]?) → (∀ j, (depsOf o).contains j = true → ∃ v, (sp.getD j .any).at v w ∧ ∀ o' t, ops[j]? = some o' → o'.dst = some t → a.tmps[t]? = some v) →
    Region.wanted o (yielded ops.toArray a.tmps) = true ∧ ∀ K : Act → World → Prop, (∀ v w', (sp.getD i .any).at v w' → Below w.heap.size w w' → K (a.put o.dst v) w') → o.wp Tryd.prog a w K Q
def BSteps (ops : List Oper) (sp : List Sp) (w0 : World) (a0 : Act) (Q : Exit → Act → World → Prop) : List Oper → Nat → Prop
  | [], _ => True
  | o :: os, k => BStep ops sp w0 a0 Q k o ∧ BSteps ops sp w0 a0 Q os (k + 1)
theorem BSteps.steps {ops : List Oper} {sp : List Sp} {w0 : World} {a0 : Act} {Q : Exit → Act → World → Prop} : ∀ (os : List Oper) (k : Nat), BSteps ops sp w0 a0 Q os k →
    FSteps Tryd.prog ops [] (fun w => Below w0.heap.size w0 w) (fun _ w w' => Below w.heap.size w w') (fun j v w => (sp.getD j .any).at v w) a0 Q os k
  | [], _, _ => trivial
  | o :: os, k, h => ⟨fun a w hS _ hk hd => by
      obtain ⟨h1, h2⟩ := h.1 a w hS hk (fun j hj => hd j hj rfl)
      refine .inl ⟨h1, h2 _ ?_⟩
      intro v w' hv hb
      exact ⟨v, rfl, hv, hS.trans (hb.mono hS.size), hb⟩, BSteps.steps os (k + 1) h.2⟩
theorem flowB {ops : List Oper} {w0 : World} {a0 : Act} {Q : Exit → Act → World → Prop} {id : Nat} (sp : List Sp) (hm : (Tryd.prog).follows .mixedOrders = true) (hd : dstsB ops = true) (hk : backB ops 0 = true) (hsz : (ops.all fun o => match o.dst with | some t => Nat.blt t a0.tmps.size | none => true) = true)
    (hs : BSteps ops sp w0 a0 Q ops 0)
    (hfin : ∀ (vs : List Value) w, vs.length = ops.length → Below w0.heap.size w0 w → (∀ j v, vs[j]? = some v → (sp.getD j .any).at v w) → Q .normal (lay ops (vs.map some) a0) w) : (Code.region id ops.toArray true).wp Tryd.prog Q a0 w0 :=
  flow [] (fun w => Below w0.heap.size w0 w) (fun _ w w' => Below w.heap.size w w') (fun j v w => (sp.getD j .any).at v w) hm hd hk hsz (fun _ _ _ _ _ _ hb h => Sp.keep hb h) ⟨rfl, rfl, rfl, Nat.le_refl _, fun _ _ => rfl⟩ (BSteps.steps ops 0 hs)
    fun vs w hl hS hR => hfin vs w hl hS fun j v hv => hR j v hv fun _ _ => rfl
end Go.Proofs.YtkjmjppmpcnejaaDoor
/- ReOrders: order, number and groups turn nothing. -/
namespace Go.Proofs.YtkjmjppmpcnejaaDoor
set_option maxRecDepth 100000
set_option linter.unusedSimpArgs false
set_option linter.unusedVariables false
open Go.RowKit

/-- A row of made expressions that grows, with no box beside it. -/
structure MkN (w : World) (B : Nat) (out : Value) (ps : List (Nat × RE)) (W : World) : Prop where
  own : OwnZ W B out ps
  elem : ∀ p ∈ ps, ReAt W p.1 p.2
  le : B ≤ W.heap.size
  below : Below B w W
theorem MkN.step {w W W' : World} {B : Nat} {out : Value} {ps : List (Nat × RE)} (h : MkN w B out ps W) (hb : Below W.heap.size W W') : MkN w B out ps W' :=
  ⟨h.own.keep hb, fun p hp => (h.elem p hp).keep hb, Nat.le_trans h.le hb.size, h.below.trans (hb.mono h.le)⟩

theorem x_sliceLoP (ρ : Operand → Value) (d : Option Tmp) (x y : Operand) (ty : TypeId) (pos : String) (af : Array Edge) (g : Option (Nat × Bool)) (b off len cap t : Nat) (hx : ρ x = .slice (some ⟨b, off, none⟩) len cap) (hy : ρ y = .int .i64 t) (h1 : t < len) (h2 : len ≤ cap) (w : World) :
    (execOp ρ { dst := d, op := .slice 39 x (some y) none none, type := ty, pos := pos, after := af, guard := g }).run Tryd.prog w = .ok (.value (.slice (some ⟨b, off + t, none⟩) (len - t) (cap - t))) w := by
  have e1 : t ≤ len := by omega
  have e2 : ¬ cap = t := by omega
  simp [go_sem, hx, hy, e1, e2]
theorem x_sliceHiP (ρ : Operand → Value) (d : Option Tmp) (x y : Operand) (ty : TypeId) (pos : String) (af : Array Edge) (g : Option (Nat × Bool)) (b off len cap t : Nat) (hx : ρ x = .slice (some ⟨b, off, none⟩) len cap) (hy : ρ y = .int .i64 t) (h1 : t < len) (h2 : len ≤ cap) (w : World) :
    (execOp ρ { dst := d, op := .slice 39 x none (some y) none, type := ty, pos := pos, after := af, guard := g }).run Tryd.prog w = .ok (.value (.slice (some ⟨b, off, none⟩) t cap)) w := by
  simp [go_sem, hx, hy]
  omega
theorem x_buildNilP (ρ : Operand → Value) (d : Option Tmp) (ty : TypeId) (pos : String) (af : Array Edge) (g : Option (Nat × Bool)) (w : World) :
    (execOp ρ { dst := d, op := .buildSlice 39 0 #[], type := ty, pos := pos, after := af, guard := g }).run Tryd.prog w = .ok (.value (.slice (some ⟨w.heap.size, 0, none⟩) 0 0)) (w.alloc (.cells #[] 27)) := by
  simp [go_sem]
theorem x_build1P (ρ : Operand → Value) (d : Option Tmp) (x : Operand) (ty : TypeId) (pos : String) (af : Array Edge) (g : Option (Nat × Bool)) (b : Nat) (hx : ρ x = PT b) (w : World) :
    (execOp ρ { dst := d, op := .buildSlice 39 1 #[(0, x)], type := ty, pos := pos, after := af, guard := g }).run Tryd.prog w = .ok (.value (.slice (some ⟨w.heap.size, 0, none⟩) 1 1)) (w.alloc (.cells #[PT b] 27)) := by
  unfold PT at hx ⊢
  simp [go_sem, hx]
theorem x_build2P (ρ : Operand → Value) (d : Option Tmp) (x y : Operand) (ty : TypeId) (pos : String) (af : Array Edge) (g : Option (Nat × Bool)) (b c : Nat) (hx : ρ x = PT b) (hy : ρ y = PT c) (w : World) :
    (execOp ρ { dst := d, op := .buildSlice 39 2 #[(0, x), (1, y)], type := ty, pos := pos, after := af, guard := g }).run Tryd.prog w = .ok (.value (.slice (some ⟨w.heap.size, 0, none⟩) 2 2)) (w.alloc (.cells #[PT b, PT c] 27)) := by
  unfold PT at hx hy ⊢
  simp [go_sem, hx, hy]
theorem x_loadPt (ρ : Operand → Value) (d : Option Tmp) (x : Operand) (ty : TypeId) (pos : String) (af : Array Edge) (g : Option (Nat × Bool)) (b n p : Nat) (hx : ρ x = .pointer (some ⟨b, n, none⟩)) (w : World) (hc : w.cell? ⟨b, n, none⟩ = some (PT p)) :
    (execOp ρ { dst := d, op := .load 27 x, type := ty, pos := pos, after := af, guard := g }).run Tryd.prog w = .ok (.value (PT p)) w := by
  unfold PT at hc ⊢
  simp [go_sem, hx, hc]
/-- The cells of a part of the row. -/
theorem ptr_news {W : World} {g cap : Nat} {ps : List (Nat × RE)} (h : RowAt W (.slice (some ⟨g, 0, none⟩) ps.length cap) ps) (t n : Nat) :
    ∀ j u, (ptrs ((ps.drop t).take n))[j]? = some u → W.cell? (Addr.add ⟨g, 0 + t, none⟩ j) = some u := fun j u hu => by
  obtain ⟨-, a, c, e, h1⟩ := h
  cases e
  have hj : j < n := by
    have := (List.getElem?_eq_some_iff.1 hu).1
    rw [ptrs_length, List.length_take] at this; omega
  rw [ptrs, List.getElem?_map, List.getElem?_take, if_pos hj, List.getElem?_drop] at hu
  cases hp : ps[t + j]? with
  | none => rw [hp] at hu; cases hu
  | some p =>
    rw [hp] at hu
    obtain ⟨b', off', e', -, hc⟩ := h1 _ _ hp
    cases e'
    have e2 : some (PT p.1) = some u := hu
    rw [← e2, ← hc]
    by_cases h0 : j = 0
    · subst h0; simp [Addr.add]
    · simp [Addr.add, h0, Nat.add_assoc]

theorem row_two {w : World} {b c : Nat} {r s : RE} (hb : ReAt w b r) (hc : ReAt w c s) : ResRow (w.alloc (.cells #[PT b, PT c] 27)) (.slice (some ⟨w.heap.size, 0, none⟩) 2 2) [r, s] := by
  have hB := (Below.refl w.heap.size w).alloc (Nat.le_refl _) (.cells #[PT b, PT c] 27)
  have hk : Blk (w.alloc (.cells #[PT b, PT c] 27)) w.heap.size #[PT b, PT c] 27 := Blk.newAt rfl _ _
  have h : RowAt (w.alloc (.cells #[PT b, PT c] 27)) (.slice (some ⟨w.heap.size, 0, none⟩) 2 2) [(b, r), (c, s)] := by
    refine ⟨by simp, _, 2, rfl, fun j p hp => ⟨w.heap.size, 0, rfl, hk.lt, ?_⟩⟩
    rw [Nat.zero_add, hk.cell]
    match j, hp with
    | 0, hp => obtain rfl : (b, r) = p := by simpa using hp
               rfl
    | 1, hp => obtain rfl : (c, s) = p := by simpa using hp
               rfl
    | j + 2, hp => simp at hp
  exact h.res fun p hp => by
    simp only [List.mem_cons, List.not_mem_nil, or_false] at hp
    rcases hp with rfl | rfl
    · exact hb.keep hB
    · exact hc.keep hB
theorem row_take {W : World} {g n cap : Nat} {ps : List (Nat × RE)} (h : RowAt W (.slice (some ⟨g, 0, none⟩) n cap) ps) (hn : ps.length = n) (t : Nat) (ht : t ≤ n) : RowAt W (.slice (some ⟨g, 0, none⟩) t cap) (ps.take t) := by
  obtain ⟨h0, a, c, e, h1⟩ := h
  injection e with e1 e2 e3
  subst e1 e3
  refine ⟨by rw [List.length_take]; omega, _, _, by rw [List.length_take, Nat.min_eq_left (by omega)], fun j p hp => ?_⟩
  rw [List.getElem?_take] at hp
  split at hp
  · exact h1 j p hp
  · cases hp
theorem row_drop {W : World} {g n cap : Nat} {ps : List (Nat × RE)} (h : RowAt W (.slice (some ⟨g, 0, none⟩) n cap) ps) (hn : ps.length = n) (t : Nat) (ht : t ≤ n) : RowAt W (.slice (some ⟨g, 0 + t, none⟩) (n - t) (cap - t)) (ps.drop t) := by
  obtain ⟨h0, a, c, e, h1⟩ := h
  injection e with e1 e2 e3
  subst e1 e3
  refine ⟨by rw [List.length_drop]; omega, _, _, by rw [List.length_drop, hn], fun j p hp => ?_⟩
  rw [List.getElem?_drop] at hp
  obtain ⟨b, off, e, h3, h4⟩ := h1 (t + j) p hp
  injection e with e; injection e with e5 e6
  subst e5 e6
  exact ⟨g, 0 + t, rfl, h3, by rw [Nat.zero_add, ← h4, Nat.zero_add]⟩

set_option maxHeartbeats 2000000 in
theorem reOrders_any (v : Value) (l : List SHP) (n : Int) (w : World) (hl : ShsRow w v l) (hT : TabAt w) :
    Calls Tryd.prog 5 #[v, .int .i64 n] w fun e w' => e = .returned (.bool true) ∧ Below w.heap.size w w' := by
  have HL := hide hl
  have HT := hide hT
  obtain ⟨hln, la, lcap, rfl, -⟩ := hl.at
  clear hl hT
  obtain ⟨B, hB⟩ : ∃ B, B = w.heap.size := ⟨_, rfl⟩
  go_enter Tryd.func5, Tryd.ntmps5
  go_wp2_with fail
  refine (head3_any _ HT.out).mono ?_
  rintro e w1 ⟨rfl, hb1⟩
  rw [← hB] at hb1
  have hs1 : B ≤ w1.heap.size := by have := hb1.size; omega
  have HB1 := hide hb1
  have HB := hide hB
  clear hb1 hB
  by_cases h5 : 5 < l.length
  · have hd5 : decide ((5 : Int) < l.length) = true := decide_eq_true (by omega)
    have hd5' : decide (5 < l.length) = true := decide_eq_true h5
    go_wp2
    go_ret
    exact ⟨rfl, HB.out ▸ HB1.out⟩
  have hd5 : decide ((5 : Int) < l.length) = false := decide_eq_false (by omega)
  have hd5' : decide (5 < l.length) = false := decide_eq_false h5
  by_cases h0 : l.length = 0
  · have hd0 : ((l.length : Int) == 0) = true := by simp [h0]
    have hd0' : (l.length == 0) = true := by simp [h0]
    go_wp2
    go_ret
    exact ⟨rfl, HB.out ▸ HB1.out⟩
  have hd0 : ((l.length : Int) == 0) = false := beq_eq_false_iff_ne.2 (by omega)
  have hd0' : (l.length == 0) = false := beq_eq_false_iff_ne.2 h0
  have hM0 : MkN w B (.slice (some ⟨w1.heap.size, 0, none⟩) 0 0) [] (w1.alloc (.cells #[] 27)) :=
    ⟨OwnZ.start (Blk.newAt rfl _ _) hs1, fun p hp => by simp at hp, by simp; omega, HB1.out.alloc hs1 _⟩
  have HM0 := hide hM0
  clear hM0 HB1
  go_wp2
  go_loopw [5, 24] (fun out c wr => ∃ (k : Nat) (ps : List (Nat × RE)), k ≤ l.length ∧ c = .int .i64 k ∧ Hid (ps.length = k) ∧ Hid (ps.map Prod.snd = (l.take k).map SHP.re) ∧ Hid (∀ x ∈ l.take k, Tx x ∧ x.nodes ≤ 30) ∧ Hid (MkN w B out ps wr)) (fun _ c _ => l.length - (intOf c).toNat)
  case atStart => exact ⟨0, [], by omega, rfl, rfl, rfl, (fun x hx => by simp at hx), HM0.out⟩
  case round =>
    clear HM0
    obtain ⟨k, ps, hk, rfl, HLn, HS, HF, HM⟩ := hrel
    obtain ⟨-, la', lcap', e1, g1⟩ := (HL.out.keep (show Below w.heap.size w wr from HB.out ▸ HM.out.below)).at
    obtain ⟨rfl, rfl⟩ : la = la' ∧ lcap = lcap' := by cases e1; exact ⟨rfl, rfl⟩
    clear e1
    have hTW : TabAt wr := HT.out.agree (Agree.of_all (K := fun _ => True) (HB.out ▸ HM.out.below)) trivial
    by_cases hlt : k < l.length
    · have hkd : decide (k < l.length) = true := by simp [hlt]
      obtain ⟨b, off, kv, rfl, -, ⟨c0, c1, c2, c3, c4⟩, hC⟩ := g1 k hlt
      have hb1 := (Below.refl wr.heap.size wr).alloc (Nat.le_refl _) (.cells #[.int .i64 l[k].op, .int .u8 l[k].lo, .int .u8 l[k].hi, .string l[k].text, kv] 24)
      have HTK := hide (show l.take (k + 1) = l.take k ++ [l[k]] from List.take_succ_eq_append_getElem hlt)
      have hblk := Blk.newAt (w := wr) rfl #[.int .i64 l[k].op, .int .u8 l[k].lo, .int .u8 l[k].hi, .string l[k].text, kv] 24
      have hC1 := hC.keep hb1
      have hfew := few_any _ _ _ hC1
      obtain ⟨-, kf, kcap, hkv, -⟩ : True ∧ ∃ a c, kv = .slice a (l[k]).kids.length c ∧ True := by
        obtain ⟨v', e', hr', -⟩ := hC.open
        obtain ⟨-, a', c', e'', -⟩ := hr'.at
        have : kv = v' := by simpa using e'
        exact ⟨trivial, a', c', this.trans e'', trivial⟩
      have HFEW := hide hfew
      have HM1 := hide (HM.out.step hb1)
      have hT1 := hTW.agree (Agree.of_all (K := fun _ => True) hb1) trivial
      have HT1 := hide hT1
      have HC1 := hide hC1
      have HBK := hide hblk
      have hps1000 : ps.length ≤ 1000000 := by rw [HLn.out]; omega
      subst hkv
      generalize hks : l[k] = sk at *
      clear hfew hC hC1 g1 hT1 hTW hblk
      unfold ShVal at HFEW
      go_wp2_with fail
      refine HFEW.out.mono ?_
      rintro e w2 ⟨few, rfl, hfw, hb2⟩
      have HFW := hide hfw
      have HM2 := hide (HM1.out.step hb2)
      have HC2 := hide (HC1.out.keep hb2)
      have HT2 := hide (HT1.out.agree (Agree.of_all (K := fun _ => True) hb2) trivial)
      have hblk2 := HBK.out.below hb2 HBK.out.lt
      clear hfw hb2 HFEW HM1 HC1 HT1 HBK c0 c1 c2 c3 c4 hb1
      cases few
      · clear hblk2
        go_wp2
        go_ret
        exact ⟨rfl, HB.out ▸ HM2.out.below⟩
      obtain ⟨htx2, hnd2⟩ := HFW.out rfl
      clear HFW
      have yB := hblk2
      have y0 := yB.cell 0; have y1 := yB.cell 1; have y2 := yB.cell 2; have y3 := yB.cell 3; have y4 := yB.cell 4
      simp only [List.getElem?_toArray, List.getElem?_cons_zero, List.getElem?_cons_succ] at y0 y1 y2 y3 y4
      clear yB
      clear hblk2
      have hmk := make_any sk _ w2 HC2.out htx2 hnd2 HT2.out
      have HMK := hide hmk
      clear hmk
      unfold ShVal at HMK
      go_wp2_with fail
      refine HMK.out.mono ?_
      rintro e w3 ⟨kb, rfl, hkr, hb3⟩
      have HM3 := hide (HM2.out.step hb3)
      have hb4 := (Below.refl w3.heap.size w3).alloc (Nat.le_refl _) (.cells #[PT kb] 27)
      obtain ⟨v5, W5, hr5, hO5, hB5, hk5⟩ := run_appendZ (HM3.out.step hb4).own 39 w3.heap.size kb sk.re (Blk.newAt rfl _ _) hps1000 (HM3.out.step hb4).le
      have hM4 := HM3.out.step hb4
      have hM5 : MkN w B v5 (ps ++ [(kb, sk.re)]) W5 := by
        refine ⟨hO5, fun p hp => ?_, Nat.le_trans hM4.le hB5.size, hM4.below.trans hB5⟩
        rcases List.mem_append.1 hp with hp | hp
        · exact hk5 _ _ (hM4.elem p hp)
        · simp at hp; subst hp; exact hk5 _ _ (hkr.keep hb4)
      obtain ⟨g3, cp3, rfl⟩ := hO5.slice
      obtain ⟨g2, cp2, hu⟩ := HM.out.own.slice
      subst hu
      have HM5 := hide hM5
      unfold PT at hr5 ⊢
      clear hkr hb3 hb4 hM4 hM5 hO5 hB5 hk5 HMK HM2 HM3 HC2 HT2 y0 y1 y2 y3 y4
      go_wp2_with (refine wpList_append_run rfl _ _ _ rfl _ _ _ rfl rfl hr5 ?_)
      refine ⟨⟨k + 1, ps ++ [(kb, sk.re)], by omega, by go_num, ?_, ?_, ?_, ?_⟩, by simp [intOf]; omega⟩
      · show (ps ++ [_]).length = k + 1
        rw [List.length_append, HLn.out]; rfl
      · show (ps ++ [_]).map Prod.snd = _
        rw [HTK.out, List.map_append, List.map_append, HS.out]; rfl
      · show ∀ x ∈ l.take (k + 1), _
        rw [HTK.out]
        intro x hx
        rcases List.mem_append.1 hx with hx | hx
        · exact HF.out x hx
        · simp at hx; subst hx; exact ⟨htx2, hnd2⟩
      · have h3 := HM5.out
        rw [show (ps ++ [(kb, sk.re)]).length = ps.length + 1 from by simp] at h3
        exact h3
    · obtain rfl : k = l.length := by omega
      rw [List.take_length] at HS HF
      clear g1
      have hkd : decide (l.length < l.length) = false := by simp
      obtain ⟨g2, cp2, hu⟩ := HM.out.own.slice
      rw [HLn.out] at hu
      subst hu
      obtain ⟨m, hm, hm2⟩ := and255 n
      obtain ⟨t, ht, hte⟩ : ∃ t : Nat, t < l.length ∧ (m : Int) % (l.length : Int) = (t : Int) := ⟨m % l.length, Nat.mod_lt _ (by omega), by omega⟩
      have HRW := hide (HM.out.own.row (by rw [HLn.out]; omega))
      have hcp : l.length ≤ cp2 := by
        obtain ⟨g', cap', cur', e', -, -, h', -⟩ := HM.out.own.own
        injection e' with e1 e2 e3
        rw [HLn.out] at h'; omega
      obtain ⟨L, hL⟩ : ∃ L, L = l.map SHP.re := ⟨_, rfl⟩
      have HSL : Hid (ps.map Prod.snd = L) := by show _ = _; rw [HS.out, hL]
      have HWL : Hid (∀ x ∈ L, Wf x) := by
        show ∀ x ∈ L, Wf x
        intro r hr
        rw [hL] at hr
        obtain ⟨x, -, rfl⟩ := List.mem_map.1 hr
        exact x.wf
      have HCN : Hid (cntL L ≤ 3300) := by
        show _ ≤ _
        have := cntL_shapes l HF.out
        rw [hL]; omega
      have HBW := hide HM.out.below
      have HLE := hide HM.out.le
      have HEL := hide HM.out.elem
      have HTW := hide hTW
      obtain ⟨N0, hN0⟩ : ∃ N0, N0 = l.length := ⟨_, rfl⟩
      rw [← hN0] at hkd h5 h0 hln hd5 hd5' hd0 hd0' ht hte hcp HLn hk hlt HRW ⊢
      have hN5 : N0 ≤ 5 := by omega
      clear HM HS HF hTW hL hk hlt hN0
      go_wp2
      rw [hte]
      obtain ⟨N, hN⟩ : ∃ N, N = wr.heap.size := ⟨_, rfl⟩
      obtain ⟨S, hSd⟩ : ∃ S : World → Prop, S = fun W => Below N wr W := ⟨_, rfl⟩
      have hSb : ∀ W, S W → Below N wr W := fun W h => by rw [hSd] at h; exact h
      have hbS : ∀ W, Below N wr W → S W := fun W h => by rw [hSd]; exact h
      have hS : S { wr with drawn := wr.drawn + 1 } := hbS _ ⟨rfl, rfl, rfl, Nat.le_refl _, fun _ _ => rfl⟩
      have hWs : N ≤ ({ wr with drawn := wr.drawn + 1 } : World).heap.size := Nat.le_of_eq hN
      clear hSd
      refine wp_region_noPanic (wp_region_held (S := S) (by kernel_rfl) ?_)
      show wpAnyH _ _ _ _ _ 10 #[false, false, false, false, false, false, false, false, false, false] _ _
      generalize ({ wr with drawn := wr.drawn + 1 } : World) = W at hS hWs ⊢
      refine h_take 1 (.slice (some ⟨g2, 0, none⟩) N0 cp2) rfl (by kernel_rfl) (by kernel_rfl) (by kernel_rfl) rfl (fun w hw => x_move _ _ _ _ _ _ _ _ rfl w) hS ?_
      simp only [Act.put, List.setIfInBounds_toArray, List.set_cons_succ, List.set_cons_zero]
      refine h_take 2 (.int .i64 t) rfl (by kernel_rfl) (by kernel_rfl) (by kernel_rfl) rfl (fun w hw => x_move _ _ _ _ _ _ _ _ rfl w) hS ?_
      simp only [Act.put, List.setIfInBounds_toArray, List.set_cons_succ, List.set_cons_zero]
      refine h_take 3 (.slice (some ⟨g2, 0 + t, none⟩) (N0 - t) (cp2 - t)) rfl (by kernel_rfl) (by kernel_rfl) (by kernel_rfl) rfl (fun w hw => x_sliceLoP _ _ _ _ _ _ _ _ g2 0 N0 cp2 t rfl rfl ht hcp w) hS ?_
      simp only [Act.put, List.setIfInBounds_toArray, List.set_cons_succ, List.set_cons_zero]
      refine h_take 5 (.slice (some ⟨g2, 0, none⟩) N0 cp2) rfl (by kernel_rfl) (by kernel_rfl) (by kernel_rfl) rfl (fun w hw => x_move _ _ _ _ _ _ _ _ rfl w) hS ?_
      simp only [Act.put, List.setIfInBounds_toArray, List.set_cons_succ, List.set_cons_zero]
      refine h_take 6 (.int .i64 t) rfl (by kernel_rfl) (by kernel_rfl) (by kernel_rfl) rfl (fun w hw => x_move _ _ _ _ _ _ _ _ rfl w) hS ?_
      simp only [Act.put, List.setIfInBounds_toArray, List.set_cons_succ, List.set_cons_zero]
      refine h_take 7 (.slice (some ⟨g2, 0, none⟩) t cp2) rfl (by kernel_rfl) (by kernel_rfl) (by kernel_rfl) rfl (fun w hw => x_sliceHiP _ _ _ _ _ _ _ _ g2 0 N0 cp2 t rfl rfl ht hcp w) hS ?_
      simp only [Act.put, List.setIfInBounds_toArray, List.set_cons_succ, List.set_cons_zero]
      have hS2 := hbS _ ((hSb _ hS).alloc hWs (.cells #[] 27))
      refine h_alloc 0 (.slice (some ⟨W.heap.size, 0, none⟩) 0 0) (W.alloc (.cells #[] 27)) rfl (by kernel_rfl) rfl (x_buildNilP _ _ _ _ _ _ _) hS2 ?_
      simp only [Act.put, List.setIfInBounds_toArray, List.set_cons_succ, List.set_cons_zero]
      obtain ⟨i, hi, hz0, hz1, hz2⟩ := info_parts infoP
      have hpl := HLn.out
      have hO1 : (W.alloc (.cells #[] 27)).ownsRow N 27 1 (.slice (some ⟨W.heap.size, 0, none⟩) 0 0) 0 (ptrs []) := ⟨rfl, .inr ⟨W.heap.size, 0, #[], rfl, hWs, Blk.newAt rfl _ _, by omega, by unfold maxLen; omega, rfl, rfl⟩⟩
      have hr1 : RowAt (W.alloc (.cells #[] 27)) (.slice (some ⟨g2, 0, none⟩) ps.length cp2) ps := by rw [hpl]; exact HRW.out.below (hN ▸ hSb _ hS2)
      refine h_oper 4 rfl (by kernel_rfl) rfl (wp_append_at _ _ _ rfl N _ i _ 1 8 Tryd.underlying39 hi hz0 hz1 hz2 rfl (by omega) _ _ _ rfl hO1 ⟨g2, 0 + t, none⟩ (N0 - t) (cp2 - t) (ptrs ((ps.drop t).take (N0 - t))) rfl (by rw [ptrs_length, List.length_take, List.length_drop, hpl]; omega) (ptr_news hr1 t (N0 - t)) (ptrs_one _) (by unfold maxLen; omega) (by omega) (by simp; omega) ?_)
      intro v1 W1 hO2 hg1
      have hS3 := hbS _ (below_grown (hSb _ hS2) hg1 hO1 (Nat.le_of_eq hN))
      have hW1 : N ≤ W1.heap.size := Nat.le_trans (by simp; omega) hg1.size
      refine ⟨hS3, ?_⟩
      simp only [Act.put, List.setIfInBounds_toArray, List.set_cons_succ, List.set_cons_zero]
      have hr2 : RowAt W1 (.slice (some ⟨g2, 0, none⟩) ps.length cp2) ps := by rw [hpl]; exact HRW.out.below (hN ▸ hSb _ hS3)
      have hn2 := ptr_news hr2 0 t
      simp only [Nat.add_zero, List.drop_zero] at hn2
      refine h_oper 8 rfl (by kernel_rfl) rfl (wp_append_at _ _ _ rfl N _ i _ 1 8 Tryd.underlying39 hi hz0 hz1 hz2 rfl (by omega) _ _ _ rfl hO2 ⟨g2, 0, none⟩ t cp2 (ptrs (ps.take t)) rfl (by rw [ptrs_length, List.length_take, hpl]; omega) hn2 (ptrs_one _) (by unfold maxLen; omega) (by omega) hW1 ?_)
      intro v2 W2 hO3 hg2
      have hS4 := hbS _ (below_grown (hSb _ hS3) hg2 hO2 (Nat.le_of_eq hN))
      have hW2 : N ≤ W2.heap.size := Nat.le_trans hW1 hg2.size
      refine ⟨hS4, ?_⟩
      simp only [Act.put, List.setIfInBounds_toArray, List.set_cons_succ, List.set_cons_zero]
      clear hr1 hr2 hn2 hO1 hO2 hg1 hg2 hS hS2 hS3 hWs hW1
      have hS := hS4
      clear hS4
      refine h_take 9 (v2) rfl (by kernel_rfl) (by kernel_rfl) (by kernel_rfl) rfl (fun w hw => x_assign _ _ _ _ _ _ _ _ rfl w) hS ?_
      simp only [Act.put, List.setIfInBounds_toArray, List.set_cons_succ, List.set_cons_zero]
      refine wpAnyH_done (by kernel_rfl) ?_ _
      refine NoPanic.normal ?_
      have hO4 : OwnP W2 N v2 (ps.drop t ++ ps.take t) := by
        unfold OwnP
        have e1 : ptrs [] ++ ptrs ((ps.drop t).take (N0 - t)) ++ ptrs (ps.take t) = ptrs (ps.drop t ++ ps.take t) := by
          rw [List.take_of_length_le (by simp; omega)]
          simp [ptrs]
        have e2 : (ps.drop t ++ ps.take t).length = 0 + (N0 - t) + t := by simp; omega
        rw [e2, ← e1]; exact hO3
      have HBN := hide (hSb W2 hS)
      have HO := hide hO4
      clear hS hO3 hO4 hpl
      go_wp2
      obtain ⟨p0, hp0⟩ : ∃ p0, ps[0]? = some p0 := ⟨ps[0]'(by rw [HLn.out]; omega), List.getElem?_eq_getElem _⟩
      obtain ⟨ot, hot⟩ : ∃ ot, ot = ps.drop t ++ ps.take t := ⟨_, rfl⟩
      have hotl : ot.length = N0 := by have := HLn.out; rw [hot]; simp; omega
      rw [← hot] at HO
      obtain ⟨g3, cp3, hv2, hg3, hcp3⟩ : ∃ g3 cp3, v2 = .slice (some ⟨g3, 0, none⟩) N0 cp3 ∧ g3 < W2.heap.size ∧ N0 ≤ cp3 := by
        have h := HO.out
        unfold OwnP at h
        rw [hotl] at h
        rcases h.2 with ⟨-, h0'⟩ | ⟨g, cap, cur, h1, h2, h3, h4, h5, -⟩
        · omega
        · exact ⟨g, cap, h1, (Array.getElem?_eq_some_iff.1 h3).1, h4⟩
      subst hv2
      obtain ⟨i, hi, hz0, hz1, hz2⟩ := info_parts infoP
      have HOR := hide (HO.out.row (by rw [hotl]; omega))
      have HC0 : Hid (∀ W, Below W2.heap.size W2 W → W.cell? ⟨g2, 0 + 0, none⟩ = some (PT p0.1)) := fun W hW => by
        obtain ⟨-, a', c', e', h1⟩ := (HRW.out.below (hN ▸ HBN.out)).below hW
        injection e' with e1 e2 e3
        obtain ⟨b', off', e4, -, h2⟩ := h1 0 p0 hp0
        rw [← e1] at e4
        injection e4 with e4; injection e4 with e5 e6
        subst e5 e6; exact h2
      refine flow [(2, 0), (7, 2), (7, 6)] (fun W => Below W2.heap.size W2 W)
        (fun i w w' => (i = 2 → ∃ b0, Blk w b0 #[] 27 ∧ ∀ k, k < w.heap.size → k ≠ b0 → w'.heap[k]? = w.heap[k]?) ∧ (i ≠ 2 → i ≠ 7 → Below w.heap.size w w'))
        (fun j v w => match j with
          | 0 => ∃ b, v = .slice (some ⟨b, 0, none⟩) 0 0 ∧ W2.heap.size ≤ b ∧ Blk w b #[] 27
          | 1 => v = .slice (some ⟨g3, 0, none⟩) N0 cp3
          | 2 => w.ownsRow W2.heap.size 27 1 v N0 (ptrs ot)
          | 3 => v = .slice (some ⟨g2, 0, none⟩) N0 cp2
          | 4 => v = .pointer (some ⟨g2, 0 + 0, none⟩)
          | 5 => v = PT p0.1
          | 6 => ∃ b, v = .slice (some ⟨b, 0, none⟩) 1 1 ∧ w.cell? ⟨b, 0, none⟩ = some (PT p0.1)
          | _ => w.ownsRow W2.heap.size 27 1 v (N0 + 1) (ptrs (ot ++ [p0])))
        (by kernel_rfl) (by kernel_rfl) (by kernel_rfl) (by kernel_rfl) ?_ ⟨rfl, rfl, rfl, Nat.le_refl _, fun _ _ => rfl⟩ ⟨?_, ?_, ?_, ?_, ?_, ?_, ?_, ?_, ?_, trivial⟩ ?_
      · intro i j v w w' hl hg hR
        by_cases h7 : i = 7
        · subst h7
          match j, hl, hR with
          | 0, hl, _ => exact absurd hl (fun h => Bool.noConfusion (h.symm.trans (by kernel_rfl : liveB _ _ _ _ = false)))
          | 1, _, hR => exact hR
          | 2, hl, _ => exact absurd hl (fun h => Bool.noConfusion (h.symm.trans (by kernel_rfl : liveB _ _ _ _ = false)))
          | 3, _, hR => exact hR
          | 4, _, hR => exact hR
          | 5, _, hR => exact hR
          | 6, hl, _ => exact absurd hl (fun h => Bool.noConfusion (h.symm.trans (by kernel_rfl : liveB _ _ _ _ = false)))
          | 7, hl, _ => exact absurd hl (fun h => Bool.noConfusion (h.symm.trans (by kernel_rfl : liveB _ _ _ _ = false)))
          | 8, hl, _ => exact absurd hl (fun h => Bool.noConfusion (h.symm.trans (by kernel_rfl : liveB _ _ _ _ = false)))
          | n + 9, hl, _ => exact absurd hl (fun h => Bool.noConfusion (h.symm.trans (by kernel_rfl : liveB _ _ _ _ = false)))
        · by_cases h2 : i = 2
          · subst h2
            obtain ⟨b0, hb0, hk0⟩ := hg.1 rfl
            match j, hl, hR with
            | 0, hl, _ => exact absurd hl (fun h => Bool.noConfusion (h.symm.trans (by kernel_rfl : liveB _ _ _ _ = false)))
            | 1, _, hR => exact hR
            | 2, hl, _ => exact absurd hl (fun h => Bool.noConfusion (h.symm.trans (by kernel_rfl : liveB _ _ _ _ = false)))
            | 3, _, hR => exact hR
            | 4, _, hR => exact hR
            | 5, _, hR => exact hR
            | 6, _, hR =>
              obtain ⟨b, h1, h3⟩ := hR
              refine ⟨b, h1, ?_⟩
              have hne : b ≠ b0 := fun e => by
                subst e
                have := hb0.cell 0
                rw [h3] at this; simp at this
              rw [← h3]
              exact World.cell?_of_block (w := w) (hk0 b (World.block_lt_of_cell? _ _ h3) hne)
            | 7, hl, _ => exact absurd hl (fun h => Bool.noConfusion (h.symm.trans (by kernel_rfl : liveB _ _ _ _ = false)))
            | 8, _, hR =>
              refine ⟨hR.1, ?_⟩
              rcases hR.2 with h3 | ⟨g, cap, cur, h3, h4, h5, h6, h7, h8, h9⟩
              · exact .inl h3
              · have hne : g ≠ b0 := fun e => by
                  subst e
                  have e9 : Blk w g cur 27 := h5
                  have e10 : cur = #[] := by have := e9.symm.trans hb0; simpa using this
                  subst e10
                  simp [ptrs] at h9
                exact .inr ⟨g, cap, cur, h3, h4, (hk0 g (Array.getElem?_eq_some_iff.1 h5).1 hne).trans h5, h6, h7, h8, h9⟩
            | n + 9, hl, _ => exact absurd hl (fun h => Bool.noConfusion (h.symm.trans (by kernel_rfl : liveB _ _ _ _ = false)))
          · have hb := hg.2 h2 h7
            match j, hR with
            | 0, hR => obtain ⟨b, h1, h3, h4⟩ := hR; exact ⟨b, h1, h3, h4.below hb h4.lt⟩
            | 1, hR => exact hR
            | 2, hR => exact own_below hR hb
            | 3, hR => exact hR
            | 4, hR => exact hR
            | 5, hR => exact hR
            | 6, hR =>
              obtain ⟨b, h1, h3⟩ := hR
              exact ⟨b, h1, (World.cell?_of_block (w := w) (hb.block _ (World.block_lt_of_cell? _ _ h3))).trans h3⟩
            | n + 7, hR => exact own_below hR hb
      · intro a w hS _ hk hd
        exact .inl ⟨rfl, wp_val (x_buildNilP _ _ _ _ _ _ w) ⟨_, rfl, ⟨w.heap.size, rfl, hS.size, Blk.newAt rfl _ _⟩, hS.alloc hS.size _, fun h => by omega, fun _ _ => (Below.refl _ _).alloc (Nat.le_refl _) _⟩⟩
      · intro a w hS _ hk hd
        have e9 : a.eval (.tmp 9) = .slice (some ⟨g3, 0, none⟩) N0 cp3 := ev ((hk 9 (by kernel_rfl)).trans rfl)
        exact .inl ⟨rfl, wp_val (x_move _ _ _ _ _ _ _ _ e9 w) ⟨_, rfl, rfl, hS, fun h => by omega, fun _ _ => Below.refl _ _⟩⟩
      · intro a w hS _ hk hd
        obtain ⟨u51, s51, d51⟩ := hd 0 (by kernel_rfl) (by kernel_rfl)
        obtain ⟨b51, q51, n51, k51⟩ : ∃ b, u51 = .slice (some ⟨b, 0, none⟩) 0 0 ∧ W2.heap.size ≤ b ∧ Blk w b #[] 27 := s51
        subst q51
        have e51 := ev (d51 _ _ rfl rfl)
        obtain ⟨u52, s52, d52⟩ := hd 1 (by kernel_rfl) (by kernel_rfl)
        have s52 : u52 = .slice (some ⟨g3, 0, none⟩) N0 cp3 := s52
        subst s52
        have e52 := ev (d52 _ _ rfl rfl)
        have hO1 : w.ownsRow W2.heap.size 27 1 (.slice (some ⟨b51, 0, none⟩) 0 0) 0 (ptrs []) := ⟨rfl, .inr ⟨b51, 0, #[], rfl, n51, k51, by omega, by unfold maxLen; omega, rfl, rfl⟩⟩
        have hr1 := HOR.out.below hS
        have hn1 := ptr_news (cap := cp3) (by rw [hotl]; exact hr1) 0 N0
        simp only [Nat.add_zero, List.drop_zero] at hn1
        rw [List.take_of_length_le (by omega)] at hn1
        refine .inl ⟨rfl, wp_append_at _ _ _ rfl W2.heap.size _ i _ 1 8 Tryd.underlying39 hi hz0 hz1 hz2 rfl (by omega) _ _ _ e51 hO1 ⟨g3, 0, none⟩ N0 cp3 (ptrs ot) e52 (by rw [ptrs_length, hotl]; omega) hn1 (ptrs_one _) (by unfold maxLen; omega) (by omega) hS.size ?_⟩
        intro v1 W1 hO2 hg1
        refine ⟨v1, rfl, ?_, below_grown hS hg1 hO1 (Nat.le_refl _), fun _ => ⟨b51, k51, fun k hk hne => hg1.block k hk (fun e => hne (by simpa [Value.ownBlock] using e))⟩, fun h => absurd rfl h⟩
        show W1.ownsRow W2.heap.size 27 1 v1 N0 (ptrs ot)
        have : ptrs [] ++ ptrs ot = ptrs ot := rfl
        rw [this, Nat.zero_add] at hO2
        exact hO2
      · intro a w hS _ hk hd
        have e5 : a.eval (.tmp 5) = .slice (some ⟨g2, 0, none⟩) N0 cp2 := ev ((hk 5 (by kernel_rfl)).trans rfl)
        exact .inl ⟨rfl, wp_val (x_move _ _ _ _ _ _ _ _ e5 w) ⟨_, rfl, rfl, hS, fun h => by omega, fun _ _ => Below.refl _ _⟩⟩
      · intro a w hS _ hk hd
        obtain ⟨u54, s54, d54⟩ := hd 3 (by kernel_rfl) (by kernel_rfl)
        have s54 : u54 = .slice (some ⟨g2, 0, none⟩) N0 cp2 := s54
        subst s54
        have e54 := ev (d54 _ _ rfl rfl)
        exact .inl ⟨rfl, wp_val (x_idxP _ _ _ _ _ _ _ _ g2 0 N0 cp2 0 e54 rfl (by omega) w) ⟨_, rfl, rfl, hS, fun h => by omega, fun _ _ => Below.refl _ _⟩⟩
      · intro a w hS _ hk hd
        obtain ⟨u55, s55, d55⟩ := hd 4 (by kernel_rfl) (by kernel_rfl)
        have s55 : u55 = .pointer (some ⟨g2, 0 + 0, none⟩) := s55
        subst s55
        have e55 := ev (d55 _ _ rfl rfl)
        exact .inl ⟨rfl, wp_val (x_loadPt _ _ _ _ _ _ _ _ _ _ e55 w (HC0.out w hS)) ⟨_, rfl, rfl, hS, fun h => by omega, fun _ _ => Below.refl _ _⟩⟩
      · intro a w hS _ hk hd
        obtain ⟨u56, s56, d56⟩ := hd 5 (by kernel_rfl) (by kernel_rfl)
        have s56 : u56 = PT p0.1 := s56
        subst s56
        have e56 := ev (d56 _ _ rfl rfl)
        exact .inl ⟨rfl, wp_val (x_build1P _ _ _ _ _ _ _ p0.1 e56 w) ⟨_, rfl, ⟨w.heap.size, rfl, (Blk.newAt rfl _ _).cell 0⟩, hS.alloc hS.size _, fun h => by omega, fun _ _ => (Below.refl _ _).alloc (Nat.le_refl _) _⟩⟩
      · intro a w hS _ hk hd
        obtain ⟨u53, s53, d53⟩ := hd 2 (by kernel_rfl) (by kernel_rfl)
        have s53 : w.ownsRow W2.heap.size 27 1 u53 N0 (ptrs ot) := s53
        have e53 := ev (d53 _ _ rfl rfl)
        obtain ⟨u57, s57, d57⟩ := hd 6 (by kernel_rfl) (by kernel_rfl)
        obtain ⟨b57, q57, k57⟩ : ∃ b, u57 = .slice (some ⟨b, 0, none⟩) 1 1 ∧ w.cell? ⟨b, 0, none⟩ = some (PT p0.1) := s57
        subst q57
        have e57 := ev (d57 _ _ rfl rfl)
        refine .inl ⟨rfl, wp_append_at _ _ _ rfl W2.heap.size _ i _ 1 8 Tryd.underlying39 hi hz0 hz1 hz2 rfl (by omega) _ _ _ e53 s53 ⟨b57, 0, none⟩ 1 1 (ptrs [p0]) e57 rfl (fun j u hu => ?_) (ptrs_one _) (by unfold maxLen; omega) (by omega) hS.size ?_⟩
        · cases j with
          | zero =>
            have : PT p0.1 = u := by simpa [ptrs] using hu
            rw [← this, ← k57]; rfl
          | succ j => simp [ptrs] at hu
        intro v1 W1 hO2 hg1
        refine ⟨v1, rfl, ?_, below_grown hS hg1 s53 (Nat.le_refl _), fun h => by omega, fun _ h => absurd rfl h⟩
        show W1.ownsRow W2.heap.size 27 1 v1 (N0 + 1) (ptrs (ot ++ [p0]))
        have : ptrs ot ++ ptrs [p0] = ptrs (ot ++ [p0]) := by simp [ptrs]
        rw [← this]; exact hO2
      · intro a w hS _ hk hd
        obtain ⟨u58, s58, d58⟩ := hd 7 (by kernel_rfl) (by kernel_rfl)
        have e58 := ev (d58 _ _ rfl rfl)
        exact .inl ⟨rfl, wp_val (x_assign _ _ _ _ _ _ _ _ e58 w) ⟨_, rfl, s58, hS, fun h => by omega, fun _ _ => Below.refl _ _⟩⟩
      intro vs W3 hl3 hS3 hR3
      match vs, hl3 with
      | [z0, z1, z2, z3, z4, z5, z6, z7, v10], _ =>
      have hO10 : W3.ownsRow W2.heap.size 27 1 v10 (N0 + 1) (ptrs (ot ++ [p0])) := hR3 8 _ rfl (fun i hi => by rcases i with _ | _ | _ | _ | _ | _ | _ | _ | _ | i <;> first | rfl | (simp at hi; omega))
      simp only [lay, List.map_cons, List.map_nil, Act.put, List.setIfInBounds_toArray, List.set_cons_succ, List.set_cons_zero]
      clear hR3
      have hb3 : Below wr.heap.size wr W3 := (hN ▸ HBN.out : Below wr.heap.size wr W2).trans (hS3.mono (hN ▸ HBN.out : Below wr.heap.size wr W2).size)
      obtain ⟨L2, hL2⟩ : ∃ L2, L2 = (ot ++ [p0]).map Prod.snd := ⟨_, rfl⟩
      have hmem : ∀ r, r ∈ L ↔ r ∈ L2 := by
        intro r
        rw [← HSL.out, hL2, hot, List.mem_map, List.mem_map]
        have h3 : ∀ p, p ∈ ps ↔ p ∈ ps.drop t ++ ps.take t ++ [p0] := fun p => by
          rw [List.mem_append, List.mem_append]
          constructor
          · intro hp
            rw [← List.take_append_drop t ps, List.mem_append] at hp
            exact .inl hp.symm
          · rintro ((hp | hp) | hp)
            · exact List.mem_of_mem_drop hp
            · exact List.mem_of_mem_take hp
            · rw [List.mem_singleton] at hp; subst hp; exact List.mem_of_getElem? hp0
        constructor
        · rintro ⟨p, hp, e⟩; exact ⟨p, (h3 p).1 hp, e⟩
        · rintro ⟨p, hp, e⟩; exact ⟨p, (h3 p).2 hp, e⟩
      have hcn : cntL L2 ≤ 6600 := by
        have h3 := HCN.out
        have h4 : cntL L = cntL ((ps.take t).map Prod.snd) + cntL ((ps.drop t).map Prod.snd) := by
          rw [← cntL_append, ← List.map_append, List.take_append_drop, HSL.out]
        have h5 : p0.2 ∈ L := by rw [← HSL.out]; exact List.mem_map.2 ⟨p0, List.mem_of_getElem? hp0, rfl⟩
        have h6 : p0.2.cnt ≤ cntL L := by
          obtain ⟨u, x, e⟩ := List.append_of_mem h5
          rw [e, cntL_append, cntL_cons]; omega
        rw [hL2, List.map_append, cntL_append, hot, List.map_append, cntL_append]
        have h7 : cntL ([p0].map Prod.snd) = p0.2.cnt := by simp [cntL]
        omega
      have hwl2 : ∀ r ∈ L2, Wf r := fun r hr => HWL.out r ((hmem r).2 hr)
      have HE2 := hide (any_mem HWL.out hmem)
      have HE3 := hide (both_mem HWL.out hmem)
      have cb0 := cnt_bounds (l := L) (by have := HCN.out; omega)
      have cbz := cnt_bounds (l := L2) (by omega)
      have HROW : Hid (ResRow wr (.slice (some ⟨g2, 0, none⟩) N0 cp2) L) := by
        show ResRow _ _ _
        rw [← HSL.out]; exact HRW.out.res HEL.out
      have HELM : Hid (∀ p ∈ ot ++ [p0], ReAt wr p.1 p.2) := fun p hp => HEL.out p (by
        rw [hot] at hp
        rcases List.mem_append.1 hp with hp | hp
        · rcases List.mem_append.1 hp with hp | hp
          · exact List.mem_of_mem_drop hp
          · exact List.mem_of_mem_take hp
        · rw [List.mem_singleton] at hp; subst hp; exact List.mem_of_getElem? hp0)
      have HROW2 : Hid (ResRow W3 v10 L2) := by
        show ResRow _ _ _
        rw [hL2]
        have hO : OwnP W3 W2.heap.size v10 (ot ++ [p0]) := by
          unfold OwnP
          rw [show (ot ++ [p0]).length = N0 + 1 from by simp [hotl]]; exact hO10
        exact (hO.row (by simp [hotl]; omega)).res fun p hp => (HELM.out p hp).keep hb3
      have HB3 := hide hb3
      have HT3 := hide (HTW.out.agree (Agree.of_all (K := fun _ => True) hb3) trivial)
      have HMEM := hide hmem
      have HW2 := hide hwl2
      have HZ0 := hide cb0
      have HZ2 := hide cbz
      have hwA := (wf_any HWL.out).k
      have hwB := (wf_both HWL.out).k
      have HWA := hide hwA
      have HWB := hide hwB
      clear hO10 hS3 hb3 hmem hcn hwl2 hL2 HOR HO HBN hot hotl HELM cb0 cbz hwA hwB HC0 hp0 hg3 hcp3 hSb hbS hi hz0 hz1 hz2
      go_wp2_with fail
      refine (any_re L _ _ (HROW.out.below HB3.out) HWL.out HZ0.out.1 HZ0.out.2.2.1 HT3.out).mono ?_
      rintro e w4 ⟨b1, rfl, hr1, hb4⟩
      have HR1 := hide hr1
      have HB4 := hide (HB3.out.trans (hb4.mono HB3.out.size))
      have HQ4 := hide (HROW2.out.below hb4)
      have HT4 := hide (HT3.out.agree (Agree.of_all (K := fun _ => True) hb4) trivial)
      clear hr1 hb4 HB3 HROW2 HT3
      unfold PT
      go_wp2_with fail
      refine (any_re L2 _ _ HQ4.out HW2.out HZ2.out.1 HZ2.out.2.2.1 HT4.out).mono ?_
      rintro e w5 ⟨b2, rfl, hr2, hb5⟩
      rw [← HE2.out] at hr2
      have hsm := same_re (rAny L) (rAny L) b1 b2 w5 HWA.out HWA.out (HR1.out.keep hb5) hr2 (HT4.out.agree (Agree.of_all (K := fun _ => True) hb5) trivial)
      rw [lexN_self] at hsm
      have HSM := hide hsm
      have HB5 := hide (HB4.out.trans (hb5.mono HB4.out.size))
      have HQ5 := hide (HQ4.out.below hb5)
      have HT5 := hide (HT4.out.agree (Agree.of_all (K := fun _ => True) hb5) trivial)
      clear hsm hr2 hb5 HB4 HQ4 HT4 HR1
      unfold PT at HSM ⊢
      go_wp2_with fail
      refine HSM.out.mono ?_
      rintro e w6 ⟨rfl, hm6⟩
      have hb6 := hm6.below
      have HB6 := hide (HB5.out.trans (hb6.mono HB5.out.size))
      have HQ6 := hide (HQ5.out.below hb6)
      have HT6 := hide (HT5.out.agree (Agree.of_all (K := fun _ => True) hb6) trivial)
      clear hb6 hm6 HB5 HQ5 HT5 HSM
      go_wp2_with fail
      refine (both_re L _ _ (HROW.out.below HB6.out) HWL.out HZ0.out.1 HZ0.out.2.2.2 HT6.out).mono ?_
      rintro e w7 ⟨b3, rfl, hr1, hb4⟩
      have HR1 := hide hr1
      have HB4 := hide (HB6.out.trans (hb4.mono HB6.out.size))
      have HQ4 := hide (HQ6.out.below hb4)
      have HT4 := hide (HT6.out.agree (Agree.of_all (K := fun _ => True) hb4) trivial)
      clear hr1 hb4 HB6 HQ6 HT6
      unfold PT
      go_wp2_with fail
      refine (both_re L2 _ _ HQ4.out HW2.out HZ2.out.1 HZ2.out.2.2.2 HT4.out).mono ?_
      rintro e w8 ⟨b4, rfl, hr2, hb5⟩
      rw [← HE3.out] at hr2
      have hsm := same_re (rBoth L) (rBoth L) b3 b4 w8 HWB.out HWB.out (HR1.out.keep hb5) hr2 (HT4.out.agree (Agree.of_all (K := fun _ => True) hb5) trivial)
      rw [lexN_self] at hsm
      have HSM := hide hsm
      have HB5 := hide (HB4.out.trans (hb5.mono HB4.out.size))
      have HT5 := hide (HT4.out.agree (Agree.of_all (K := fun _ => True) hb5) trivial)
      clear hsm hr2 hb5 HB4 HQ4 HT4 HR1
      unfold PT at HSM ⊢
      go_wp2_with fail
      refine HSM.out.mono ?_
      rintro e w9 ⟨rfl, hm6⟩
      have hb6 := hm6.below
      have HB9 := hide (HB5.out.trans (hb6.mono HB5.out.size))
      have HT9 := hide (HT5.out.agree (Agree.of_all (K := fun _ => True) hb6) trivial)
      clear hb6 hm6 HB5 HT5 HSM HE2 HE3 HMEM HW2 HZ2 HWB
      go_wp2
      have HR9 := hide (HRW.out.below HB9.out)
      have HE9 : Hid (∀ p ∈ ps, ReAt w9 p.1 p.2) := fun p hp => (HEL.out p hp).keep HB9.out
      have HK0 : ∀ W, Below w9.heap.size w9 W → ResRow W (.slice (some ⟨g2, 0, none⟩) N0 cp2) L := fun W hW => (HROW.out.below HB9.out).below hW
      have HK1 : ∀ W, Below w9.heap.size w9 W → ResRow W (.slice (some ⟨g2, 0, none⟩) t cp2) (L.take t) := fun W hW => by
        rw [← HSL.out, ← List.map_take]
        exact (row_take HR9.out HLn.out t (by omega)).res (fun p hp => HE9.out p (List.mem_of_mem_take hp)) |>.below hW
      have HK2 : ∀ W, Below w9.heap.size w9 W → ResRow W (.slice (some ⟨g2, 0 + t, none⟩) (N0 - t) (cp2 - t)) (L.drop t) := fun W hW => by
        rw [← HSL.out, ← List.map_drop]
        exact (row_drop HR9.out HLn.out t (by omega)).res (fun p hp => HE9.out p (List.mem_of_mem_drop hp)) |>.below hW
      have HTB : ∀ W, Below w9.heap.size w9 W → TabAt W := fun W hW => HT9.out.agree (Agree.of_all (K := fun _ => True) hW) trivial
      have cb0 := HZ0.out
      have hct : cntL L = cntL (L.take t) + cntL (L.drop t) := by rw [← cntL_append, List.take_append_drop]
      have hc3 := HCN.out
      have cb1 := cnt_bounds (l := L.take t) (by omega)
      have cb2 := cnt_bounds (l := L.drop t) (by omega)
      have cb3 := cnt_bounds (l := [rAny (L.take t), rAny (L.drop t)]) (by
        rw [cntL_cons, cntL_cons]
        have h1 := cnt_any (L.take t); have h2 := cnt_any (L.drop t)
        have h3 : cntL [] = 0 := rfl
        omega)
      have cb4 := cnt_bounds (l := [rThen (L.take t), rThen (L.drop t)]) (by
        rw [cntL_cons, cntL_cons]
        have h1 := cnt_then (L.take t); have h2 := cnt_then (L.drop t)
        have h3 : cntL [] = 0 := rfl
        omega)
      have hw1 : ∀ r ∈ L.take t, Wf r := fun r hr => HWL.out r (List.mem_of_mem_take hr)
      have hw2 : ∀ r ∈ L.drop t, Wf r := fun r hr => HWL.out r (List.mem_of_mem_drop hr)
      have hwp3 : ∀ r ∈ [rAny (L.take t), rAny (L.drop t)], Wf r := fun r hr => by
        simp only [List.mem_cons, List.not_mem_nil, or_false] at hr
        rcases hr with rfl | rfl
        · exact wf_any hw1
        · exact wf_any hw2
      have hwp4 : ∀ r ∈ [rThen (L.take t), rThen (L.drop t)], Wf r := fun r hr => by
        simp only [List.mem_cons, List.not_mem_nil, or_false] at hr
        rcases hr with rfl | rfl
        · exact wf_then hw1
        · exact wf_then hw2
      have hgA : rAny [rAny (L.take t), rAny (L.drop t)] = rAny L := by rw [any_group hw1 hw2, List.take_append_drop]
      have hgT : rThen [rThen (L.take t), rThen (L.drop t)] = rThen L := by rw [then_group hw1 hw2, List.take_append_drop]
      have hwA := HWA.out
      have hwT := (wf_then HWL.out).k
      refine flowB [.val (.slice (some ⟨g2, 0, none⟩) N0 cp2), .re (rAny L), .val (.slice (some ⟨g2, 0, none⟩) N0 cp2), .val (.int .i64 t), .val (.slice (some ⟨g2, 0, none⟩) t cp2), .re (rAny (L.take t)), .val (.slice (some ⟨g2, 0, none⟩) N0 cp2), .val (.int .i64 t), .val (.slice (some ⟨g2, 0 + t, none⟩) (N0 - t) (cp2 - t)), .re (rAny (L.drop t)), .row ([rAny (L.take t), rAny (L.drop t)]), .re (rAny L), .val (.bool true), .val (.bool true), .val (.slice (some ⟨g2, 0, none⟩) N0 cp2), .re (rThen L), .val (.slice (some ⟨g2, 0, none⟩) N0 cp2), .val (.int .i64 t), .val (.slice (some ⟨g2, 0, none⟩) t cp2), .re (rThen (L.take t)), .val (.slice (some ⟨g2, 0, none⟩) N0 cp2), .val (.int .i64 t), .val (.slice (some ⟨g2, 0 + t, none⟩) (N0 - t) (cp2 - t)), .re (rThen (L.drop t)), .row ([rThen (L.take t), rThen (L.drop t)]), .re (rThen L), .val (.bool true), .val (.bool true), .val (.bool true)] (by kernel_rfl) (by kernel_rfl) (by kernel_rfl) (by kernel_rfl) ?_ ?_
      · refine ⟨?_, ?_, ?_, ?_, ?_, ?_, ?_, ?_, ?_, ?_, ?_, ?_, ?_, ?_, ?_, ?_, ?_, ?_, ?_, ?_, ?_, ?_, ?_, ?_, ?_, ?_, ?_, ?_, ?_, trivial⟩
        · intro a w hb hk hd
          have e5 : a.eval (.tmp 5) = .slice (some ⟨g2, 0, none⟩) N0 cp2 := ev ((hk 5 (by kernel_rfl)).trans rfl)
          refine ⟨rfl, fun kk hK => ?_⟩
          exact wp_val (x_move _ _ _ _ _ _ _ _ e5 w) (hK _ _ rfl (Below.refl _ _))
        · intro a w hb hk hd
          obtain ⟨u73, s73, d73⟩ := hd 0 (by kernel_rfl)
          have s73 : u73 = .slice (some ⟨g2, 0, none⟩) N0 cp2 := s73
          subst s73
          have e73 := ev (d73 _ _ rfl rfl)
          refine ⟨rfl, fun kk hK => ?_⟩
          exact wp_ent (x_call1 _ _ _ _ _ _ _ _ _ _ e73 rfl (enters_of Tryd.func20 (by kernel_rfl) rfl) w) ((any_re L _ w (HK0 w hb) HWL.out cb0.1 cb0.2.2.1 (HTB w hb)).mono fun e w' ⟨b, h1, h2, h3⟩ => ⟨_, h1, hK _ _ ⟨b, rfl, h2⟩ h3⟩)
        · intro a w hb hk hd
          have e5 : a.eval (.tmp 5) = .slice (some ⟨g2, 0, none⟩) N0 cp2 := ev ((hk 5 (by kernel_rfl)).trans rfl)
          refine ⟨rfl, fun kk hK => ?_⟩
          exact wp_val (x_move _ _ _ _ _ _ _ _ e5 w) (hK _ _ rfl (Below.refl _ _))
        · intro a w hb hk hd
          have e8 : a.eval (.tmp 8) = .int .i64 t := ev ((hk 8 (by kernel_rfl)).trans rfl)
          refine ⟨rfl, fun kk hK => ?_⟩
          exact wp_val (x_move _ _ _ _ _ _ _ _ e8 w) (hK _ _ rfl (Below.refl _ _))
        · intro a w hb hk hd
          obtain ⟨u75, s75, d75⟩ := hd 2 (by kernel_rfl)
          have s75 : u75 = .slice (some ⟨g2, 0, none⟩) N0 cp2 := s75
          subst s75
          have e75 := ev (d75 _ _ rfl rfl)
          obtain ⟨u76, s76, d76⟩ := hd 3 (by kernel_rfl)
          have s76 : u76 = .int .i64 t := s76
          subst s76
          have e76 := ev (d76 _ _ rfl rfl)
          refine ⟨rfl, fun kk hK => ?_⟩
          exact wp_val (x_sliceHiP _ _ _ _ _ _ _ _ g2 0 N0 cp2 t e75 e76 ht hcp w) (hK _ _ rfl (Below.refl _ _))
        · intro a w hb hk hd
          obtain ⟨u77, s77, d77⟩ := hd 4 (by kernel_rfl)
          have s77 : u77 = .slice (some ⟨g2, 0, none⟩) t cp2 := s77
          subst s77
          have e77 := ev (d77 _ _ rfl rfl)
          refine ⟨rfl, fun kk hK => ?_⟩
          exact wp_ent (x_call1 _ _ _ _ _ _ _ _ _ _ e77 rfl (enters_of Tryd.func20 (by kernel_rfl) rfl) w) ((any_re (L.take t) _ w (HK1 w hb) hw1 cb1.1 cb1.2.2.1 (HTB w hb)).mono fun e w' ⟨b, h1, h2, h3⟩ => ⟨_, h1, hK _ _ ⟨b, rfl, h2⟩ h3⟩)
        · intro a w hb hk hd
          have e5 : a.eval (.tmp 5) = .slice (some ⟨g2, 0, none⟩) N0 cp2 := ev ((hk 5 (by kernel_rfl)).trans rfl)
          refine ⟨rfl, fun kk hK => ?_⟩
          exact wp_val (x_move _ _ _ _ _ _ _ _ e5 w) (hK _ _ rfl (Below.refl _ _))
        · intro a w hb hk hd
          have e8 : a.eval (.tmp 8) = .int .i64 t := ev ((hk 8 (by kernel_rfl)).trans rfl)
          refine ⟨rfl, fun kk hK => ?_⟩
          exact wp_val (x_move _ _ _ _ _ _ _ _ e8 w) (hK _ _ rfl (Below.refl _ _))
        · intro a w hb hk hd
          obtain ⟨u79, s79, d79⟩ := hd 6 (by kernel_rfl)
          have s79 : u79 = .slice (some ⟨g2, 0, none⟩) N0 cp2 := s79
          subst s79
          have e79 := ev (d79 _ _ rfl rfl)
          obtain ⟨u80, s80, d80⟩ := hd 7 (by kernel_rfl)
          have s80 : u80 = .int .i64 t := s80
          subst s80
          have e80 := ev (d80 _ _ rfl rfl)
          refine ⟨rfl, fun kk hK => ?_⟩
          exact wp_val (x_sliceLoP _ _ _ _ _ _ _ _ g2 0 N0 cp2 t e79 e80 ht hcp w) (hK _ _ rfl (Below.refl _ _))
        · intro a w hb hk hd
          obtain ⟨u81, s81, d81⟩ := hd 8 (by kernel_rfl)
          have s81 : u81 = .slice (some ⟨g2, 0 + t, none⟩) (N0 - t) (cp2 - t) := s81
          subst s81
          have e81 := ev (d81 _ _ rfl rfl)
          refine ⟨rfl, fun kk hK => ?_⟩
          exact wp_ent (x_call1 _ _ _ _ _ _ _ _ _ _ e81 rfl (enters_of Tryd.func20 (by kernel_rfl) rfl) w) ((any_re (L.drop t) _ w (HK2 w hb) hw2 cb2.1 cb2.2.2.1 (HTB w hb)).mono fun e w' ⟨b, h1, h2, h3⟩ => ⟨_, h1, hK _ _ ⟨b, rfl, h2⟩ h3⟩)
        · intro a w hb hk hd
          obtain ⟨u78, s78, d78⟩ := hd 5 (by kernel_rfl)
          obtain ⟨b78, q78, r78⟩ : ∃ b, u78 = PT b ∧ ReAt w b (rAny (L.take t)) := s78
          subst q78
          have e78 := ev (d78 _ _ rfl rfl)
          obtain ⟨u82, s82, d82⟩ := hd 9 (by kernel_rfl)
          obtain ⟨b82, q82, r82⟩ : ∃ b, u82 = PT b ∧ ReAt w b (rAny (L.drop t)) := s82
          subst q82
          have e82 := ev (d82 _ _ rfl rfl)
          refine ⟨rfl, fun kk hK => ?_⟩
          exact wp_val (x_build2P _ _ _ _ _ _ _ _ b78 b82 e78 e82 w) (hK _ _ (row_two r78 r82) ((Below.refl _ _).alloc (Nat.le_refl _) _))
        · intro a w hb hk hd
          obtain ⟨u83, s83, d83⟩ := hd 10 (by kernel_rfl)
          have s83 : ResRow w u83 ([rAny (L.take t), rAny (L.drop t)]) := s83
          have e83 := ev (d83 _ _ rfl rfl)
          refine ⟨rfl, fun kk hK => ?_⟩
          exact wp_ent (x_call1 _ _ _ _ _ _ _ _ _ _ e83 rfl (enters_of Tryd.func20 (by kernel_rfl) rfl) w) ((any_re [rAny (L.take t), rAny (L.drop t)] _ w s83 hwp3 cb3.1 cb3.2.2.1 (HTB w hb)).mono fun e w' ⟨b, h1, h2, h3⟩ => ⟨_, h1, hK _ _ ⟨b, rfl, hgA ▸ h2⟩ h3⟩)
        · intro a w hb hk hd
          obtain ⟨u74, s74, d74⟩ := hd 1 (by kernel_rfl)
          obtain ⟨b74, q74, r74⟩ : ∃ b, u74 = PT b ∧ ReAt w b (rAny L) := s74
          subst q74
          have e74 := ev (d74 _ _ rfl rfl)
          obtain ⟨u84, s84, d84⟩ := hd 11 (by kernel_rfl)
          obtain ⟨b84, q84, r84⟩ : ∃ b, u84 = PT b ∧ ReAt w b (rAny L) := s84
          subst q84
          have e84 := ev (d84 _ _ rfl rfl)
          refine ⟨rfl, fun kk hK => ?_⟩
          exact wp_ent (x_call2 _ _ _ _ _ _ _ _ _ _ _ _ _ e74 e84 rfl (enters_of Tryd.func18 (by kernel_rfl) rfl) w) ((same_re (rAny L) (rAny L) _ _ w hwA hwA r74 r84 (HTB w hb)).mono fun e w' ⟨h1, h3⟩ => ⟨_, h1, hK _ _ (by rw [lexN_self]; rfl) h3.below⟩)
        · intro a w hb hk hd
          obtain ⟨u85, s85, d85⟩ := hd 12 (by kernel_rfl)
          have s85 : u85 = .bool true := s85
          subst s85
          have e85 := ev (d85 _ _ rfl rfl)
          refine ⟨rfl, fun kk hK => ?_⟩
          exact wp_val (x_move _ _ _ _ _ _ _ _ e85 w) (hK _ _ rfl (Below.refl _ _))
        · intro a w hb hk hd
          have e5 : a.eval (.tmp 5) = .slice (some ⟨g2, 0, none⟩) N0 cp2 := ev ((hk 5 (by kernel_rfl)).trans rfl)
          obtain ⟨ug, sg, dg⟩ := hd 13 (by kernel_rfl)
          have sg : ug = .bool true := sg
          subst sg
          refine ⟨want_in rfl rfl rfl (dg _ _ rfl rfl), fun kk hK => ?_⟩
          exact wp_val (x_move _ _ _ _ _ _ _ _ e5 w) (hK _ _ rfl (Below.refl _ _))
        · intro a w hb hk hd
          obtain ⟨u87, s87, d87⟩ := hd 14 (by kernel_rfl)
          have s87 : u87 = .slice (some ⟨g2, 0, none⟩) N0 cp2 := s87
          subst s87
          have e87 := ev (d87 _ _ rfl rfl)
          obtain ⟨ug, sg, dg⟩ := hd 13 (by kernel_rfl)
          have sg : ug = .bool true := sg
          subst sg
          refine ⟨want_in rfl rfl rfl (dg _ _ rfl rfl), fun kk hK => ?_⟩
          exact wp_ent (x_call1 _ _ _ _ _ _ _ _ _ _ e87 rfl (enters_of Tryd.func22 (by kernel_rfl) rfl) w) ((then_any L _ w (HK0 w hb) HWL.out cb0.1 cb0.2.1).mono fun e w' ⟨b, h1, h2, h3⟩ => ⟨_, h1, hK _ _ ⟨b, rfl, h2⟩ h3⟩)
        · intro a w hb hk hd
          have e5 : a.eval (.tmp 5) = .slice (some ⟨g2, 0, none⟩) N0 cp2 := ev ((hk 5 (by kernel_rfl)).trans rfl)
          obtain ⟨ug, sg, dg⟩ := hd 13 (by kernel_rfl)
          have sg : ug = .bool true := sg
          subst sg
          refine ⟨want_in rfl rfl rfl (dg _ _ rfl rfl), fun kk hK => ?_⟩
          exact wp_val (x_move _ _ _ _ _ _ _ _ e5 w) (hK _ _ rfl (Below.refl _ _))
        · intro a w hb hk hd
          have e8 : a.eval (.tmp 8) = .int .i64 t := ev ((hk 8 (by kernel_rfl)).trans rfl)
          obtain ⟨ug, sg, dg⟩ := hd 13 (by kernel_rfl)
          have sg : ug = .bool true := sg
          subst sg
          refine ⟨want_in rfl rfl rfl (dg _ _ rfl rfl), fun kk hK => ?_⟩
          exact wp_val (x_move _ _ _ _ _ _ _ _ e8 w) (hK _ _ rfl (Below.refl _ _))
        · intro a w hb hk hd
          obtain ⟨u89, s89, d89⟩ := hd 16 (by kernel_rfl)
          have s89 : u89 = .slice (some ⟨g2, 0, none⟩) N0 cp2 := s89
          subst s89
          have e89 := ev (d89 _ _ rfl rfl)
          obtain ⟨u90, s90, d90⟩ := hd 17 (by kernel_rfl)
          have s90 : u90 = .int .i64 t := s90
          subst s90
          have e90 := ev (d90 _ _ rfl rfl)
          obtain ⟨ug, sg, dg⟩ := hd 13 (by kernel_rfl)
          have sg : ug = .bool true := sg
          subst sg
          refine ⟨want_in rfl rfl rfl (dg _ _ rfl rfl), fun kk hK => ?_⟩
          exact wp_val (x_sliceHiP _ _ _ _ _ _ _ _ g2 0 N0 cp2 t e89 e90 ht hcp w) (hK _ _ rfl (Below.refl _ _))
        · intro a w hb hk hd
          obtain ⟨u91, s91, d91⟩ := hd 18 (by kernel_rfl)
          have s91 : u91 = .slice (some ⟨g2, 0, none⟩) t cp2 := s91
          subst s91
          have e91 := ev (d91 _ _ rfl rfl)
          obtain ⟨ug, sg, dg⟩ := hd 13 (by kernel_rfl)
          have sg : ug = .bool true := sg
          subst sg
          refine ⟨want_in rfl rfl rfl (dg _ _ rfl rfl), fun kk hK => ?_⟩
          exact wp_ent (x_call1 _ _ _ _ _ _ _ _ _ _ e91 rfl (enters_of Tryd.func22 (by kernel_rfl) rfl) w) ((then_any (L.take t) _ w (HK1 w hb) hw1 cb1.1 cb1.2.1).mono fun e w' ⟨b, h1, h2, h3⟩ => ⟨_, h1, hK _ _ ⟨b, rfl, h2⟩ h3⟩)
        · intro a w hb hk hd
          have e5 : a.eval (.tmp 5) = .slice (some ⟨g2, 0, none⟩) N0 cp2 := ev ((hk 5 (by kernel_rfl)).trans rfl)
          obtain ⟨ug, sg, dg⟩ := hd 13 (by kernel_rfl)
          have sg : ug = .bool true := sg
          subst sg
          refine ⟨want_in rfl rfl rfl (dg _ _ rfl rfl), fun kk hK => ?_⟩
          exact wp_val (x_move _ _ _ _ _ _ _ _ e5 w) (hK _ _ rfl (Below.refl _ _))
        · intro a w hb hk hd
          have e8 : a.eval (.tmp 8) = .int .i64 t := ev ((hk 8 (by kernel_rfl)).trans rfl)
          obtain ⟨ug, sg, dg⟩ := hd 13 (by kernel_rfl)
          have sg : ug = .bool true := sg
          subst sg
          refine ⟨want_in rfl rfl rfl (dg _ _ rfl rfl), fun kk hK => ?_⟩
          exact wp_val (x_move _ _ _ _ _ _ _ _ e8 w) (hK _ _ rfl (Below.refl _ _))
        · intro a w hb hk hd
          obtain ⟨u93, s93, d93⟩ := hd 20 (by kernel_rfl)
          have s93 : u93 = .slice (some ⟨g2, 0, none⟩) N0 cp2 := s93
          subst s93
          have e93 := ev (d93 _ _ rfl rfl)
          obtain ⟨u94, s94, d94⟩ := hd 21 (by kernel_rfl)
          have s94 : u94 = .int .i64 t := s94
          subst s94
          have e94 := ev (d94 _ _ rfl rfl)
          obtain ⟨ug, sg, dg⟩ := hd 13 (by kernel_rfl)
          have sg : ug = .bool true := sg
          subst sg
          refine ⟨want_in rfl rfl rfl (dg _ _ rfl rfl), fun kk hK => ?_⟩
          exact wp_val (x_sliceLoP _ _ _ _ _ _ _ _ g2 0 N0 cp2 t e93 e94 ht hcp w) (hK _ _ rfl (Below.refl _ _))
        · intro a w hb hk hd
          obtain ⟨u95, s95, d95⟩ := hd 22 (by kernel_rfl)
          have s95 : u95 = .slice (some ⟨g2, 0 + t, none⟩) (N0 - t) (cp2 - t) := s95
          subst s95
          have e95 := ev (d95 _ _ rfl rfl)
          obtain ⟨ug, sg, dg⟩ := hd 13 (by kernel_rfl)
          have sg : ug = .bool true := sg
          subst sg
          refine ⟨want_in rfl rfl rfl (dg _ _ rfl rfl), fun kk hK => ?_⟩
          exact wp_ent (x_call1 _ _ _ _ _ _ _ _ _ _ e95 rfl (enters_of Tryd.func22 (by kernel_rfl) rfl) w) ((then_any (L.drop t) _ w (HK2 w hb) hw2 cb2.1 cb2.2.1).mono fun e w' ⟨b, h1, h2, h3⟩ => ⟨_, h1, hK _ _ ⟨b, rfl, h2⟩ h3⟩)
        · intro a w hb hk hd
          obtain ⟨u92, s92, d92⟩ := hd 19 (by kernel_rfl)
          obtain ⟨b92, q92, r92⟩ : ∃ b, u92 = PT b ∧ ReAt w b (rThen (L.take t)) := s92
          subst q92
          have e92 := ev (d92 _ _ rfl rfl)
          obtain ⟨u96, s96, d96⟩ := hd 23 (by kernel_rfl)
          obtain ⟨b96, q96, r96⟩ : ∃ b, u96 = PT b ∧ ReAt w b (rThen (L.drop t)) := s96
          subst q96
          have e96 := ev (d96 _ _ rfl rfl)
          obtain ⟨ug, sg, dg⟩ := hd 13 (by kernel_rfl)
          have sg : ug = .bool true := sg
          subst sg
          refine ⟨want_in rfl rfl rfl (dg _ _ rfl rfl), fun kk hK => ?_⟩
          exact wp_val (x_build2P _ _ _ _ _ _ _ _ b92 b96 e92 e96 w) (hK _ _ (row_two r92 r96) ((Below.refl _ _).alloc (Nat.le_refl _) _))
        · intro a w hb hk hd
          obtain ⟨u97, s97, d97⟩ := hd 24 (by kernel_rfl)
          have s97 : ResRow w u97 ([rThen (L.take t), rThen (L.drop t)]) := s97
          have e97 := ev (d97 _ _ rfl rfl)
          obtain ⟨ug, sg, dg⟩ := hd 13 (by kernel_rfl)
          have sg : ug = .bool true := sg
          subst sg
          refine ⟨want_in rfl rfl rfl (dg _ _ rfl rfl), fun kk hK => ?_⟩
          exact wp_ent (x_call1 _ _ _ _ _ _ _ _ _ _ e97 rfl (enters_of Tryd.func22 (by kernel_rfl) rfl) w) ((then_any [rThen (L.take t), rThen (L.drop t)] _ w s97 hwp4 cb4.1 cb4.2.1).mono fun e w' ⟨b, h1, h2, h3⟩ => ⟨_, h1, hK _ _ ⟨b, rfl, hgT ▸ h2⟩ h3⟩)
        · intro a w hb hk hd
          obtain ⟨u88, s88, d88⟩ := hd 15 (by kernel_rfl)
          obtain ⟨b88, q88, r88⟩ : ∃ b, u88 = PT b ∧ ReAt w b (rThen L) := s88
          subst q88
          have e88 := ev (d88 _ _ rfl rfl)
          obtain ⟨u98, s98, d98⟩ := hd 25 (by kernel_rfl)
          obtain ⟨b98, q98, r98⟩ : ∃ b, u98 = PT b ∧ ReAt w b (rThen L) := s98
          subst q98
          have e98 := ev (d98 _ _ rfl rfl)
          obtain ⟨ug, sg, dg⟩ := hd 13 (by kernel_rfl)
          have sg : ug = .bool true := sg
          subst sg
          refine ⟨want_in rfl rfl rfl (dg _ _ rfl rfl), fun kk hK => ?_⟩
          exact wp_ent (x_call2 _ _ _ _ _ _ _ _ _ _ _ _ _ e88 e98 rfl (enters_of Tryd.func18 (by kernel_rfl) rfl) w) ((same_re (rThen L) (rThen L) _ _ w hwT hwT r88 r98 (HTB w hb)).mono fun e w' ⟨h1, h3⟩ => ⟨_, h1, hK _ _ (by rw [lexN_self]; rfl) h3.below⟩)
        · intro a w hb hk hd
          obtain ⟨u86, s86, d86⟩ := hd 13 (by kernel_rfl)
          have s86 : u86 = .bool true := s86
          subst s86
          have e86 := ev (d86 _ _ rfl rfl)
          obtain ⟨u99, s99, d99⟩ := hd 26 (by kernel_rfl)
          have s99 : u99 = .bool true := s99
          subst s99
          have e99 := ev (d99 _ _ rfl rfl)
          refine ⟨rfl, fun kk hK => ?_⟩
          exact wp_val (x_pick _ _ _ _ _ _ _ _ _ true _ _ e86 e99 rfl w) (hK _ _ rfl (Below.refl _ _))
        · intro a w hb hk hd
          obtain ⟨u100, s100, d100⟩ := hd 27 (by kernel_rfl)
          have s100 : u100 = .bool true := s100
          subst s100
          have e100 := ev (d100 _ _ rfl rfl)
          refine ⟨rfl, fun kk hK => ?_⟩
          exact wp_val (x_assign _ _ _ _ _ _ _ _ e100 w) (hK _ _ rfl (Below.refl _ _))
      · intro vs wz hlz hbz hRz
        match vs, hlz with
        | [z0, z1, z2, z3, z4, z5, z6, z7, z8, z9, z10, z11, z12, z13, z14, z15, z16, z17, z18, z19, z20, z21, z22, z23, z24, z25, z26, z27, z28], _ =>
          obtain rfl : z0 = .slice (some ⟨g2, 0, none⟩) N0 cp2 := hRz 0 _ rfl
          obtain ⟨y1, x1, hz1⟩ : ∃ b, z1 = PT b ∧ ReAt wz b (rAny L) := hRz 1 _ rfl
          obtain rfl : z2 = .slice (some ⟨g2, 0, none⟩) N0 cp2 := hRz 2 _ rfl
          obtain rfl : z3 = .int .i64 t := hRz 3 _ rfl
          obtain rfl : z4 = .slice (some ⟨g2, 0, none⟩) t cp2 := hRz 4 _ rfl
          obtain ⟨y5, x5, hz5⟩ : ∃ b, z5 = PT b ∧ ReAt wz b (rAny (L.take t)) := hRz 5 _ rfl
          obtain rfl : z6 = .slice (some ⟨g2, 0, none⟩) N0 cp2 := hRz 6 _ rfl
          obtain rfl : z7 = .int .i64 t := hRz 7 _ rfl
          obtain rfl : z8 = .slice (some ⟨g2, 0 + t, none⟩) (N0 - t) (cp2 - t) := hRz 8 _ rfl
          obtain ⟨y9, x9, hz9⟩ : ∃ b, z9 = PT b ∧ ReAt wz b (rAny (L.drop t)) := hRz 9 _ rfl
          have hz10 : ResRow wz z10 ([rAny (L.take t), rAny (L.drop t)]) := hRz 10 _ rfl
          obtain ⟨y11, x11, hz11⟩ : ∃ b, z11 = PT b ∧ ReAt wz b (rAny L) := hRz 11 _ rfl
          obtain rfl : z12 = .bool true := hRz 12 _ rfl
          obtain rfl : z13 = .bool true := hRz 13 _ rfl
          obtain rfl : z14 = .slice (some ⟨g2, 0, none⟩) N0 cp2 := hRz 14 _ rfl
          obtain ⟨y15, x15, hz15⟩ : ∃ b, z15 = PT b ∧ ReAt wz b (rThen L) := hRz 15 _ rfl
          obtain rfl : z16 = .slice (some ⟨g2, 0, none⟩) N0 cp2 := hRz 16 _ rfl
          obtain rfl : z17 = .int .i64 t := hRz 17 _ rfl
          obtain rfl : z18 = .slice (some ⟨g2, 0, none⟩) t cp2 := hRz 18 _ rfl
          obtain ⟨y19, x19, hz19⟩ : ∃ b, z19 = PT b ∧ ReAt wz b (rThen (L.take t)) := hRz 19 _ rfl
          obtain rfl : z20 = .slice (some ⟨g2, 0, none⟩) N0 cp2 := hRz 20 _ rfl
          obtain rfl : z21 = .int .i64 t := hRz 21 _ rfl
          obtain rfl : z22 = .slice (some ⟨g2, 0 + t, none⟩) (N0 - t) (cp2 - t) := hRz 22 _ rfl
          obtain ⟨y23, x23, hz23⟩ : ∃ b, z23 = PT b ∧ ReAt wz b (rThen (L.drop t)) := hRz 23 _ rfl
          have hz24 : ResRow wz z24 ([rThen (L.take t), rThen (L.drop t)]) := hRz 24 _ rfl
          obtain ⟨y25, x25, hz25⟩ : ∃ b, z25 = PT b ∧ ReAt wz b (rThen L) := hRz 25 _ rfl
          obtain rfl : z26 = .bool true := hRz 26 _ rfl
          obtain rfl : z27 = .bool true := hRz 27 _ rfl
          obtain rfl : z28 = .bool true := hRz 28 _ rfl
          simp only [lay, List.map_cons, List.map_nil, Act.put, List.setIfInBounds_toArray, List.set_cons_succ, List.set_cons_zero]
          clear hRz
          have HBZ := hide (HBW.out.trans ((HB9.out.trans (hbz.mono HB9.out.size)).mono HLE.out))
          clear hbz
          go_wp2
          go_ret
          exact ⟨rfl, HB.out ▸ HBZ.out⟩
end Go.Proofs.YtkjmjppmpcnejaaDoor
