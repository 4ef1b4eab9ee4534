/- Texts of this claim put together: MathLang, MathLang2, ReP, TxA, TxB, TxC, TxD, TxE. -/
import Derived.Test.YtkjmjppmpcnejaaDoorMathTurn
import Derived.Test.YtkjmjppmpcnejaaDoorShD
import Derived.Test.YtkjmjppmpcnejaaDoorShE
import Derived.Test.YtkjmjppmpcnejaaDoorReO
import Derived.Test.YtkjmjppmpcnejaaDoorShF
/- The texts of an expression; what each of the calls makes has the texts that it should have. -/
namespace Go.Proofs.YtkjmjppmpcnejaaDoor
set_option maxRecDepth 100000
set_option linter.unusedSimpArgs false
set_option linter.unusedVariables false

abbrev Lg := List Nat → Prop
def By (t : List Nat) : Prop := ∀ x ∈ t, x < 256
theorem By.left {u v : List Nat} (h : By (u ++ v)) : By u := fun x hx => h x (List.mem_append.2 (.inl hx))
theorem By.right {u v : List Nat} (h : By (u ++ v)) : By v := fun x hx => h x (List.mem_append.2 (.inr hx))
def catG : List Lg → Lg
  | [], t => t = []
  | l :: ls, t => ∃ u v, t = u ++ v ∧ l u ∧ catG ls v
inductive starG (l : Lg) : Lg where
  | nil : starG l []
  | cons (u v : List Nat) : u ≠ [] → l u → starG l v → starG l (u ++ v)
def opG (o : Nat) (s : BitVec 256) (ls : List Lg) : Lg := fun t =>
  if o = 1 then t = [] else if o = 2 then ∃ x, t = [x] ∧ s.getLsbD x = true else if o = 3 then catG ls t else if o = 4 then ∃ l ∈ ls, l t
  else if o = 5 then t = [] ∨ ∃ l, ls = [l] ∧ starG l t else if o = 6 then ∀ l ∈ ls, l t else if o = 7 then ∃ a b, ls = [a, b] ∧ a t ∧ ¬ b t else False
def RE.lang : RE → Lg
  | .mk o s ks => opG o s (ks.map fun k => k.lang)
theorem RE.lang_mk (o : Nat) (s : BitVec 256) (ks : List RE) : (RE.mk o s ks).lang = opG o s (ks.map RE.lang) := by rw [RE.lang]
theorem RE.lang_op (r : RE) : r.lang = opG r.op r.set (r.kids.map RE.lang) := by cases r; exact RE.lang_mk _ _ _

theorem catG_append (a b : List Lg) (t : List Nat) : catG (a ++ b) t ↔ ∃ u v, t = u ++ v ∧ catG a u ∧ catG b v := by
  induction a generalizing t with
  | nil =>
    constructor
    · intro h; exact ⟨[], t, rfl, rfl, h⟩
    · rintro ⟨u, v, rfl, h1, h2⟩
      have h1 : u = [] := h1
      subst h1; exact h2
  | cons l a ih =>
    constructor
    · rintro ⟨u, v, rfl, h1, h2⟩
      obtain ⟨x, y, rfl, h3, h4⟩ := (ih v).1 h2
      exact ⟨u ++ x, y, by rw [List.append_assoc], ⟨u, x, rfl, h1, h3⟩, h4⟩
    · rintro ⟨u, v, rfl, ⟨x, y, rfl, h1, h2⟩, h3⟩
      exact ⟨x, y ++ v, by rw [List.append_assoc], h1, (ih _).2 ⟨y, v, rfl, h2, h3⟩⟩
theorem catG_one (l : Lg) (t : List Nat) : catG [l] t ↔ l t := by
  constructor
  · rintro ⟨u, v, rfl, h1, h2⟩
    have h2 : v = [] := h2
    subst h2; rwa [List.append_nil]
  · intro h; exact ⟨t, [], by simp, h, rfl⟩
theorem catG_congr {α : Type} (f g : α → Lg) (l : List α) (h : ∀ x ∈ l, ∀ t, By t → (f x t ↔ g x t)) : ∀ t, By t → (catG (l.map f) t ↔ catG (l.map g) t) := by
  induction l with
  | nil => intro t _; exact Iff.rfl
  | cons x l ih =>
    intro t ht
    have ih := ih fun y hy => h y (by simp [hy])
    constructor
    · rintro ⟨u, v, rfl, h1, h2⟩
      exact ⟨u, v, rfl, (h x (by simp) u ht.left).1 h1, (ih v ht.right).1 h2⟩
    · rintro ⟨u, v, rfl, h1, h2⟩
      exact ⟨u, v, rfl, (h x (by simp) u ht.left).2 h1, (ih v ht.right).2 h2⟩
theorem star_mono {l m : Lg} (h : ∀ t, By t → l t → m t) {t : List Nat} (ht : By t) (hs : starG l t) : starG m t := by
  induction hs with
  | nil => exact .nil
  | cons u v hu h1 h2 ih => exact .cons u v hu (h u ht.left h1) (ih ht.right)
theorem star_append {l : Lg} {u v : List Nat} (hu : starG l u) (hv : starG l v) : starG l (u ++ v) := by
  induction hu with
  | nil => exact hv
  | cons x y hx h1 h2 ih => rw [List.append_assoc]; exact .cons x (y ++ v) hx h1 ih
theorem star_star {l m : Lg} (h : ∀ t, m t → starG l t) {t : List Nat} (hs : starG m t) : starG l t := by
  induction hs with
  | nil => exact .nil
  | cons u v hu h1 h2 ih => exact star_append (h u h1) ih
theorem star_one {l : Lg} {t : List Nat} (h : l t) : starG l t := by
  cases t with
  | nil => exact .nil
  | cons x t => have := starG.cons (l := l) (x :: t) [] (by simp) h .nil; rwa [List.append_nil] at this
theorem star_none {l : Lg} (h : ∀ t, l t → t = []) {t : List Nat} (hs : starG l t) : t = [] := by
  cases hs with
  | nil => rfl
  | cons u v hu h1 h2 => exact absurd (h u h1) hu

/-! What the ops mean -/
theorem lang0 {r : RE} (h : r.op = 0) (t : List Nat) : ¬ r.lang t := by rw [r.lang_op, h]; intro h; simp [opG] at h
theorem lang1 {r : RE} (h : r.op = 1) (t : List Nat) : r.lang t ↔ t = [] := by rw [r.lang_op, h]; simp [opG]
theorem lang2 {r : RE} (h : r.op = 2) (t : List Nat) : r.lang t ↔ ∃ x, t = [x] ∧ r.set.getLsbD x = true := by rw [r.lang_op, h]; simp [opG]
theorem lang3 {r : RE} (h : r.op = 3) (t : List Nat) : r.lang t ↔ catG (r.kids.map RE.lang) t := by rw [r.lang_op, h]; simp [opG]
theorem lang4 {r : RE} (h : r.op = 4) (t : List Nat) : r.lang t ↔ ∃ k ∈ r.kids, k.lang t := by
  rw [r.lang_op, h]
  show (∃ l ∈ r.kids.map RE.lang, l t) ↔ _
  constructor
  · rintro ⟨l, hl, h⟩
    obtain ⟨k, hk, rfl⟩ := List.mem_map.1 hl
    exact ⟨k, hk, h⟩
  · rintro ⟨k, hk, h⟩
    exact ⟨_, List.mem_map.2 ⟨k, hk, rfl⟩, h⟩
theorem lang5 {r : RE} (h : r.op = 5) (t : List Nat) : r.lang t ↔ t = [] ∨ ∃ l, r.kids.map RE.lang = [l] ∧ starG l t := by rw [r.lang_op, h]; simp [opG]
theorem lang6 {r : RE} (h : r.op = 6) (t : List Nat) : r.lang t ↔ ∀ k ∈ r.kids, k.lang t := by rw [r.lang_op, h]; simp [opG]
theorem lang7 {r : RE} (h : r.op = 7) (t : List Nat) : r.lang t ↔ ∃ a b, r.kids.map RE.lang = [a, b] ∧ a t ∧ ¬ b t := by rw [r.lang_op, h]; simp [opG]
theorem lang_nothing (t : List Nat) : ¬ rNothing.lang t := lang0 rfl t
theorem lang_empty (t : List Nat) : rEmpty.lang t ↔ t = [] := lang1 rfl t
theorem lang_one (s : BitVec 256) (t : List Nat) : (rOne s).lang t ↔ ∃ x, t = [x] ∧ s.getLsbD x = true := by
  unfold rOne
  split
  · rename_i h
    subst h
    refine iff_of_false (lang_nothing t) ?_
    rintro ⟨x, -, h⟩
    simp at h
  · exact lang2 (r := .mk 2 s []) rfl t
theorem join_or (l : List RE) (t : List Nat) : (rJoin 4 l).lang t ↔ ∃ k ∈ l, k.lang t := by
  unfold rJoin
  split
  · simp
  · exact lang4 (r := .mk 4 0#256 l) rfl t
theorem join_and (l : List RE) (t : List Nat) : (rJoin 6 l).lang t ↔ ∀ k ∈ l, k.lang t := by
  unfold rJoin
  split
  · simp
  · exact lang6 (r := .mk 6 0#256 l) rfl t
theorem join_cat (l : List RE) (t : List Nat) : (rJoin 3 l).lang t ↔ catG (l.map RE.lang) t := by
  unfold rJoin
  split
  · rw [List.map_cons, List.map_nil, catG_one]
  · exact lang3 (r := .mk 3 0#256 l) rfl t

theorem cat_flat (l : List RE) (t : List Nat) : catG ((catL l).map RE.lang) t ↔ catG (l.map RE.lang) t := by
  induction l generalizing t with
  | nil => exact Iff.rfl
  | cons r l ih =>
    have e : catL (r :: l) = catK r ++ catL l := by unfold catL; rw [List.flatMap_cons]
    have hk : ∀ u, catG ((catK r).map RE.lang) u ↔ r.lang u := by
      intro u
      unfold catK
      split
      · rename_i h; rw [lang1 h]; exact Iff.rfl
      · split
        · rename_i h; rw [lang3 h]
        · rw [List.map_cons, List.map_nil, catG_one]
    rw [e, List.map_append, catG_append, List.map_cons]
    constructor
    · rintro ⟨u, v, rfl, h1, h2⟩
      exact ⟨u, v, rfl, (hk u).1 h1, (ih v).1 h2⟩
    · rintro ⟨u, v, rfl, h1, h2⟩
      exact ⟨u, v, rfl, (hk u).2 h1, (ih v).2 h2⟩
theorem cat_no {l : List RE} (h : l.any (fun r => r.op == 0) = true) (t : List Nat) : ¬ catG (l.map RE.lang) t := by
  induction l generalizing t with
  | nil => simp at h
  | cons r l ih =>
    rw [List.map_cons]
    rintro ⟨u, v, -, h1, h2⟩
    rw [List.any_cons, Bool.or_eq_true] at h
    rcases h with h | h
    · exact lang0 (by simpa using h) u h1
    · exact ih h v h2
theorem lang_then (l : List RE) (t : List Nat) : (rThen l).lang t ↔ catG (l.map RE.lang) t := by
  unfold rThen
  split
  · rename_i h
    exact iff_of_false (lang_nothing t) (cat_no h t)
  · rw [← cat_flat]
    split
    · rename_i h; rw [h, lang_empty]; exact Iff.rfl
    · exact join_cat _ t

theorem any_flatL (l : List RE) (t : List Nat) : (∃ k ∈ flatL 4 l, k.lang t) ↔ ∃ r ∈ l, r.lang t := by
  unfold flatL
  constructor
  · rintro ⟨k, hk, h⟩
    obtain ⟨r, hr, hk⟩ := List.mem_flatMap.1 hk
    split at hk
    · exact ⟨r, hr, (lang4 ‹_› t).2 ⟨k, hk, h⟩⟩
    · rw [List.mem_singleton] at hk; subst hk; exact ⟨k, hr, h⟩
  · rintro ⟨r, hr, h⟩
    by_cases h4 : r.op = 4
    · obtain ⟨k, hk, h'⟩ := (lang4 h4 t).1 h
      exact ⟨k, List.mem_flatMap.2 ⟨r, hr, by rw [if_pos h4]; exact hk⟩, h'⟩
    · exact ⟨r, List.mem_flatMap.2 ⟨r, hr, by rw [if_neg h4]; simp⟩, h⟩
theorem all_flatL (l : List RE) (t : List Nat) : (∀ k ∈ flatL 6 l, k.lang t) ↔ ∀ r ∈ l, r.lang t := by
  unfold flatL
  constructor
  · intro h r hr
    by_cases h6 : r.op = 6
    · exact (lang6 h6 t).2 fun k hk => h k (List.mem_flatMap.2 ⟨r, hr, by rw [if_pos h6]; exact hk⟩)
    · exact h r (List.mem_flatMap.2 ⟨r, hr, by rw [if_neg h6]; simp⟩)
  · intro h k hk
    obtain ⟨r, hr, hk⟩ := List.mem_flatMap.1 hk
    split at hk
    · exact (lang6 ‹_› t).1 (h r hr) k hk
    · rw [List.mem_singleton] at hk; subst hk; exact h k hr
theorem wfk_flat {o : Nat} {l : List RE} (hw : ∀ r ∈ l, Wf r) : ∀ k ∈ flatL o l, Wf k := by
  intro k hk
  obtain ⟨r, hr, hk⟩ := List.mem_flatMap.1 hk
  have h := hw r hr
  split at hk
  · cases h with | mk o s ks hk' _ => exact hk' k hk
  · rw [List.mem_singleton] at hk; subst hk; exact h
theorem mem_ordL {l : List RE} (hw : ∀ y ∈ l, WfK y) (r : RE) : r ∈ ordL l ↔ r ∈ l := by
  have h : (∀ y ∈ ordL l, WfK y) ∧ (r ∈ ordL l ↔ r ∈ l) := by
    induction l with
    | nil => exact ⟨fun y hy => by simp [ordL] at hy, by simp [ordL]⟩
    | cons x l ih =>
      have hl : ∀ y ∈ l, WfK y := fun y hy => hw y (by simp [hy])
      have key : ∀ z, z ∈ ordL (x :: l) ↔ z = x ∨ z ∈ ordL l := fun z => mem_insK (hw x (by simp)) (ordL l) (ih hl).1 z
      refine ⟨fun y hy => ?_, ?_⟩
      · rcases (key y).1 hy with rfl | hy
        · exact hw y (by simp)
        · exact (ih hl).1 y hy
      · rw [key, (ih hl).2, List.mem_cons]
  exact h.2
theorem lang_any {l : List RE} (hw : ∀ r ∈ l, Wf r) (t : List Nat) : (rAny l).lang t ↔ ∃ r ∈ l, r.lang t := by
  rw [← any_flatL]
  have hwf := wfk_flat (o := 4) hw
  generalize hf : flatL 4 l = fl at hwf
  have hcls : (∃ k ∈ fl, k.lang t) ↔ (∃ k ∈ orKeep fl, k.lang t) ∨ ∃ x, t = [x] ∧ (orSet fl).getLsbD x = true := by
    have hb : ∀ x, (orSet fl).getLsbD x = fl.any fun r => r.op == 2 && r.set.getLsbD x := fun x => by unfold orSet; rw [orBits]; simp
    constructor
    · rintro ⟨k, hk, h⟩
      by_cases h0 : k.op = 0
      · exact absurd h (lang0 h0 t)
      · by_cases h2 : k.op = 2
        · obtain ⟨x, rfl, hx⟩ := (lang2 h2 t).1 h
          refine .inr ⟨x, rfl, ?_⟩
          rw [hb, List.any_eq_true]
          exact ⟨k, hk, by simp [h2, hx]⟩
        · exact .inl ⟨k, List.mem_filter.2 ⟨hk, by simp [h0, h2]⟩, h⟩
    · rintro (⟨k, hk, h⟩ | ⟨x, rfl, hx⟩)
      · exact ⟨k, (List.mem_filter.1 hk).1, h⟩
      · rw [hb, List.any_eq_true] at hx
        obtain ⟨k, hk, hx⟩ := hx
        rw [Bool.and_eq_true] at hx
        exact ⟨k, hk, (lang2 (by simpa using hx.1) _).2 ⟨x, rfl, hx.2⟩⟩
  rw [hcls]
  unfold rAny
  rw [hf]
  simp only []
  have hks : (∃ k ∈ orKeep fl ++ (if orSet fl = 0#256 then [] else [rOne (orSet fl)]), k.lang t) ↔ (∃ k ∈ orKeep fl, k.lang t) ∨ ∃ x, t = [x] ∧ (orSet fl).getLsbD x = true := by
    constructor
    · rintro ⟨k, hk, h⟩
      rcases List.mem_append.1 hk with hk | hk
      · exact .inl ⟨k, hk, h⟩
      · split at hk
        · simp at hk
        · rw [List.mem_singleton] at hk; subst hk; exact .inr ((lang_one _ t).1 h)
    · rintro (⟨k, hk, h⟩ | h)
      · exact ⟨k, List.mem_append.2 (.inl hk), h⟩
      · refine ⟨rOne (orSet fl), List.mem_append.2 (.inr ?_), (lang_one _ t).2 h⟩
        split
        · rename_i h0
          obtain ⟨x, -, hx⟩ := h
          rw [h0] at hx; simp at hx
        · simp
  have hwk : ∀ y ∈ orKeep fl ++ (if orSet fl = 0#256 then [] else [rOne (orSet fl)]), WfK y := fun y hy => by
    rcases List.mem_append.1 hy with hy | hy
    · exact (hwf y (List.mem_filter.1 hy).1).k
    · split at hy
      · simp at hy
      · rw [List.mem_singleton] at hy; subst hy; exact (wf_one _).k
  generalize hkk : orKeep fl ++ (if orSet fl = 0#256 then [] else [rOne (orSet fl)]) = ks at hks hwk ⊢
  split
  · rename_i h0
    rw [← hks, h0]
    refine iff_of_false (lang_nothing t) (by rintro ⟨k, hk, -⟩; simp at hk)
  · rw [join_or, ← hks]
    constructor
    · rintro ⟨k, hk, h⟩; exact ⟨k, (mem_ordL hwk k).1 hk, h⟩
    · rintro ⟨k, hk, h⟩; exact ⟨k, (mem_ordL hwk k).2 hk, h⟩
theorem lang_many (r : RE) (t : List Nat) : (rMany r).lang t ↔ starG r.lang t := by
  unfold rMany
  split
  · rename_i h
    rw [lang_empty]
    constructor
    · rintro rfl; exact .nil
    · exact star_none fun u hu => by
        rcases h with h | h
        · exact absurd hu (lang0 h u)
        · exact (lang1 h u).1 hu
  · split
    · rename_i h
      constructor
      · exact star_one
      · intro hs
        have hl := lang5 h
        by_cases hk : ∃ l, r.kids.map RE.lang = [l]
        · obtain ⟨l, hl'⟩ := hk
          refine (hl t).2 (.inr ⟨l, hl', star_star (fun u hu => ?_) hs⟩)
          rcases (hl u).1 hu with rfl | ⟨m, hm, h2⟩
          · exact .nil
          · rw [hl'] at hm; injection hm with hm; subst hm; exact h2
        · refine (hl t).2 (.inl (star_none (fun u hu => ?_) hs))
          rcases (hl u).1 hu with h2 | ⟨m, hm, -⟩
          · exact h2
          · exact absurd ⟨m, hm⟩ hk
    · rw [lang5 (r := .mk 5 0#256 [r]) rfl]
      constructor
      · rintro (rfl | ⟨l, hl, h⟩)
        · exact .nil
        · have hl : [r.lang] = [l] := hl
          have : r.lang = l := by injection hl
          rw [this]; exact h
      · intro h; exact .inr ⟨_, rfl, h⟩
theorem bit_lt {s : BitVec 256} {x : Nat} (h : s.getLsbD x = true) : x < 256 := by
  by_cases hx : x < 256
  · exact hx
  · rw [BitVec.getLsbD_of_ge s x (by omega)] at h; cases h
theorem all_bit {x : Nat} (h : x < 256) : allB.getLsbD x = true := by unfold allB; rw [BitVec.getLsbD_not]; simp [h]
theorem lang_all (t : List Nat) (ht : By t) : starG (rOne allB).lang t := by
  induction t with
  | nil => exact .nil
  | cons x t ih => exact .cons [x] t (by simp) ((lang_one _ _).2 ⟨x, rfl, all_bit (ht x (by simp))⟩) (ih fun y hy => ht y (by simp [hy]))
theorem lang_both {l : List RE} (hw : ∀ r ∈ l, Wf r) (t : List Nat) (ht : By t) : (rBoth l).lang t ↔ ∀ r ∈ l, r.lang t := by
  rw [← all_flatL]
  have hwf := wfk_flat (o := 6) hw
  unfold rBoth
  generalize hf : flatL 6 l = fl at hwf
  simp only []
  have hb : ∀ x, x < 256 → (andSet fl).getLsbD x = fl.all fun r => !(r.op == 2) || r.set.getLsbD x := fun x hx => by unfold andSet; rw [andBits, all_bit hx]; simp
  split
  · rename_i h
    refine iff_of_false (lang_nothing t) fun h' => ?_
    obtain ⟨k, hk, h0⟩ := List.any_eq_true.1 h
    exact lang0 (by simpa using h0) t (h' k hk)
  · rename_i hno
    have hn0 : ∀ k ∈ fl, k.op ≠ 0 := fun k hk h0 => hno (List.any_eq_true.2 ⟨k, hk, by simp [h0]⟩)
    have hcl : met fl = true → ((∀ k ∈ fl, k.op = 2 → k.lang t) ↔ ∃ x, t = [x] ∧ (andSet fl).getLsbD x = true) := by
      intro hm
      obtain ⟨m, hm1, hm2⟩ := List.any_eq_true.1 hm
      have hm2 : m.op = 2 := by simpa using hm2
      constructor
      · intro h
        obtain ⟨x, rfl, hx⟩ := (lang2 hm2 t).1 (h m hm1 hm2)
        refine ⟨x, rfl, ?_⟩
        rw [hb x (bit_lt hx), List.all_eq_true]
        intro k hk
        by_cases h2 : k.op = 2
        · obtain ⟨y, e, hy⟩ := (lang2 h2 _).1 (h k hk h2)
          have : x = y := by simpa using e
          subst this
          simp [hy]
        · simp [h2]
      · rintro ⟨x, rfl, hx⟩ k hk h2
        rw [hb x (bit_lt hx), List.all_eq_true] at hx
        have := hx k hk
        exact (lang2 h2 _).2 ⟨x, rfl, by simpa [h2] using this⟩
    have hnm : met fl = false → ∀ k ∈ fl, k.op ≠ 2 := fun hm k hk h2 => by
      have : met fl = true := List.any_eq_true.2 ⟨k, hk, by simp [h2]⟩
      rw [hm] at this; cases this
    have hks : (∀ k ∈ orKeep fl ++ (if met fl = true then [rOne (andSet fl)] else []), k.lang t) ↔ ∀ k ∈ fl, k.lang t := by
      constructor
      · intro h k hk
        by_cases h2 : k.op = 2
        · have hm : met fl = true := List.any_eq_true.2 ⟨k, hk, by simp [h2]⟩
          refine (hcl hm).2 ((lang_one _ t).1 (h _ (List.mem_append.2 (.inr ?_)))) k hk h2
          rw [if_pos hm]; simp
        · exact h k (List.mem_append.2 (.inl (List.mem_filter.2 ⟨hk, by simp [h2, hn0 k hk]⟩)))
      · intro h k hk
        rcases List.mem_append.1 hk with hk | hk
        · exact h k (List.mem_filter.1 hk).1
        · split at hk
          · rename_i hm
            rw [List.mem_singleton] at hk; subst hk
            exact (lang_one _ t).2 ((hcl hm).1 fun k hk _ => h k hk)
          · simp at hk
    have hwk : ∀ y ∈ orKeep fl ++ (if met fl = true then [rOne (andSet fl)] else []), WfK y := fun y hy => by
      rcases List.mem_append.1 hy with hy | hy
      · exact (hwf y (List.mem_filter.1 hy).1).k
      · split at hy
        · rw [List.mem_singleton] at hy; subst hy; exact (wf_one _).k
        · simp at hy
    split
    · rename_i h0
      refine iff_of_false (lang_nothing t) fun h => ?_
      by_cases hm : met fl = true
      · obtain ⟨x, -, hx⟩ := (hcl hm).1 fun k hk _ => h k hk
        rw [h0] at hx; simp at hx
      · have hm : met fl = false := by simpa using hm
        have h1 := hb 0 (by omega)
        rw [h0] at h1
        have h2 : (fl.all fun r => !(r.op == 2) || r.set.getLsbD 0) = true := List.all_eq_true.2 fun k hk => by simp [hnm hm k hk]
        rw [h2] at h1; simp at h1
    · generalize hkk : orKeep fl ++ (if met fl = true then [rOne (andSet fl)] else []) = ks at hks hwk ⊢
      split
      · rename_i hk0
        rw [← hks, hk0, lang_many]
        exact iff_of_true (lang_all t ht) fun k hk => by simp at hk
      · rw [join_and, ← hks]
        constructor
        · intro h k hk; exact h k ((mem_ordL hwk k).2 hk)
        · intro h k hk; exact h k ((mem_ordL hwk k).1 hk)
theorem lang_but {a b : RE} (ha : Wf a) (hb : Wf b) (t : List Nat) : (rBut a b).lang t ↔ a.lang t ∧ ¬ b.lang t := by
  unfold rBut
  split
  · rename_i h
    rcases h with h | h
    · exact iff_of_false (lang0 h t) fun h' => lang0 h t h'.1
    · exact ⟨fun h' => ⟨h', lang0 h t⟩, fun h' => h'.1⟩
  · split
    · rename_i h
      rw [lang_one, lang2 h.1, lang2 h.2]
      constructor
      · rintro ⟨x, rfl, hx⟩
        have hlt := bit_lt hx
        rw [BitVec.getLsbD_and, BitVec.getLsbD_not, Bool.and_eq_true] at hx
        refine ⟨⟨x, rfl, hx.1⟩, ?_⟩
        rintro ⟨y, e, hy⟩
        have : x = y := by simpa using e
        subst this
        simp [hy] at hx
      · rintro ⟨⟨x, rfl, hx⟩, h2⟩
        refine ⟨x, rfl, ?_⟩
        have hlt := bit_lt hx
        have hn : b.set.getLsbD x = false := Bool.eq_false_iff.2 fun hy => h2 ⟨x, rfl, hy⟩
        rw [BitVec.getLsbD_and, BitVec.getLsbD_not, hx, hn]
        simp [hlt]
    · split
      · rename_i h
        have e := key_inj ha.k hb.k (lexN_zero _ _ h)
        subst e
        exact iff_of_false (lang_nothing t) fun h' => h'.2 h'.1
      · rw [lang7 (r := .mk 7 0#256 [a, b]) rfl]
        constructor
        · rintro ⟨x, y, e, h⟩
          have e : [a.lang, b.lang] = [x, y] := e
          injection e with e1 e2
          injection e2 with e2 _
          rw [e1, e2]; exact h
        · intro h; exact ⟨_, _, rfl, h⟩
theorem lang_word (w t : List Nat) (hw : By w) : (rWord w).lang t ↔ t = w := by
  unfold rWord
  rw [lang_then, List.map_map]
  induction w generalizing t with
  | nil => exact Iff.rfl
  | cons c w ih =>
    have hl : ∀ u, (rLetter c).lang u ↔ u = [c] := fun u => by
      unfold rLetter
      rw [lang_one]
      constructor
      · rintro ⟨x, rfl, hx⟩
        rw [setOf_has _ _ (bit_lt hx)] at hx
        have : x = c := by simpa using hx
        rw [this]
      · rintro rfl
        exact ⟨c, rfl, by rw [setOf_has _ _ (hw c (by simp))]; simp⟩
    rw [List.map_cons]
    constructor
    · rintro ⟨u, v, rfl, h1, h2⟩
      rw [(hl u).1 h1, (ih v (fun x hx => hw x (by simp [hx]))).1 h2]; rfl
    · rintro rfl
      exact ⟨[c], w, rfl, (hl _).2 rfl, (ih w (fun x hx => hw x (by simp [hx]))).2 rfl⟩
end Go.Proofs.YtkjmjppmpcnejaaDoor
/- The texts of a shape are those of its expression; the text of no bytes; the number of parts. -/
namespace Go.Proofs.YtkjmjppmpcnejaaDoor
set_option maxRecDepth 100000
set_option linter.unusedSimpArgs false
set_option linter.unusedVariables false

def inG (k a b : Nat) (w : List Nat) (ls : List Lg) : Lg := fun t =>
  if k = 0 then False else if k = 1 then t = [] else if k = 2 then ∃ x, t = [x] ∧ a ≤ x ∧ x ≤ b else if k = 3 then catG ls t else if k = 4 then ∃ l ∈ ls, l t
  else if k = 5 then t = [] ∨ ∃ l, ls[0]? = some l ∧ starG l t else if k = 6 then ∀ l ∈ ls, l t else if k = 7 then (∃ l, ls[0]? = some l ∧ l t) ∧ ¬ ∃ l, ls[1]? = some l ∧ l t else t = w
/-- The texts of a shape, by the page. -/
def SHP.lang : SHP → Lg
  | .mk o l u t ks => inG (SHP.mk o l u t []).k (97 + l % 4) (97 + u % 4) (bytesN t) (ks.map fun k => k.lang)
theorem SHP.lang_mk (o : Int) (l u : Nat) (t : ByteArray) (ks : List SHP) : (SHP.mk o l u t ks).lang = inG (SHP.mk o l u t ks).k (97 + l % 4) (97 + u % 4) (bytesN t) (ks.map SHP.lang) := by rw [SHP.lang]; rfl
theorem by_bytes (t : ByteArray) : By (bytesN t) := fun x hx => by
  obtain ⟨u, -, rfl⟩ := List.mem_map.1 hx
  exact u.toNat_lt

theorem shape_lang (s : SHP) : ∀ t, By t → (s.re.lang t ↔ s.lang t) := by
  refine SHP.ind (P := fun s => ∀ t, By t → (s.re.lang t ↔ s.lang t)) ?_ s
  intro o l u tx ks ih t ht
  rw [SHP.re_mk, SHP.lang_mk]
  generalize (SHP.mk o l u tx ks).k = k
  have hw : ∀ r ∈ ks.map SHP.re, Wf r := fun r hr => by
    obtain ⟨x, -, rfl⟩ := List.mem_map.1 hr
    exact x.wf
  have hg : ∀ i, Wf ((ks.map SHP.re).getD i rNothing) := fun i => wf_getD hw i
  have hget : ∀ i u, By u → (((ks.map SHP.re).getD i rNothing).lang u ↔ ∃ m, (ks.map SHP.lang)[i]? = some m ∧ m u) := fun i u hu => by
    rw [List.getD_eq_getElem?_getD, List.getElem?_map, List.getElem?_map]
    cases h : ks[i]? with
    | none => simpa using lang_nothing u
    | some x => simpa using ih x (List.mem_of_getElem? h) u hu
  unfold mkAt inG
  by_cases h0 : k = 0
  · rw [if_pos h0, if_pos h0]; exact iff_of_false (lang_nothing t) id
  rw [if_neg h0, if_neg h0]
  by_cases h1 : k = 1
  · rw [if_pos h1, if_pos h1]; exact lang_empty t
  rw [if_neg h1, if_neg h1]
  by_cases h2 : k = 2
  · rw [if_pos h2, if_pos h2, lang_one]
    constructor
    · rintro ⟨x, rfl, hx⟩
      rw [span_has _ _ _ (bit_lt hx)] at hx
      have := of_decide_eq_true hx
      exact ⟨x, rfl, this.1, by omega⟩
    · rintro ⟨x, rfl, h3, h4⟩
      exact ⟨x, rfl, by rw [span_has _ _ _ (ht x (by simp))]; exact decide_eq_true ⟨h3, by omega⟩⟩
  rw [if_neg h2, if_neg h2]
  by_cases h3 : k = 3
  · rw [if_pos h3, if_pos h3, lang_then, List.map_map]
    exact catG_congr (fun s : SHP => s.re.lang) SHP.lang ks (fun x hx u hu => ih x hx u hu) t ht
  rw [if_neg h3, if_neg h3]
  by_cases h4 : k = 4
  · rw [if_pos h4, if_pos h4, lang_any hw]
    constructor
    · rintro ⟨r, hr, h⟩
      obtain ⟨x, hx, rfl⟩ := List.mem_map.1 hr
      exact ⟨_, List.mem_map.2 ⟨x, hx, rfl⟩, (ih x hx t ht).1 h⟩
    · rintro ⟨m, hm, h⟩
      obtain ⟨x, hx, rfl⟩ := List.mem_map.1 hm
      exact ⟨_, List.mem_map.2 ⟨x, hx, rfl⟩, (ih x hx t ht).2 h⟩
  rw [if_neg h4, if_neg h4]
  by_cases h5 : k = 5
  · rw [if_pos h5, if_pos h5, lang_many]
    constructor
    · intro h
      cases hm : (ks.map SHP.lang)[0]? with
      | none =>
        refine .inl (star_none (fun u hu => ?_) h)
        have hno : (ks.map SHP.re).getD 0 rNothing = rNothing := by
          rw [List.getElem?_eq_none_iff, List.length_map] at hm
          have : ks = [] := List.eq_nil_of_length_eq_zero (by omega)
          subst this; rfl
        rw [hno] at hu
        exact absurd hu (lang_nothing u)
      | some m =>
        refine .inr ⟨m, rfl, star_mono (fun u hu h' => ?_) ht h⟩
        obtain ⟨m', e, h2⟩ := (hget 0 u hu).1 h'
        rw [hm] at e; cases e; exact h2
    · rintro (rfl | ⟨m, hm, h⟩)
      · exact .nil
      · exact star_mono (fun u hu h' => (hget 0 u hu).2 ⟨m, hm, h'⟩) ht h
  rw [if_neg h5, if_neg h5]
  by_cases h6 : k = 6
  · rw [if_pos h6, if_pos h6, lang_both hw t ht]
    constructor
    · intro h m hm
      obtain ⟨x, hx, rfl⟩ := List.mem_map.1 hm
      exact (ih x hx t ht).1 (h _ (List.mem_map.2 ⟨x, hx, rfl⟩))
    · intro h r hr
      obtain ⟨x, hx, rfl⟩ := List.mem_map.1 hr
      exact (ih x hx t ht).2 (h _ (List.mem_map.2 ⟨x, hx, rfl⟩))
  rw [if_neg h6, if_neg h6]
  by_cases h7 : k = 7
  · rw [if_pos h7, if_pos h7, lang_but (hg 0) (hg 1), hget 0 t ht, hget 1 t ht]
  rw [if_neg h7, if_neg h7]
  exact lang_word _ _ (by_bytes tx)

theorem catG_nil (ls : List Lg) : catG ls [] ↔ ∀ l ∈ ls, l [] := by
  induction ls with
  | nil => simp [catG]
  | cons l ls ih =>
    constructor
    · rintro ⟨u, v, e, h1, h2⟩
      have e2 := List.append_eq_nil_iff.1 e.symm
      rw [e2.1] at h1; rw [e2.2] at h2
      intro m hm
      rcases List.mem_cons.1 hm with rfl | hm
      · exact h1
      · exact ih.1 h2 m hm
    · intro h
      exact ⟨[], [], rfl, h l (by simp), ih.2 fun m hm => h m (by simp [hm])⟩
theorem null_lang (r : RE) : Wf r → (r.null = true ↔ r.lang []) := by
  refine RE.ind (P := fun r => Wf r → (r.null = true ↔ r.lang [])) ?_ r
  intro o s ks ih hw
  have hk : ∀ k ∈ ks, (k.null = true ↔ k.lang []) := fun k hk => ih k hk (by cases hw with | mk _ _ _ h _ => exact h k hk)
  have hs := hw.shp
  simp only [RE.op, RE.set, RE.kids] at hs
  rw [RE.null_mk, RE.lang_mk]
  unfold opG
  have hop := hs.op
  by_cases h1 : o = 1
  · subst h1; simp
  by_cases h2 : o = 2
  · subst h2; simp
  by_cases h3 : o = 3
  · subst h3
    simp only [Nat.reduceEqDiff, if_false, if_true, or_self, or_false, false_or, or_true, true_or, catG_nil]
    simp [List.all_eq_true]
    exact ⟨fun h k hk' => (hk k hk').1 (h k hk'), fun h k hk' => (hk k hk').2 (h k hk')⟩
  by_cases h4 : o = 4
  · subst h4
    simp [List.any_eq_true]
    constructor
    · rintro ⟨k, hk', h⟩; exact ⟨_, ⟨k, hk', rfl⟩, (hk k hk').1 h⟩
    · rintro ⟨l, ⟨k, hk', rfl⟩, h⟩; exact ⟨k, hk', (hk k hk').2 h⟩
  by_cases h5 : o = 5
  · subst h5; simp
  by_cases h6 : o = 6
  · subst h6
    simp [List.all_eq_true]
    exact ⟨fun h k hk' => (hk k hk').1 (h k hk'), fun h k hk' => (hk k hk').2 (h k hk')⟩
  by_cases h7 : o = 7
  · subst h7
    obtain ⟨a, b, rfl, -⟩ := hs.minus rfl
    have ha := hk a (by simp)
    have hb := hk b (by simp)
    simp only [Nat.reduceEqDiff, if_false, if_true, or_self, List.map_cons, List.map_nil]
    rw [Bool.and_eq_true, show ([a.null, b.null].getD 0 false) = a.null from rfl, show ([a.null, b.null].getD 1 false) = b.null from rfl, Bool.not_eq_true', ha]
    constructor
    · rintro ⟨x, y⟩
      exact ⟨_, _, rfl, x, fun hb' => by rw [hb.2 hb'] at y; cases y⟩
    · rintro ⟨x, y, e, h, h'⟩
      injection e with e1 e2
      injection e2 with e2 _
      subst e1 e2
      exact ⟨h, Bool.eq_false_iff.2 fun h2 => h' (hb.1 h2)⟩
  have h0 : o = 0 := by omega
  subst h0
  simp
theorem foldl_sat (l : List RE) (n : Nat) (h : ∀ k ∈ l, k.size = k.cnt) (hb : n + cntL l ≤ 9223372036854775807) : (l.map RE.size).foldl sat n = n + cntL l := by
  induction l generalizing n with
  | nil => simp [cntL]
  | cons k l ih =>
    rw [cntL_cons] at hb ⊢
    rw [List.map_cons, List.foldl_cons, h k (by simp)]
    have e : sat n k.cnt = n + k.cnt := by unfold sat; omega
    rw [e, ih _ (fun x hx => h x (by simp [hx])) (by omega)]
    omega
theorem size_cnt (r : RE) : r.cnt ≤ 9223372036854775807 → r.size = r.cnt := by
  refine RE.ind (P := fun r => r.cnt ≤ 9223372036854775807 → r.size = r.cnt) ?_ r
  intro o s ks ih h
  rw [RE.size_mk, RE.cnt_mk]
  rw [RE.cnt_mk] at h
  refine foldl_sat ks 1 (fun k hk => ih k hk ?_) h
  obtain ⟨u, x, e⟩ := List.append_of_mem hk
  rw [e, cntL_append, cntL_cons] at h
  omega
end Go.Proofs.YtkjmjppmpcnejaaDoor
/- alike: two expressions are one by their parts just where their keys are one; the calls at nil. -/
namespace Go.Proofs.YtkjmjppmpcnejaaDoor
set_option maxRecDepth 100000
set_option linter.unusedSimpArgs false
set_option linter.unusedVariables false
open Go.RowKit

theorem x_lenP (ρ : Operand → Value) (d : Option Tmp) (x : Operand) (t : TypeId) (pos : String) (af : Array Edge) (g : Option (Nat × Bool)) (a : Option Addr) (n cap : Nat) (hx : ρ x = .slice a n cap) (w : World) :
    (execOp ρ { dst := d, op := .call { callee := .builtin .len, args := #[x], argTypes := #[39] }, type := t, pos := pos, after := af, guard := g }).run Tryd.prog w = .ok (.value (.int .i64 n)) w := by
  simp [go_sem, hx]
theorem key_beq {a b : RE} (ha : WfK a) (hb : WfK b) : (a.key == b.key) = true ↔ a = b := by
  rw [beq_iff_eq]
  exact ⟨key_inj ha hb, fun h => by rw [h]⟩
theorem key_bne {a b : RE} (ha : WfK a) (hb : WfK b) (h : a ≠ b) : (a.key == b.key) = false := Bool.eq_false_iff.2 fun h' => h ((key_beq ha hb).1 h')

set_option maxHeartbeats 2000000 in
theorem alike_any (r : RE) : ∀ (r2 : RE) (b b' : Nat) (w : World), WfK r → WfK r2 → ReAt w b r → ReAt w b' r2 →
    Calls Tryd.prog 17 #[PT b, PT b'] w fun e w' => e = .returned (.bool (r.key == r2.key)) ∧ Below w.heap.size w w' := by
  refine RE.ind (P := fun r => ∀ (r2 : RE) (b b' : Nat) (w : World), WfK r → WfK r2 → ReAt w b r → ReAt w b' r2 →
    Calls Tryd.prog 17 #[PT b, PT b'] w fun e w' => e = .returned (.bool (r.key == r2.key)) ∧ Below w.heap.size w w') ?_ r
  intro o s ks ih r2 b b' w hw1 hw2 h1 h2
  obtain ⟨o2, s2, ls⟩ := r2
  obtain ⟨v1, k1, row1⟩ := h1.row
  obtain ⟨v2, k2, row2⟩ := h2.row
  simp only [RE.op, RE.set, RE.kids] at k1 k2 row1 row2
  obtain ⟨n1, a1, c1, rfl, -⟩ := row1.at
  obtain ⟨n2, a2, c2, rfl, -⟩ := row2.at
  have HX : Hid (∀ W, Below w.heap.size w W → W.cell? ⟨b, 0, none⟩ = some (.int .i64 o) ∧ (∀ j, j < 4 → W.cell? ⟨b, 1 + j, none⟩ = some (.int .u64 (wd s j))) ∧ W.cell? ⟨b, 5, none⟩ = some (.slice a1 ks.length c1)) := fun W hW =>
    ⟨(h1.keep hW).cell0, (h1.keep hW).cellS, by rw [(k1.below hW k1.lt).cell]; rfl⟩
  have HY : Hid (∀ W, Below w.heap.size w W → W.cell? ⟨b', 0, none⟩ = some (.int .i64 o2) ∧ (∀ j, j < 4 → W.cell? ⟨b', 1 + j, none⟩ = some (.int .u64 (wd s2 j))) ∧ W.cell? ⟨b', 5, none⟩ = some (.slice a2 ls.length c2)) := fun W hW =>
    ⟨(h2.keep hW).cell0, (h2.keep hW).cellS, by rw [(k2.below hW k2.lt).cell]; rfl⟩
  have HR1 := hide row1
  have HR2 := hide row2
  clear k1 k2 h1 h2 row1 row2
  have HW1 := hide hw1
  have HW2 := hide hw2
  have HIH := hide ih
  clear ih
  obtain ⟨hc, hn⟩ : (o = 2 → ks = [] ∧ s ≠ 0#256) ∧ (o ≠ 2 → s = 0#256) := by cases hw1; exact ⟨‹_›, ‹_›⟩
  obtain ⟨hc2, hn2⟩ : (o2 = 2 → ls = [] ∧ s2 ≠ 0#256) ∧ (o2 ≠ 2 → s2 = 0#256) := by cases hw2; exact ⟨‹_›, ‹_›⟩
  clear hw1 hw2
  by_cases hop : o = o2
  · subst hop
    have hop : ((o : Int) != (o : Int)) = false := by simp
    by_cases h2 : o = 2
    · obtain ⟨rfl, -⟩ := hc h2
      obtain ⟨rfl, -⟩ := hc2 h2
      have h2 : ((o : Int) == 2) = true := by simp [h2]
      by_cases hs : s = s2
      · subst hs
        have hs : (s != s) = false := by simp
        have hl : ((([] : List RE).length : Int) != (([] : List RE).length : Int)) = false := rfl
        have HKY : Hid (((RE.mk o s []).key == (RE.mk o s []).key) = true) := by show _ = _; simp
        go_enter Tryd.func17, Tryd.ntmps17
        unfold PT
        go_wp2
        refine w_lit (C := fun W => Below w.heap.size w W) (by kernel_rfl) (by kernel_rfl) ⟨rfl, rfl, rfl, Nat.le_refl _, fun _ _ => rfl⟩ ?_
        refine w_value (PT b) (by kernel_rfl) (fun w hw => x_move _ _ _ _ _ _ _ _ rfl w) ?_
        simp only [Act.put, List.setIfInBounds_toArray, List.set_cons_succ, List.set_cons_zero]
        refine w_value (PT b) (by kernel_rfl) (fun w hw => x_nilCheck _ _ _ _ _ _ _ _ rfl w) ?_
        simp only [Act.put, List.setIfInBounds_toArray, List.set_cons_succ, List.set_cons_zero]
        refine w_value (PT b) (by kernel_rfl) (fun w hw => x_field0 _ _ _ _ _ _ _ _ rfl w) ?_
        simp only [Act.put, List.setIfInBounds_toArray, List.set_cons_succ, List.set_cons_zero]
        refine w_value (.int .i64 o) (by kernel_rfl) (fun w hw => x_loadOp _ _ _ _ _ _ _ _ o rfl w (HX.out w hw).1) ?_
        simp only [Act.put, List.setIfInBounds_toArray, List.set_cons_succ, List.set_cons_zero]
        refine w_value (PT b') (by kernel_rfl) (fun w hw => x_move _ _ _ _ _ _ _ _ rfl w) ?_
        simp only [Act.put, List.setIfInBounds_toArray, List.set_cons_succ, List.set_cons_zero]
        refine w_value (PT b') (by kernel_rfl) (fun w hw => x_nilCheck _ _ _ _ _ _ _ _ rfl w) ?_
        simp only [Act.put, List.setIfInBounds_toArray, List.set_cons_succ, List.set_cons_zero]
        refine w_value (PT b') (by kernel_rfl) (fun w hw => x_field0 _ _ _ _ _ _ _ _ rfl w) ?_
        simp only [Act.put, List.setIfInBounds_toArray, List.set_cons_succ, List.set_cons_zero]
        refine w_value (.int .i64 o) (by kernel_rfl) (fun w hw => x_loadOp _ _ _ _ _ _ _ _ o rfl w (HY.out w hw).1) ?_
        simp only [Act.put, List.setIfInBounds_toArray, List.set_cons_succ, List.set_cons_zero]
        refine w_value (.bool false) (by kernel_rfl) (fun w hw => (x_neqOp _ _ _ _ _ _ _ _ _ _ rfl rfl w).trans (by rw [hop])) ?_
        simp only [Act.put, List.setIfInBounds_toArray, List.set_cons_succ, List.set_cons_zero]
        refine w_value (.bool false) (by kernel_rfl) (fun w hw => x_move _ _ _ _ _ _ _ _ rfl w) ?_
        simp only [Act.put, List.setIfInBounds_toArray, List.set_cons_succ, List.set_cons_zero]
        refine w_value (PT b) (by kernel_rfl) (fun w hw => x_move _ _ _ _ _ _ _ _ rfl w) ?_
        simp only [Act.put, List.setIfInBounds_toArray, List.set_cons_succ, List.set_cons_zero]
        refine w_value (PT b) (by kernel_rfl) (fun w hw => x_nilCheck _ _ _ _ _ _ _ _ rfl w) ?_
        simp only [Act.put, List.setIfInBounds_toArray, List.set_cons_succ, List.set_cons_zero]
        refine w_value (PT b) (by kernel_rfl) (fun w hw => x_field0 _ _ _ _ _ _ _ _ rfl w) ?_
        simp only [Act.put, List.setIfInBounds_toArray, List.set_cons_succ, List.set_cons_zero]
        refine w_value (.int .i64 o) (by kernel_rfl) (fun w hw => x_loadOp _ _ _ _ _ _ _ _ o rfl w (HX.out w hw).1) ?_
        simp only [Act.put, List.setIfInBounds_toArray, List.set_cons_succ, List.set_cons_zero]
        refine w_value (.bool true) (by kernel_rfl) (fun w hw => x_eqOpC _ _ _ _ _ _ _ _ _ true h2 rfl rfl w) ?_
        simp only [Act.put, List.setIfInBounds_toArray, List.set_cons_succ, List.set_cons_zero]
        refine w_value (.bool true) (by kernel_rfl) (fun w hw => x_move _ _ _ _ _ _ _ _ rfl w) ?_
        simp only [Act.put, List.setIfInBounds_toArray, List.set_cons_succ, List.set_cons_zero]
        refine w_value (PT b) (by kernel_rfl) (fun w hw => x_move _ _ _ _ _ _ _ _ rfl w) ?_
        simp only [Act.put, List.setIfInBounds_toArray, List.set_cons_succ, List.set_cons_zero]
        refine w_value (PT b) (by kernel_rfl) (fun w hw => x_nilCheck _ _ _ _ _ _ _ _ rfl w) ?_
        simp only [Act.put, List.setIfInBounds_toArray, List.set_cons_succ, List.set_cons_zero]
        refine w_value (.pointer (some ⟨b, 1, none⟩)) (by kernel_rfl) (fun w hw => x_field1 _ _ _ _ _ _ _ _ rfl w) ?_
        simp only [Act.put, List.setIfInBounds_toArray, List.set_cons_succ, List.set_cons_zero]
        refine w_value (SV s) (by kernel_rfl) (fun w hw => x_loadAt _ _ _ _ _ _ _ _ 1 s rfl w (HX.out w hw).2.1) ?_
        simp only [Act.put, List.setIfInBounds_toArray, List.set_cons_succ, List.set_cons_zero]
        refine w_value (PT b') (by kernel_rfl) (fun w hw => x_move _ _ _ _ _ _ _ _ rfl w) ?_
        simp only [Act.put, List.setIfInBounds_toArray, List.set_cons_succ, List.set_cons_zero]
        refine w_value (PT b') (by kernel_rfl) (fun w hw => x_nilCheck _ _ _ _ _ _ _ _ rfl w) ?_
        simp only [Act.put, List.setIfInBounds_toArray, List.set_cons_succ, List.set_cons_zero]
        refine w_value (.pointer (some ⟨b', 1, none⟩)) (by kernel_rfl) (fun w hw => x_field1 _ _ _ _ _ _ _ _ rfl w) ?_
        simp only [Act.put, List.setIfInBounds_toArray, List.set_cons_succ, List.set_cons_zero]
        refine w_value (SV s) (by kernel_rfl) (fun w hw => x_loadAt _ _ _ _ _ _ _ _ 1 s rfl w (HY.out w hw).2.1) ?_
        simp only [Act.put, List.setIfInBounds_toArray, List.set_cons_succ, List.set_cons_zero]
        refine w_value (.bool false) (by kernel_rfl) (fun w hw => (x_neqS _ _ _ _ _ _ _ _ s s rfl rfl w).trans (by rw [hs])) ?_
        simp only [Act.put, List.setIfInBounds_toArray, List.set_cons_succ, List.set_cons_zero]
        refine w_value (.bool false) (by kernel_rfl) (fun w hw => x_pick _ _ _ _ _ _ _ _ _ true (.bool false) (.bool false) rfl rfl rfl w) ?_
        simp only [Act.put, List.setIfInBounds_toArray, List.set_cons_succ, List.set_cons_zero]
        refine w_value (.bool false) (by kernel_rfl) (fun w hw => x_pick _ _ _ _ _ _ _ _ _ false (.bool true) (.bool false) rfl rfl rfl w) ?_
        simp only [Act.put, List.setIfInBounds_toArray, List.set_cons_succ, List.set_cons_zero]
        refine w_value (.bool false) (by kernel_rfl) (fun w hw => x_move _ _ _ _ _ _ _ _ rfl w) ?_
        simp only [Act.put, List.setIfInBounds_toArray, List.set_cons_succ, List.set_cons_zero]
        refine w_value (PT b) (by kernel_rfl) (fun w hw => x_move _ _ _ _ _ _ _ _ rfl w) ?_
        simp only [Act.put, List.setIfInBounds_toArray, List.set_cons_succ, List.set_cons_zero]
        refine w_value (PT b) (by kernel_rfl) (fun w hw => x_nilCheck _ _ _ _ _ _ _ _ rfl w) ?_
        simp only [Act.put, List.setIfInBounds_toArray, List.set_cons_succ, List.set_cons_zero]
        refine w_value (.pointer (some ⟨b, 5, none⟩)) (by kernel_rfl) (fun w hw => x_field2 _ _ _ _ _ _ _ _ rfl w) ?_
        simp only [Act.put, List.setIfInBounds_toArray, List.set_cons_succ, List.set_cons_zero]
        refine w_value (.slice a1 ([] : List RE).length c1) (by kernel_rfl) (fun w hw => x_loadKids _ _ _ _ _ _ _ _ 5 _ rfl w (HX.out w hw).2.2) ?_
        simp only [Act.put, List.setIfInBounds_toArray, List.set_cons_succ, List.set_cons_zero]
        refine w_value (.int .i64 ([] : List RE).length) (by kernel_rfl) (fun w hw => x_lenP _ _ _ _ _ _ _ a1 ([] : List RE).length c1 rfl w) ?_
        simp only [Act.put, List.setIfInBounds_toArray, List.set_cons_succ, List.set_cons_zero]
        refine w_value (PT b') (by kernel_rfl) (fun w hw => x_move _ _ _ _ _ _ _ _ rfl w) ?_
        simp only [Act.put, List.setIfInBounds_toArray, List.set_cons_succ, List.set_cons_zero]
        refine w_value (PT b') (by kernel_rfl) (fun w hw => x_nilCheck _ _ _ _ _ _ _ _ rfl w) ?_
        simp only [Act.put, List.setIfInBounds_toArray, List.set_cons_succ, List.set_cons_zero]
        refine w_value (.pointer (some ⟨b', 5, none⟩)) (by kernel_rfl) (fun w hw => x_field2 _ _ _ _ _ _ _ _ rfl w) ?_
        simp only [Act.put, List.setIfInBounds_toArray, List.set_cons_succ, List.set_cons_zero]
        refine w_value (.slice a2 ([] : List RE).length c2) (by kernel_rfl) (fun w hw => x_loadKids _ _ _ _ _ _ _ _ 5 _ rfl w (HY.out w hw).2.2) ?_
        simp only [Act.put, List.setIfInBounds_toArray, List.set_cons_succ, List.set_cons_zero]
        refine w_value (.int .i64 ([] : List RE).length) (by kernel_rfl) (fun w hw => x_lenP _ _ _ _ _ _ _ a2 ([] : List RE).length c2 rfl w) ?_
        simp only [Act.put, List.setIfInBounds_toArray, List.set_cons_succ, List.set_cons_zero]
        refine w_value (.bool false) (by kernel_rfl) (fun w hw => (x_neqInt _ _ _ _ _ _ _ _ _ _ rfl rfl w).trans (by rw [hl])) ?_
        simp only [Act.put, List.setIfInBounds_toArray, List.set_cons_succ, List.set_cons_zero]
        refine w_value (.bool false) (by kernel_rfl) (fun w hw => x_pick _ _ _ _ _ _ _ _ _ false (.bool true) (.bool false) rfl rfl rfl w) ?_
        simp only [Act.put, List.setIfInBounds_toArray, List.set_cons_succ, List.set_cons_zero]
        refine w_nil ?_
        intro W hW
        have hcell := (HX.out W hW).2.2
        unfold PT
        go_wp2
        go_loopw [51] (fun i wr => i = .int .i64 0 ∧ Hid (Below w.heap.size w wr)) (fun _ _ => 0)
        case atStart => exact ⟨rfl, hW⟩
        case round =>
          obtain ⟨rfl, HW⟩ := hrel
          go_wp2
          go_ret
          refine ⟨?_, HW.out⟩
          rw [HKY.out]; rfl
      · have hk := key_bne HW1.out HW2.out (fun e => hs (by injection e))
        have hs : (s != s2) = true := by simp [hs]
        have HKY := hide hk
        clear hk
        go_enter Tryd.func17, Tryd.ntmps17
        unfold PT
        go_wp2
        refine w_lit (C := fun W => Below w.heap.size w W) (by kernel_rfl) (by kernel_rfl) ⟨rfl, rfl, rfl, Nat.le_refl _, fun _ _ => rfl⟩ ?_
        refine w_value (PT b) (by kernel_rfl) (fun w hw => x_move _ _ _ _ _ _ _ _ rfl w) ?_
        simp only [Act.put, List.setIfInBounds_toArray, List.set_cons_succ, List.set_cons_zero]
        refine w_value (PT b) (by kernel_rfl) (fun w hw => x_nilCheck _ _ _ _ _ _ _ _ rfl w) ?_
        simp only [Act.put, List.setIfInBounds_toArray, List.set_cons_succ, List.set_cons_zero]
        refine w_value (PT b) (by kernel_rfl) (fun w hw => x_field0 _ _ _ _ _ _ _ _ rfl w) ?_
        simp only [Act.put, List.setIfInBounds_toArray, List.set_cons_succ, List.set_cons_zero]
        refine w_value (.int .i64 o) (by kernel_rfl) (fun w hw => x_loadOp _ _ _ _ _ _ _ _ o rfl w (HX.out w hw).1) ?_
        simp only [Act.put, List.setIfInBounds_toArray, List.set_cons_succ, List.set_cons_zero]
        refine w_value (PT b') (by kernel_rfl) (fun w hw => x_move _ _ _ _ _ _ _ _ rfl w) ?_
        simp only [Act.put, List.setIfInBounds_toArray, List.set_cons_succ, List.set_cons_zero]
        refine w_value (PT b') (by kernel_rfl) (fun w hw => x_nilCheck _ _ _ _ _ _ _ _ rfl w) ?_
        simp only [Act.put, List.setIfInBounds_toArray, List.set_cons_succ, List.set_cons_zero]
        refine w_value (PT b') (by kernel_rfl) (fun w hw => x_field0 _ _ _ _ _ _ _ _ rfl w) ?_
        simp only [Act.put, List.setIfInBounds_toArray, List.set_cons_succ, List.set_cons_zero]
        refine w_value (.int .i64 o) (by kernel_rfl) (fun w hw => x_loadOp _ _ _ _ _ _ _ _ o rfl w (HY.out w hw).1) ?_
        simp only [Act.put, List.setIfInBounds_toArray, List.set_cons_succ, List.set_cons_zero]
        refine w_value (.bool false) (by kernel_rfl) (fun w hw => (x_neqOp _ _ _ _ _ _ _ _ _ _ rfl rfl w).trans (by rw [hop])) ?_
        simp only [Act.put, List.setIfInBounds_toArray, List.set_cons_succ, List.set_cons_zero]
        refine w_value (.bool false) (by kernel_rfl) (fun w hw => x_move _ _ _ _ _ _ _ _ rfl w) ?_
        simp only [Act.put, List.setIfInBounds_toArray, List.set_cons_succ, List.set_cons_zero]
        refine w_value (PT b) (by kernel_rfl) (fun w hw => x_move _ _ _ _ _ _ _ _ rfl w) ?_
        simp only [Act.put, List.setIfInBounds_toArray, List.set_cons_succ, List.set_cons_zero]
        refine w_value (PT b) (by kernel_rfl) (fun w hw => x_nilCheck _ _ _ _ _ _ _ _ rfl w) ?_
        simp only [Act.put, List.setIfInBounds_toArray, List.set_cons_succ, List.set_cons_zero]
        refine w_value (PT b) (by kernel_rfl) (fun w hw => x_field0 _ _ _ _ _ _ _ _ rfl w) ?_
        simp only [Act.put, List.setIfInBounds_toArray, List.set_cons_succ, List.set_cons_zero]
        refine w_value (.int .i64 o) (by kernel_rfl) (fun w hw => x_loadOp _ _ _ _ _ _ _ _ o rfl w (HX.out w hw).1) ?_
        simp only [Act.put, List.setIfInBounds_toArray, List.set_cons_succ, List.set_cons_zero]
        refine w_value (.bool true) (by kernel_rfl) (fun w hw => x_eqOpC _ _ _ _ _ _ _ _ _ true h2 rfl rfl w) ?_
        simp only [Act.put, List.setIfInBounds_toArray, List.set_cons_succ, List.set_cons_zero]
        refine w_value (.bool true) (by kernel_rfl) (fun w hw => x_move _ _ _ _ _ _ _ _ rfl w) ?_
        simp only [Act.put, List.setIfInBounds_toArray, List.set_cons_succ, List.set_cons_zero]
        refine w_value (PT b) (by kernel_rfl) (fun w hw => x_move _ _ _ _ _ _ _ _ rfl w) ?_
        simp only [Act.put, List.setIfInBounds_toArray, List.set_cons_succ, List.set_cons_zero]
        refine w_value (PT b) (by kernel_rfl) (fun w hw => x_nilCheck _ _ _ _ _ _ _ _ rfl w) ?_
        simp only [Act.put, List.setIfInBounds_toArray, List.set_cons_succ, List.set_cons_zero]
        refine w_value (.pointer (some ⟨b, 1, none⟩)) (by kernel_rfl) (fun w hw => x_field1 _ _ _ _ _ _ _ _ rfl w) ?_
        simp only [Act.put, List.setIfInBounds_toArray, List.set_cons_succ, List.set_cons_zero]
        refine w_value (SV s) (by kernel_rfl) (fun w hw => x_loadAt _ _ _ _ _ _ _ _ 1 s rfl w (HX.out w hw).2.1) ?_
        simp only [Act.put, List.setIfInBounds_toArray, List.set_cons_succ, List.set_cons_zero]
        refine w_value (PT b') (by kernel_rfl) (fun w hw => x_move _ _ _ _ _ _ _ _ rfl w) ?_
        simp only [Act.put, List.setIfInBounds_toArray, List.set_cons_succ, List.set_cons_zero]
        refine w_value (PT b') (by kernel_rfl) (fun w hw => x_nilCheck _ _ _ _ _ _ _ _ rfl w) ?_
        simp only [Act.put, List.setIfInBounds_toArray, List.set_cons_succ, List.set_cons_zero]
        refine w_value (.pointer (some ⟨b', 1, none⟩)) (by kernel_rfl) (fun w hw => x_field1 _ _ _ _ _ _ _ _ rfl w) ?_
        simp only [Act.put, List.setIfInBounds_toArray, List.set_cons_succ, List.set_cons_zero]
        refine w_value (SV s2) (by kernel_rfl) (fun w hw => x_loadAt _ _ _ _ _ _ _ _ 1 s2 rfl w (HY.out w hw).2.1) ?_
        simp only [Act.put, List.setIfInBounds_toArray, List.set_cons_succ, List.set_cons_zero]
        refine w_value (.bool true) (by kernel_rfl) (fun w hw => (x_neqS _ _ _ _ _ _ _ _ s s2 rfl rfl w).trans (by rw [hs])) ?_
        simp only [Act.put, List.setIfInBounds_toArray, List.set_cons_succ, List.set_cons_zero]
        refine w_value (.bool true) (by kernel_rfl) (fun w hw => x_pick _ _ _ _ _ _ _ _ _ true (.bool true) (.bool false) rfl rfl rfl w) ?_
        simp only [Act.put, List.setIfInBounds_toArray, List.set_cons_succ, List.set_cons_zero]
        refine w_value (.bool true) (by kernel_rfl) (fun w hw => x_pick _ _ _ _ _ _ _ _ _ false (.bool true) (.bool true) rfl rfl rfl w) ?_
        simp only [Act.put, List.setIfInBounds_toArray, List.set_cons_succ, List.set_cons_zero]
        refine w_value (.bool true) (by kernel_rfl) (fun w hw => x_move _ _ _ _ _ _ _ _ rfl w) ?_
        simp only [Act.put, List.setIfInBounds_toArray, List.set_cons_succ, List.set_cons_zero]
        refine w_skip (by kernel_rfl) ?_
        simp only [Act.put, List.setIfInBounds_toArray, List.set_cons_succ, List.set_cons_zero]
        refine w_skip (by kernel_rfl) ?_
        simp only [Act.put, List.setIfInBounds_toArray, List.set_cons_succ, List.set_cons_zero]
        refine w_skip (by kernel_rfl) ?_
        simp only [Act.put, List.setIfInBounds_toArray, List.set_cons_succ, List.set_cons_zero]
        refine w_skip (by kernel_rfl) ?_
        simp only [Act.put, List.setIfInBounds_toArray, List.set_cons_succ, List.set_cons_zero]
        refine w_skip (by kernel_rfl) ?_
        simp only [Act.put, List.setIfInBounds_toArray, List.set_cons_succ, List.set_cons_zero]
        refine w_skip (by kernel_rfl) ?_
        simp only [Act.put, List.setIfInBounds_toArray, List.set_cons_succ, List.set_cons_zero]
        refine w_skip (by kernel_rfl) ?_
        simp only [Act.put, List.setIfInBounds_toArray, List.set_cons_succ, List.set_cons_zero]
        refine w_skip (by kernel_rfl) ?_
        simp only [Act.put, List.setIfInBounds_toArray, List.set_cons_succ, List.set_cons_zero]
        refine w_skip (by kernel_rfl) ?_
        simp only [Act.put, List.setIfInBounds_toArray, List.set_cons_succ, List.set_cons_zero]
        refine w_skip (by kernel_rfl) ?_
        simp only [Act.put, List.setIfInBounds_toArray, List.set_cons_succ, List.set_cons_zero]
        refine w_skip (by kernel_rfl) ?_
        simp only [Act.put, List.setIfInBounds_toArray, List.set_cons_succ, List.set_cons_zero]
        refine w_value (.bool true) (by kernel_rfl) (fun w hw => x_pick _ _ _ _ _ _ _ _ _ true (.bool true) undef rfl rfl rfl w) ?_
        simp only [Act.put, List.setIfInBounds_toArray, List.set_cons_succ, List.set_cons_zero]
        refine w_nil ?_
        intro W hW
        unfold PT
        go_wp2
        go_ret
        refine ⟨?_, hW⟩
        rw [HKY.out]; rfl
    · have h2 : ((o : Int) == 2) = false := beq_eq_false_iff_ne.2 (by omega)
      by_cases hl : ks.length = ls.length
      · have HLN := hide hl
        have hl2 : ((ks.length : Int) != (ls.length : Int)) = false := by simp [hl]
        have HS12 : Hid (s = s2) := by
          show _ = _
          rw [hn (by intro e; subst e; simp at h2), hn2 (by intro e; subst e; simp at h2)]
        clear hl hn hn2 hc hc2
        have hl := hl2
        clear hl2
        go_enter Tryd.func17, Tryd.ntmps17
        unfold PT
        go_wp2
        refine w_lit (C := fun W => Below w.heap.size w W) (by kernel_rfl) (by kernel_rfl) ⟨rfl, rfl, rfl, Nat.le_refl _, fun _ _ => rfl⟩ ?_
        refine w_value (PT b) (by kernel_rfl) (fun w hw => x_move _ _ _ _ _ _ _ _ rfl w) ?_
        simp only [Act.put, List.setIfInBounds_toArray, List.set_cons_succ, List.set_cons_zero]
        refine w_value (PT b) (by kernel_rfl) (fun w hw => x_nilCheck _ _ _ _ _ _ _ _ rfl w) ?_
        simp only [Act.put, List.setIfInBounds_toArray, List.set_cons_succ, List.set_cons_zero]
        refine w_value (PT b) (by kernel_rfl) (fun w hw => x_field0 _ _ _ _ _ _ _ _ rfl w) ?_
        simp only [Act.put, List.setIfInBounds_toArray, List.set_cons_succ, List.set_cons_zero]
        refine w_value (.int .i64 o) (by kernel_rfl) (fun w hw => x_loadOp _ _ _ _ _ _ _ _ o rfl w (HX.out w hw).1) ?_
        simp only [Act.put, List.setIfInBounds_toArray, List.set_cons_succ, List.set_cons_zero]
        refine w_value (PT b') (by kernel_rfl) (fun w hw => x_move _ _ _ _ _ _ _ _ rfl w) ?_
        simp only [Act.put, List.setIfInBounds_toArray, List.set_cons_succ, List.set_cons_zero]
        refine w_value (PT b') (by kernel_rfl) (fun w hw => x_nilCheck _ _ _ _ _ _ _ _ rfl w) ?_
        simp only [Act.put, List.setIfInBounds_toArray, List.set_cons_succ, List.set_cons_zero]
        refine w_value (PT b') (by kernel_rfl) (fun w hw => x_field0 _ _ _ _ _ _ _ _ rfl w) ?_
        simp only [Act.put, List.setIfInBounds_toArray, List.set_cons_succ, List.set_cons_zero]
        refine w_value (.int .i64 o) (by kernel_rfl) (fun w hw => x_loadOp _ _ _ _ _ _ _ _ o rfl w (HY.out w hw).1) ?_
        simp only [Act.put, List.setIfInBounds_toArray, List.set_cons_succ, List.set_cons_zero]
        refine w_value (.bool false) (by kernel_rfl) (fun w hw => (x_neqOp _ _ _ _ _ _ _ _ _ _ rfl rfl w).trans (by rw [hop])) ?_
        simp only [Act.put, List.setIfInBounds_toArray, List.set_cons_succ, List.set_cons_zero]
        refine w_value (.bool false) (by kernel_rfl) (fun w hw => x_move _ _ _ _ _ _ _ _ rfl w) ?_
        simp only [Act.put, List.setIfInBounds_toArray, List.set_cons_succ, List.set_cons_zero]
        refine w_value (PT b) (by kernel_rfl) (fun w hw => x_move _ _ _ _ _ _ _ _ rfl w) ?_
        simp only [Act.put, List.setIfInBounds_toArray, List.set_cons_succ, List.set_cons_zero]
        refine w_value (PT b) (by kernel_rfl) (fun w hw => x_nilCheck _ _ _ _ _ _ _ _ rfl w) ?_
        simp only [Act.put, List.setIfInBounds_toArray, List.set_cons_succ, List.set_cons_zero]
        refine w_value (PT b) (by kernel_rfl) (fun w hw => x_field0 _ _ _ _ _ _ _ _ rfl w) ?_
        simp only [Act.put, List.setIfInBounds_toArray, List.set_cons_succ, List.set_cons_zero]
        refine w_value (.int .i64 o) (by kernel_rfl) (fun w hw => x_loadOp _ _ _ _ _ _ _ _ o rfl w (HX.out w hw).1) ?_
        simp only [Act.put, List.setIfInBounds_toArray, List.set_cons_succ, List.set_cons_zero]
        refine w_value (.bool false) (by kernel_rfl) (fun w hw => x_eqOpC _ _ _ _ _ _ _ _ _ false h2 rfl rfl w) ?_
        simp only [Act.put, List.setIfInBounds_toArray, List.set_cons_succ, List.set_cons_zero]
        refine w_value (.bool false) (by kernel_rfl) (fun w hw => x_move _ _ _ _ _ _ _ _ rfl w) ?_
        simp only [Act.put, List.setIfInBounds_toArray, List.set_cons_succ, List.set_cons_zero]
        refine w_skip (by kernel_rfl) ?_
        simp only [Act.put, List.setIfInBounds_toArray, List.set_cons_succ, List.set_cons_zero]
        refine w_skip (by kernel_rfl) ?_
        simp only [Act.put, List.setIfInBounds_toArray, List.set_cons_succ, List.set_cons_zero]
        refine w_skip (by kernel_rfl) ?_
        simp only [Act.put, List.setIfInBounds_toArray, List.set_cons_succ, List.set_cons_zero]
        refine w_skip (by kernel_rfl) ?_
        simp only [Act.put, List.setIfInBounds_toArray, List.set_cons_succ, List.set_cons_zero]
        refine w_skip (by kernel_rfl) ?_
        simp only [Act.put, List.setIfInBounds_toArray, List.set_cons_succ, List.set_cons_zero]
        refine w_skip (by kernel_rfl) ?_
        simp only [Act.put, List.setIfInBounds_toArray, List.set_cons_succ, List.set_cons_zero]
        refine w_skip (by kernel_rfl) ?_
        simp only [Act.put, List.setIfInBounds_toArray, List.set_cons_succ, List.set_cons_zero]
        refine w_skip (by kernel_rfl) ?_
        simp only [Act.put, List.setIfInBounds_toArray, List.set_cons_succ, List.set_cons_zero]
        refine w_skip (by kernel_rfl) ?_
        simp only [Act.put, List.setIfInBounds_toArray, List.set_cons_succ, List.set_cons_zero]
        refine w_value (.bool false) (by kernel_rfl) (fun w hw => x_pick _ _ _ _ _ _ _ _ _ false undef (.bool false) rfl rfl rfl w) ?_
        simp only [Act.put, List.setIfInBounds_toArray, List.set_cons_succ, List.set_cons_zero]
        refine w_value (.bool false) (by kernel_rfl) (fun w hw => x_pick _ _ _ _ _ _ _ _ _ false (.bool true) (.bool false) rfl rfl rfl w) ?_
        simp only [Act.put, List.setIfInBounds_toArray, List.set_cons_succ, List.set_cons_zero]
        refine w_value (.bool false) (by kernel_rfl) (fun w hw => x_move _ _ _ _ _ _ _ _ rfl w) ?_
        simp only [Act.put, List.setIfInBounds_toArray, List.set_cons_succ, List.set_cons_zero]
        refine w_value (PT b) (by kernel_rfl) (fun w hw => x_move _ _ _ _ _ _ _ _ rfl w) ?_
        simp only [Act.put, List.setIfInBounds_toArray, List.set_cons_succ, List.set_cons_zero]
        refine w_value (PT b) (by kernel_rfl) (fun w hw => x_nilCheck _ _ _ _ _ _ _ _ rfl w) ?_
        simp only [Act.put, List.setIfInBounds_toArray, List.set_cons_succ, List.set_cons_zero]
        refine w_value (.pointer (some ⟨b, 5, none⟩)) (by kernel_rfl) (fun w hw => x_field2 _ _ _ _ _ _ _ _ rfl w) ?_
        simp only [Act.put, List.setIfInBounds_toArray, List.set_cons_succ, List.set_cons_zero]
        refine w_value (.slice a1 ks.length c1) (by kernel_rfl) (fun w hw => x_loadKids _ _ _ _ _ _ _ _ 5 _ rfl w (HX.out w hw).2.2) ?_
        simp only [Act.put, List.setIfInBounds_toArray, List.set_cons_succ, List.set_cons_zero]
        refine w_value (.int .i64 ks.length) (by kernel_rfl) (fun w hw => x_lenP _ _ _ _ _ _ _ a1 ks.length c1 rfl w) ?_
        simp only [Act.put, List.setIfInBounds_toArray, List.set_cons_succ, List.set_cons_zero]
        refine w_value (PT b') (by kernel_rfl) (fun w hw => x_move _ _ _ _ _ _ _ _ rfl w) ?_
        simp only [Act.put, List.setIfInBounds_toArray, List.set_cons_succ, List.set_cons_zero]
        refine w_value (PT b') (by kernel_rfl) (fun w hw => x_nilCheck _ _ _ _ _ _ _ _ rfl w) ?_
        simp only [Act.put, List.setIfInBounds_toArray, List.set_cons_succ, List.set_cons_zero]
        refine w_value (.pointer (some ⟨b', 5, none⟩)) (by kernel_rfl) (fun w hw => x_field2 _ _ _ _ _ _ _ _ rfl w) ?_
        simp only [Act.put, List.setIfInBounds_toArray, List.set_cons_succ, List.set_cons_zero]
        refine w_value (.slice a2 ls.length c2) (by kernel_rfl) (fun w hw => x_loadKids _ _ _ _ _ _ _ _ 5 _ rfl w (HY.out w hw).2.2) ?_
        simp only [Act.put, List.setIfInBounds_toArray, List.set_cons_succ, List.set_cons_zero]
        refine w_value (.int .i64 ls.length) (by kernel_rfl) (fun w hw => x_lenP _ _ _ _ _ _ _ a2 ls.length c2 rfl w) ?_
        simp only [Act.put, List.setIfInBounds_toArray, List.set_cons_succ, List.set_cons_zero]
        refine w_value (.bool false) (by kernel_rfl) (fun w hw => (x_neqInt _ _ _ _ _ _ _ _ _ _ rfl rfl w).trans (by rw [hl])) ?_
        simp only [Act.put, List.setIfInBounds_toArray, List.set_cons_succ, List.set_cons_zero]
        refine w_value (.bool false) (by kernel_rfl) (fun w hw => x_pick _ _ _ _ _ _ _ _ _ false (.bool true) (.bool false) rfl rfl rfl w) ?_
        simp only [Act.put, List.setIfInBounds_toArray, List.set_cons_succ, List.set_cons_zero]
        refine w_nil ?_
        intro W hW
        have hcell := (HX.out W hW).2.2
        unfold PT
        go_wp2
        clear hcell
        have HW0 := hide hW
        clear hW
        go_loopw [51] (fun i wr => ∃ k : Nat, k ≤ ks.length ∧ i = .int .i64 k ∧ Hid (ks.take k = ls.take k) ∧ Hid (Below w.heap.size w wr)) (fun i _ => ks.length - (intOf i).toNat)
        case atStart => exact ⟨0, by omega, rfl, rfl, HW0.out⟩
        case round =>
          clear HW0
          obtain ⟨k, hk, rfl, HE, HW⟩ := hrel
          by_cases hlt : k < ks.length
          · have hkd : decide (k < ks.length) = true := by simp [hlt]
            have hlt2 : k < ls.length := by have := HLN.out; omega
            obtain ⟨-, a1', c1', e1, q1⟩ := HR1.out.at
            obtain ⟨g1, f1, p, e2, -, hc1, hr1⟩ := q1 k hlt
            obtain ⟨-, a2', c2', e3, q2⟩ := HR2.out.at
            obtain ⟨g2, f2, q, e4, -, hc2', hr2⟩ := q2 k hlt2
            injection e1 with e5 e6 e7
            injection e3 with e8 e9 e10
            subst e5 e7 e8 e10 e2 e4
            clear q1 q2 e6 e9
            have hq1 : ∀ W, Below w.heap.size w W → W.cell? ⟨g1, f1 + k, none⟩ = some (PT p) ∧ True := fun W hW => ⟨(World.cell?_of_block (w := w) (hW.block _ (World.block_lt_of_cell? _ _ hc1))).trans hc1, trivial⟩
            have hq2 : ∀ W, Below w.heap.size w W → W.cell? ⟨g2, f2 + k, none⟩ = some (PT q) ∧ True := fun W hW => ⟨(World.cell?_of_block (w := w) (hW.block _ (World.block_lt_of_cell? _ _ hc2'))).trans hc2', trivial⟩
            obtain ⟨bb, hbb⟩ : ∃ bb, bb = (ks[k].key == ls[k].key) := ⟨_, rfl⟩
            have hq3 : ∀ W, Below w.heap.size w W → Calls Tryd.prog 17 #[PT p, PT q] W fun e w' => e = .returned (.bool bb) ∧ Below W.heap.size W w' := fun W hW => by
              rw [hbb]
              exact HIH.out ks[k] (List.getElem_mem hlt) ls[k] p q W (HW1.out.kid _ (List.getElem_mem hlt)) (HW2.out.kid _ (List.getElem_mem hlt2)) (hr1.keep hW) (hr2.keep hW)
            have HBB := hide hbb
            have HT1 := hide (show ks.take (k + 1) = ks.take k ++ [ks[k]] from List.take_succ_eq_append_getElem hlt)
            have HT2 := hide (show ls.take (k + 1) = ls.take k ++ [ls[k]] from List.take_succ_eq_append_getElem hlt2)
            have HKK : Hid (bb = true → ks[k] = ls[k]) := fun h => (key_beq (HW1.out.kid _ (List.getElem_mem hlt)) (HW2.out.kid _ (List.getElem_mem hlt2))).1 (by rw [← hbb, h])
            have HKF : Hid (bb = false → ks ≠ ls) := fun h e => by
              subst e
              rw [h] at hbb
              simp at hbb
            clear hbb hc1 hc2' hr1 hr2
            have hG : Grows fun W => Below w.heap.size w W := fun W W' h1 h2 => h1.trans (h2.mono h1.size)
            go_wp2
            refine w_lit (C := fun W => Below w.heap.size w W) (by kernel_rfl) (by kernel_rfl) (HW.out.trans ⟨rfl, rfl, rfl, Nat.le_refl _, fun _ _ => rfl⟩) ?_
            refine w_value (PT b) (by kernel_rfl) (fun w hw => x_move _ _ _ _ _ _ _ _ rfl w) ?_
            simp only [Act.put, List.setIfInBounds_toArray, List.set_cons_succ, List.set_cons_zero]
            refine w_value (PT b) (by kernel_rfl) (fun w hw => x_nilCheck _ _ _ _ _ _ _ _ rfl w) ?_
            simp only [Act.put, List.setIfInBounds_toArray, List.set_cons_succ, List.set_cons_zero]
            refine w_value (.pointer (some ⟨b, 5, none⟩)) (by kernel_rfl) (fun w hw => x_field2 _ _ _ _ _ _ _ _ rfl w) ?_
            simp only [Act.put, List.setIfInBounds_toArray, List.set_cons_succ, List.set_cons_zero]
            refine w_value (.slice (some ⟨g1, f1, none⟩) ks.length c1) (by kernel_rfl) (fun w hw => x_loadKids _ _ _ _ _ _ _ _ 5 _ rfl w (HX.out w hw).2.2) ?_
            simp only [Act.put, List.setIfInBounds_toArray, List.set_cons_succ, List.set_cons_zero]
            refine w_value (.int .i64 k) (by kernel_rfl) (fun w hw => x_move _ _ _ _ _ _ _ _ rfl w) ?_
            simp only [Act.put, List.setIfInBounds_toArray, List.set_cons_succ, List.set_cons_zero]
            refine w_value (.pointer (some ⟨g1, f1 + k, none⟩)) (by kernel_rfl) (fun w hw => x_idxP _ _ _ _ _ _ _ _ g1 f1 ks.length c1 k rfl rfl hlt w) ?_
            simp only [Act.put, List.setIfInBounds_toArray, List.set_cons_succ, List.set_cons_zero]
            refine w_value (PT p) (by kernel_rfl) (fun w hw => x_loadP _ _ _ _ _ _ _ _ _ _ rfl w (hq1 w hw).1) ?_
            simp only [Act.put, List.setIfInBounds_toArray, List.set_cons_succ, List.set_cons_zero]
            refine w_value (PT b') (by kernel_rfl) (fun w hw => x_move _ _ _ _ _ _ _ _ rfl w) ?_
            simp only [Act.put, List.setIfInBounds_toArray, List.set_cons_succ, List.set_cons_zero]
            refine w_value (PT b') (by kernel_rfl) (fun w hw => x_nilCheck _ _ _ _ _ _ _ _ rfl w) ?_
            simp only [Act.put, List.setIfInBounds_toArray, List.set_cons_succ, List.set_cons_zero]
            refine w_value (.pointer (some ⟨b', 5, none⟩)) (by kernel_rfl) (fun w hw => x_field2 _ _ _ _ _ _ _ _ rfl w) ?_
            simp only [Act.put, List.setIfInBounds_toArray, List.set_cons_succ, List.set_cons_zero]
            refine w_value (.slice (some ⟨g2, f2, none⟩) ls.length c2) (by kernel_rfl) (fun w hw => x_loadKids _ _ _ _ _ _ _ _ 5 _ rfl w (HY.out w hw).2.2) ?_
            simp only [Act.put, List.setIfInBounds_toArray, List.set_cons_succ, List.set_cons_zero]
            refine w_value (.int .i64 k) (by kernel_rfl) (fun w hw => x_move _ _ _ _ _ _ _ _ rfl w) ?_
            simp only [Act.put, List.setIfInBounds_toArray, List.set_cons_succ, List.set_cons_zero]
            refine w_value (.pointer (some ⟨g2, f2 + k, none⟩)) (by kernel_rfl) (fun w hw => x_idxP _ _ _ _ _ _ _ _ g2 f2 ls.length c2 k rfl rfl hlt2 w) ?_
            simp only [Act.put, List.setIfInBounds_toArray, List.set_cons_succ, List.set_cons_zero]
            refine w_value (PT q) (by kernel_rfl) (fun w hw => x_loadP _ _ _ _ _ _ _ _ _ _ rfl w (hq2 w hw).1) ?_
            simp only [Act.put, List.setIfInBounds_toArray, List.set_cons_succ, List.set_cons_zero]
            refine w_call hG 17 #[PT p, PT q] (.bool bb) (by kernel_rfl) (fun w => x_call2 _ _ _ _ _ _ _ _ _ _ _ _ _ rfl rfl rfl (enters_of Tryd.func17 (by kernel_rfl) rfl) w) (fun w hw => hq3 w hw) ?_
            simp only [Act.put, List.setIfInBounds_toArray, List.set_cons_succ, List.set_cons_zero]
            refine w_value (.bool (!bb)) (by kernel_rfl) (fun w hw => x_notBool _ _ _ _ _ _ _ bb rfl w) ?_
            simp only [Act.put, List.setIfInBounds_toArray, List.set_cons_succ, List.set_cons_zero]
            refine w_nil ?_
            intro W hW
            clear hG hq1 hq2 hq3
            cases bb
            · have HKY := hide (key_bne HW1.out HW2.out (fun e => HKF.out rfl (by injection e)))
              unfold PT
              go_wp2
              go_ret
              refine ⟨?_, hW⟩
              rw [HKY.out]; rfl
            · unfold PT
              go_wp2
              refine ⟨⟨k + 1, by omega, by go_num, ?_, hW⟩, by simp [intOf]; omega⟩
              show ks.take (k + 1) = ls.take (k + 1)
              rw [HT1.out, HT2.out, HE.out, HKK.out rfl]
          · obtain rfl : k = ks.length := by omega
            have hkl : ks = ls := by
              have h := HE.out
              rw [List.take_length, HLN.out, List.take_length] at h
              exact h
            have hkd : decide (ks.length < ks.length) = false := by simp
            have HKY : Hid (((RE.mk o s ks).key == (RE.mk o s2 ls).key) = true) := by
              show _ = _
              rw [HS12.out, hkl]; simp
            clear hkl
            go_wp2
            go_ret
            refine ⟨?_, HW.out⟩
            rw [HKY.out]; rfl
      · have hk := key_bne HW1.out HW2.out (fun e => hl (by injection e with _ _ e; rw [e]))
        have hl : ((ks.length : Int) != (ls.length : Int)) = true := by simp; omega
        have HKY := hide hk
        clear hk
        go_enter Tryd.func17, Tryd.ntmps17
        unfold PT
        go_wp2
        refine w_lit (C := fun W => Below w.heap.size w W) (by kernel_rfl) (by kernel_rfl) ⟨rfl, rfl, rfl, Nat.le_refl _, fun _ _ => rfl⟩ ?_
        refine w_value (PT b) (by kernel_rfl) (fun w hw => x_move _ _ _ _ _ _ _ _ rfl w) ?_
        simp only [Act.put, List.setIfInBounds_toArray, List.set_cons_succ, List.set_cons_zero]
        refine w_value (PT b) (by kernel_rfl) (fun w hw => x_nilCheck _ _ _ _ _ _ _ _ rfl w) ?_
        simp only [Act.put, List.setIfInBounds_toArray, List.set_cons_succ, List.set_cons_zero]
        refine w_value (PT b) (by kernel_rfl) (fun w hw => x_field0 _ _ _ _ _ _ _ _ rfl w) ?_
        simp only [Act.put, List.setIfInBounds_toArray, List.set_cons_succ, List.set_cons_zero]
        refine w_value (.int .i64 o) (by kernel_rfl) (fun w hw => x_loadOp _ _ _ _ _ _ _ _ o rfl w (HX.out w hw).1) ?_
        simp only [Act.put, List.setIfInBounds_toArray, List.set_cons_succ, List.set_cons_zero]
        refine w_value (PT b') (by kernel_rfl) (fun w hw => x_move _ _ _ _ _ _ _ _ rfl w) ?_
        simp only [Act.put, List.setIfInBounds_toArray, List.set_cons_succ, List.set_cons_zero]
        refine w_value (PT b') (by kernel_rfl) (fun w hw => x_nilCheck _ _ _ _ _ _ _ _ rfl w) ?_
        simp only [Act.put, List.setIfInBounds_toArray, List.set_cons_succ, List.set_cons_zero]
        refine w_value (PT b') (by kernel_rfl) (fun w hw => x_field0 _ _ _ _ _ _ _ _ rfl w) ?_
        simp only [Act.put, List.setIfInBounds_toArray, List.set_cons_succ, List.set_cons_zero]
        refine w_value (.int .i64 o) (by kernel_rfl) (fun w hw => x_loadOp _ _ _ _ _ _ _ _ o rfl w (HY.out w hw).1) ?_
        simp only [Act.put, List.setIfInBounds_toArray, List.set_cons_succ, List.set_cons_zero]
        refine w_value (.bool false) (by kernel_rfl) (fun w hw => (x_neqOp _ _ _ _ _ _ _ _ _ _ rfl rfl w).trans (by rw [hop])) ?_
        simp only [Act.put, List.setIfInBounds_toArray, List.set_cons_succ, List.set_cons_zero]
        refine w_value (.bool false) (by kernel_rfl) (fun w hw => x_move _ _ _ _ _ _ _ _ rfl w) ?_
        simp only [Act.put, List.setIfInBounds_toArray, List.set_cons_succ, List.set_cons_zero]
        refine w_value (PT b) (by kernel_rfl) (fun w hw => x_move _ _ _ _ _ _ _ _ rfl w) ?_
        simp only [Act.put, List.setIfInBounds_toArray, List.set_cons_succ, List.set_cons_zero]
        refine w_value (PT b) (by kernel_rfl) (fun w hw => x_nilCheck _ _ _ _ _ _ _ _ rfl w) ?_
        simp only [Act.put, List.setIfInBounds_toArray, List.set_cons_succ, List.set_cons_zero]
        refine w_value (PT b) (by kernel_rfl) (fun w hw => x_field0 _ _ _ _ _ _ _ _ rfl w) ?_
        simp only [Act.put, List.setIfInBounds_toArray, List.set_cons_succ, List.set_cons_zero]
        refine w_value (.int .i64 o) (by kernel_rfl) (fun w hw => x_loadOp _ _ _ _ _ _ _ _ o rfl w (HX.out w hw).1) ?_
        simp only [Act.put, List.setIfInBounds_toArray, List.set_cons_succ, List.set_cons_zero]
        refine w_value (.bool false) (by kernel_rfl) (fun w hw => x_eqOpC _ _ _ _ _ _ _ _ _ false h2 rfl rfl w) ?_
        simp only [Act.put, List.setIfInBounds_toArray, List.set_cons_succ, List.set_cons_zero]
        refine w_value (.bool false) (by kernel_rfl) (fun w hw => x_move _ _ _ _ _ _ _ _ rfl w) ?_
        simp only [Act.put, List.setIfInBounds_toArray, List.set_cons_succ, List.set_cons_zero]
        refine w_skip (by kernel_rfl) ?_
        simp only [Act.put, List.setIfInBounds_toArray, List.set_cons_succ, List.set_cons_zero]
        refine w_skip (by kernel_rfl) ?_
        simp only [Act.put, List.setIfInBounds_toArray, List.set_cons_succ, List.set_cons_zero]
        refine w_skip (by kernel_rfl) ?_
        simp only [Act.put, List.setIfInBounds_toArray, List.set_cons_succ, List.set_cons_zero]
        refine w_skip (by kernel_rfl) ?_
        simp only [Act.put, List.setIfInBounds_toArray, List.set_cons_succ, List.set_cons_zero]
        refine w_skip (by kernel_rfl) ?_
        simp only [Act.put, List.setIfInBounds_toArray, List.set_cons_succ, List.set_cons_zero]
        refine w_skip (by kernel_rfl) ?_
        simp only [Act.put, List.setIfInBounds_toArray, List.set_cons_succ, List.set_cons_zero]
        refine w_skip (by kernel_rfl) ?_
        simp only [Act.put, List.setIfInBounds_toArray, List.set_cons_succ, List.set_cons_zero]
        refine w_skip (by kernel_rfl) ?_
        simp only [Act.put, List.setIfInBounds_toArray, List.set_cons_succ, List.set_cons_zero]
        refine w_skip (by kernel_rfl) ?_
        simp only [Act.put, List.setIfInBounds_toArray, List.set_cons_succ, List.set_cons_zero]
        refine w_value (.bool false) (by kernel_rfl) (fun w hw => x_pick _ _ _ _ _ _ _ _ _ false undef (.bool false) rfl rfl rfl w) ?_
        simp only [Act.put, List.setIfInBounds_toArray, List.set_cons_succ, List.set_cons_zero]
        refine w_value (.bool false) (by kernel_rfl) (fun w hw => x_pick _ _ _ _ _ _ _ _ _ false (.bool true) (.bool false) rfl rfl rfl w) ?_
        simp only [Act.put, List.setIfInBounds_toArray, List.set_cons_succ, List.set_cons_zero]
        refine w_value (.bool false) (by kernel_rfl) (fun w hw => x_move _ _ _ _ _ _ _ _ rfl w) ?_
        simp only [Act.put, List.setIfInBounds_toArray, List.set_cons_succ, List.set_cons_zero]
        refine w_value (PT b) (by kernel_rfl) (fun w hw => x_move _ _ _ _ _ _ _ _ rfl w) ?_
        simp only [Act.put, List.setIfInBounds_toArray, List.set_cons_succ, List.set_cons_zero]
        refine w_value (PT b) (by kernel_rfl) (fun w hw => x_nilCheck _ _ _ _ _ _ _ _ rfl w) ?_
        simp only [Act.put, List.setIfInBounds_toArray, List.set_cons_succ, List.set_cons_zero]
        refine w_value (.pointer (some ⟨b, 5, none⟩)) (by kernel_rfl) (fun w hw => x_field2 _ _ _ _ _ _ _ _ rfl w) ?_
        simp only [Act.put, List.setIfInBounds_toArray, List.set_cons_succ, List.set_cons_zero]
        refine w_value (.slice a1 ks.length c1) (by kernel_rfl) (fun w hw => x_loadKids _ _ _ _ _ _ _ _ 5 _ rfl w (HX.out w hw).2.2) ?_
        simp only [Act.put, List.setIfInBounds_toArray, List.set_cons_succ, List.set_cons_zero]
        refine w_value (.int .i64 ks.length) (by kernel_rfl) (fun w hw => x_lenP _ _ _ _ _ _ _ a1 ks.length c1 rfl w) ?_
        simp only [Act.put, List.setIfInBounds_toArray, List.set_cons_succ, List.set_cons_zero]
        refine w_value (PT b') (by kernel_rfl) (fun w hw => x_move _ _ _ _ _ _ _ _ rfl w) ?_
        simp only [Act.put, List.setIfInBounds_toArray, List.set_cons_succ, List.set_cons_zero]
        refine w_value (PT b') (by kernel_rfl) (fun w hw => x_nilCheck _ _ _ _ _ _ _ _ rfl w) ?_
        simp only [Act.put, List.setIfInBounds_toArray, List.set_cons_succ, List.set_cons_zero]
        refine w_value (.pointer (some ⟨b', 5, none⟩)) (by kernel_rfl) (fun w hw => x_field2 _ _ _ _ _ _ _ _ rfl w) ?_
        simp only [Act.put, List.setIfInBounds_toArray, List.set_cons_succ, List.set_cons_zero]
        refine w_value (.slice a2 ls.length c2) (by kernel_rfl) (fun w hw => x_loadKids _ _ _ _ _ _ _ _ 5 _ rfl w (HY.out w hw).2.2) ?_
        simp only [Act.put, List.setIfInBounds_toArray, List.set_cons_succ, List.set_cons_zero]
        refine w_value (.int .i64 ls.length) (by kernel_rfl) (fun w hw => x_lenP _ _ _ _ _ _ _ a2 ls.length c2 rfl w) ?_
        simp only [Act.put, List.setIfInBounds_toArray, List.set_cons_succ, List.set_cons_zero]
        refine w_value (.bool true) (by kernel_rfl) (fun w hw => (x_neqInt _ _ _ _ _ _ _ _ _ _ rfl rfl w).trans (by rw [hl])) ?_
        simp only [Act.put, List.setIfInBounds_toArray, List.set_cons_succ, List.set_cons_zero]
        refine w_value (.bool true) (by kernel_rfl) (fun w hw => x_pick _ _ _ _ _ _ _ _ _ false (.bool true) (.bool true) rfl rfl rfl w) ?_
        simp only [Act.put, List.setIfInBounds_toArray, List.set_cons_succ, List.set_cons_zero]
        refine w_nil ?_
        intro W hW
        unfold PT
        go_wp2
        go_ret
        refine ⟨?_, hW⟩
        rw [HKY.out]; rfl
  · have hk := key_bne HW1.out HW2.out (fun e => hop (by injection e))
    have hop : ((o : Int) != (o2 : Int)) = true := by simp; omega
    have HKY := hide hk
    clear hk
    go_enter Tryd.func17, Tryd.ntmps17
    unfold PT
    go_wp2
    refine w_lit (C := fun W => Below w.heap.size w W) (by kernel_rfl) (by kernel_rfl) ⟨rfl, rfl, rfl, Nat.le_refl _, fun _ _ => rfl⟩ ?_
    refine w_value (PT b) (by kernel_rfl) (fun w hw => x_move _ _ _ _ _ _ _ _ rfl w) ?_
    simp only [Act.put, List.setIfInBounds_toArray, List.set_cons_succ, List.set_cons_zero]
    refine w_value (PT b) (by kernel_rfl) (fun w hw => x_nilCheck _ _ _ _ _ _ _ _ rfl w) ?_
    simp only [Act.put, List.setIfInBounds_toArray, List.set_cons_succ, List.set_cons_zero]
    refine w_value (PT b) (by kernel_rfl) (fun w hw => x_field0 _ _ _ _ _ _ _ _ rfl w) ?_
    simp only [Act.put, List.setIfInBounds_toArray, List.set_cons_succ, List.set_cons_zero]
    refine w_value (.int .i64 o) (by kernel_rfl) (fun w hw => x_loadOp _ _ _ _ _ _ _ _ o rfl w (HX.out w hw).1) ?_
    simp only [Act.put, List.setIfInBounds_toArray, List.set_cons_succ, List.set_cons_zero]
    refine w_value (PT b') (by kernel_rfl) (fun w hw => x_move _ _ _ _ _ _ _ _ rfl w) ?_
    simp only [Act.put, List.setIfInBounds_toArray, List.set_cons_succ, List.set_cons_zero]
    refine w_value (PT b') (by kernel_rfl) (fun w hw => x_nilCheck _ _ _ _ _ _ _ _ rfl w) ?_
    simp only [Act.put, List.setIfInBounds_toArray, List.set_cons_succ, List.set_cons_zero]
    refine w_value (PT b') (by kernel_rfl) (fun w hw => x_field0 _ _ _ _ _ _ _ _ rfl w) ?_
    simp only [Act.put, List.setIfInBounds_toArray, List.set_cons_succ, List.set_cons_zero]
    refine w_value (.int .i64 o2) (by kernel_rfl) (fun w hw => x_loadOp _ _ _ _ _ _ _ _ o2 rfl w (HY.out w hw).1) ?_
    simp only [Act.put, List.setIfInBounds_toArray, List.set_cons_succ, List.set_cons_zero]
    refine w_value (.bool true) (by kernel_rfl) (fun w hw => (x_neqOp _ _ _ _ _ _ _ _ _ _ rfl rfl w).trans (by rw [hop])) ?_
    simp only [Act.put, List.setIfInBounds_toArray, List.set_cons_succ, List.set_cons_zero]
    refine w_value (.bool true) (by kernel_rfl) (fun w hw => x_move _ _ _ _ _ _ _ _ rfl w) ?_
    simp only [Act.put, List.setIfInBounds_toArray, List.set_cons_succ, List.set_cons_zero]
    refine w_skip (by kernel_rfl) ?_
    simp only [Act.put, List.setIfInBounds_toArray, List.set_cons_succ, List.set_cons_zero]
    refine w_skip (by kernel_rfl) ?_
    simp only [Act.put, List.setIfInBounds_toArray, List.set_cons_succ, List.set_cons_zero]
    refine w_skip (by kernel_rfl) ?_
    simp only [Act.put, List.setIfInBounds_toArray, List.set_cons_succ, List.set_cons_zero]
    refine w_skip (by kernel_rfl) ?_
    simp only [Act.put, List.setIfInBounds_toArray, List.set_cons_succ, List.set_cons_zero]
    refine w_skip (by kernel_rfl) ?_
    simp only [Act.put, List.setIfInBounds_toArray, List.set_cons_succ, List.set_cons_zero]
    refine w_skip (by kernel_rfl) ?_
    simp only [Act.put, List.setIfInBounds_toArray, List.set_cons_succ, List.set_cons_zero]
    refine w_skip (by kernel_rfl) ?_
    simp only [Act.put, List.setIfInBounds_toArray, List.set_cons_succ, List.set_cons_zero]
    refine w_skip (by kernel_rfl) ?_
    simp only [Act.put, List.setIfInBounds_toArray, List.set_cons_succ, List.set_cons_zero]
    refine w_skip (by kernel_rfl) ?_
    simp only [Act.put, List.setIfInBounds_toArray, List.set_cons_succ, List.set_cons_zero]
    refine w_skip (by kernel_rfl) ?_
    simp only [Act.put, List.setIfInBounds_toArray, List.set_cons_succ, List.set_cons_zero]
    refine w_skip (by kernel_rfl) ?_
    simp only [Act.put, List.setIfInBounds_toArray, List.set_cons_succ, List.set_cons_zero]
    refine w_skip (by kernel_rfl) ?_
    simp only [Act.put, List.setIfInBounds_toArray, List.set_cons_succ, List.set_cons_zero]
    refine w_skip (by kernel_rfl) ?_
    simp only [Act.put, List.setIfInBounds_toArray, List.set_cons_succ, List.set_cons_zero]
    refine w_skip (by kernel_rfl) ?_
    simp only [Act.put, List.setIfInBounds_toArray, List.set_cons_succ, List.set_cons_zero]
    refine w_skip (by kernel_rfl) ?_
    simp only [Act.put, List.setIfInBounds_toArray, List.set_cons_succ, List.set_cons_zero]
    refine w_skip (by kernel_rfl) ?_
    simp only [Act.put, List.setIfInBounds_toArray, List.set_cons_succ, List.set_cons_zero]
    refine w_value (.bool true) (by kernel_rfl) (fun w hw => x_pick _ _ _ _ _ _ _ _ _ true (.bool true) undef rfl rfl rfl w) ?_
    simp only [Act.put, List.setIfInBounds_toArray, List.set_cons_succ, List.set_cons_zero]
    refine w_value (.bool true) (by kernel_rfl) (fun w hw => x_move _ _ _ _ _ _ _ _ rfl w) ?_
    simp only [Act.put, List.setIfInBounds_toArray, List.set_cons_succ, List.set_cons_zero]
    refine w_skip (by kernel_rfl) ?_
    simp only [Act.put, List.setIfInBounds_toArray, List.set_cons_succ, List.set_cons_zero]
    refine w_skip (by kernel_rfl) ?_
    simp only [Act.put, List.setIfInBounds_toArray, List.set_cons_succ, List.set_cons_zero]
    refine w_skip (by kernel_rfl) ?_
    simp only [Act.put, List.setIfInBounds_toArray, List.set_cons_succ, List.set_cons_zero]
    refine w_skip (by kernel_rfl) ?_
    simp only [Act.put, List.setIfInBounds_toArray, List.set_cons_succ, List.set_cons_zero]
    refine w_skip (by kernel_rfl) ?_
    simp only [Act.put, List.setIfInBounds_toArray, List.set_cons_succ, List.set_cons_zero]
    refine w_skip (by kernel_rfl) ?_
    simp only [Act.put, List.setIfInBounds_toArray, List.set_cons_succ, List.set_cons_zero]
    refine w_skip (by kernel_rfl) ?_
    simp only [Act.put, List.setIfInBounds_toArray, List.set_cons_succ, List.set_cons_zero]
    refine w_skip (by kernel_rfl) ?_
    simp only [Act.put, List.setIfInBounds_toArray, List.set_cons_succ, List.set_cons_zero]
    refine w_skip (by kernel_rfl) ?_
    simp only [Act.put, List.setIfInBounds_toArray, List.set_cons_succ, List.set_cons_zero]
    refine w_skip (by kernel_rfl) ?_
    simp only [Act.put, List.setIfInBounds_toArray, List.set_cons_succ, List.set_cons_zero]
    refine w_skip (by kernel_rfl) ?_
    simp only [Act.put, List.setIfInBounds_toArray, List.set_cons_succ, List.set_cons_zero]
    refine w_value (.bool true) (by kernel_rfl) (fun w hw => x_pick _ _ _ _ _ _ _ _ _ true (.bool true) undef rfl rfl rfl w) ?_
    simp only [Act.put, List.setIfInBounds_toArray, List.set_cons_succ, List.set_cons_zero]
    refine w_nil ?_
    intro W hW
    unfold PT
    go_wp2
    go_ret
    refine ⟨?_, hW⟩
    rw [HKY.out]; rfl
end Go.Proofs.YtkjmjppmpcnejaaDoor
/- Has and Cats: a text is one of an expression's, by its parts. -/
namespace Go.Proofs.YtkjmjppmpcnejaaDoor
set_option maxRecDepth 100000
set_option linter.unusedSimpArgs false
set_option linter.unusedVariables false
open Go.RowKit

theorem bytesN_length (t : ByteArray) : (bytesN t).length = t.size := by unfold bytesN; rw [List.length_map]; rfl
theorem bytesN_take (t : ByteArray) (i : Nat) : bytesN (t.extract 0 i) = (bytesN t).take i := by
  unfold bytesN
  rw [ByteArray.data_extract, Array.toList_extract, List.map_take]
  simp
theorem bytesN_drop (t : ByteArray) (i : Nat) : bytesN (t.extract i t.size) = (bytesN t).drop i := by
  unfold bytesN
  rw [ByteArray.data_extract, Array.toList_extract, ← List.map_drop]
  congr 1
  show (t.data.toList.drop i).take (t.size - i) = _
  exact List.take_of_length_le (by rw [List.length_drop, Array.length_toList]; exact Nat.le_refl _)
theorem size_take (t : ByteArray) (i : Nat) (h : i ≤ t.size) : (t.extract 0 i).size = i := by
  rw [← bytesN_length, bytesN_take, List.length_take, bytesN_length]; omega
theorem size_drop (t : ByteArray) (i : Nat) : (t.extract i t.size).size = t.size - i := by
  rw [← bytesN_length, bytesN_drop, List.length_drop, bytesN_length]
theorem nil_iff (t : ByteArray) : (t.toList == []) = decide (t.size = 0) := by
  rw [ByteArray.toList_eq]
  rw [← ByteArray.size_data]
  cases h : t.data.toList with
  | nil => simp [← Array.length_toList, h]
  | cons a l => simp [← Array.length_toList, h]
theorem x_strTo (ρ : Operand → Value) (d : Option Tmp) (x y : Operand) (ty : TypeId) (pos : String) (af : Array Edge) (g : Option (Nat × Bool)) (t : ByteArray) (i : Nat) (hx : ρ x = .string t) (hy : ρ y = .int .i64 i) (h1 : i ≤ t.size) (w : World) :
    (execOp ρ { dst := d, op := .slice 9 x none (some y) none, type := ty, pos := pos, after := af, guard := g }).run Tryd.prog w = .ok (.value (.string (t.extract 0 i))) w := by
  simp [go_sem, hx, hy, h1]
theorem x_strFrom (ρ : Operand → Value) (d : Option Tmp) (x y : Operand) (ty : TypeId) (pos : String) (af : Array Edge) (g : Option (Nat × Bool)) (t : ByteArray) (i : Nat) (hx : ρ x = .string t) (hy : ρ y = .int .i64 i) (h1 : i ≤ t.size) (w : World) :
    (execOp ρ { dst := d, op := .slice 9 x (some y) none none, type := ty, pos := pos, after := af, guard := g }).run Tryd.prog w = .ok (.value (.string (t.extract i t.size))) w := by
  simp [go_sem, hx, hy, h1]
theorem x_sliceOne (ρ : Operand → Value) (d : Option Tmp) (x : Operand) (ty : TypeId) (pos : String) (af : Array Edge) (g : Option (Nat × Bool)) (b off len cap off2 : Nat) (ho : off2 = if cap = 1 then off else off + 1) (hx : ρ x = .slice (some ⟨b, off, none⟩) (len + 1) cap) (hy : ρ (.const (.int .i64 1)) = .int .i64 1) (w : World) :
    (execOp ρ { dst := d, op := .slice 39 x (some (.const (.int .i64 1))) none none, type := ty, pos := pos, after := af, guard := g }).run Tryd.prog w =   .ok (.value (.slice (some ⟨b, off2, none⟩) len (cap - 1))) w := by
  rw [ho]
  have h1 : (1 : Int) ≤ (len : Int) + 1 := by omega
  simp [go_sem, hx, hy, h1]
  split <;> rfl

/-- Whether a text is one of them. -/
noncomputable def hB (l : Lg) (t : ByteArray) : Bool := @decide (l (bytesN t)) (Classical.propDecidable _)
theorem hB_iff (l : Lg) (t : ByteArray) : hB l t = true ↔ l (bytesN t) := by unfold hB; exact @decide_eq_true_iff _ (Classical.propDecidable _)
theorem hB_true {l : Lg} {t : ByteArray} (h : l (bytesN t)) : hB l t = true := (hB_iff l t).2 h
theorem hB_false {l : Lg} {t : ByteArray} (h : ¬ l (bytesN t)) : hB l t = false := Bool.eq_false_iff.2 fun h' => h ((hB_iff l t).1 h')

theorem emp_iff (t : ByteArray) : t = ByteArray.empty ↔ bytesN t = [] := by
  constructor
  · rintro rfl; rfl
  · intro h
    have h1 : t.data.toList = [] := by unfold bytesN at h; simpa using h
    cases t with
    | mk d => 
      have : d = #[] := by simpa using h1
      subst this; rfl
theorem hB_nil (t : ByteArray) : hB (fun s => s = []) t = t.toList.isEmpty := by
  have e : t.toList = t.data.toList := ByteArray.toList_eq t
  by_cases h : bytesN t = []
  · rw [hB_true h, e]
    have h1 : t.data.toList = [] := by unfold bytesN at h; simpa using h
    rw [h1]; rfl
  · rw [hB_false h, e]
    cases h1 : t.data.toList with
    | nil => exact absurd (show bytesN t = [] by unfold bytesN; rw [h1]; rfl) h
    | cons a l => rfl

/-- The row without its first. -/
theorem ResRow.tail {w : World} {g f c : Nat} {r : RE} {l : List RE} (h : ResRow w (.slice (some ⟨g, f, none⟩) (l.length + 1) c) (r :: l)) : ResRow w (.slice (some ⟨g, if c = 1 then f else f + 1, none⟩) l.length (c - 1)) l := by
  have hc : l.length + 1 ≤ c := h.cap _ _ _ rfl
  obtain ⟨bs, ⟨h0, a, cap, e, h1⟩, h2⟩ := h
  injection e with e1 e2 e3
  subst e1 e3
  refine ⟨fun i => bs (i + 1), ⟨⟨by have := h0.1; simp at this; omega, .mk (by omega)⟩, _, _, rfl, fun k hk => ?_⟩, fun i k hk => h2 (i + 1) k (by simpa using hk)⟩
  obtain ⟨b, off, e, h3, h4⟩ := h1 (k + 1) (by simp; omega)
  injection e with e; injection e with e5 e6
  subst e5 e6
  rw [if_neg (by omega)]
  exact ⟨g, f + 1, rfl, h3, by rw [← h4]; congr 2; omega⟩

abbrev HasAt (r : RE) (t : ByteArray) : Prop := ∀ (b : Nat) (w : World), ReAt w b r → Calls Tryd.prog 10 #[PT b, .string t] w fun e w' => e = .returned (.bool (hB r.lang t)) ∧ Below w.heap.size w w'

set_option maxHeartbeats 1000000 in
theorem cats_any (l : List RE) : ∀ (v : Value) (t : ByteArray) (w : World), t.size ≤ 1000 → ResRow w v l → (∀ r ∈ l, ∀ t', t'.size ≤ t.size → HasAt r t') →
    Calls Tryd.prog 35 #[v, .string t] w fun e w' => e = .returned (.bool (hB (catG (l.map RE.lang)) t)) ∧ Below w.heap.size w w' := by
  induction l with
  | nil =>
    intro v t w ht hrow _
    obtain ⟨-, a, cap, rfl, -⟩ := hrow.at
    clear hrow
    have HR : Hid (hB (catG (([] : List RE).map RE.lang)) t = t.toList.isEmpty) := hB_nil t
    rw [HR.out]
    go_enter Tryd.func35, Tryd.ntmps35
    go_wp2
    go_ret
    exact ⟨rfl, Below.refl _ _⟩
  | cons r l ih =>
    intro v t w ht hrow hH
    obtain ⟨hn, a, c, rfl, q⟩ := hrow.at
    obtain ⟨g, f, p, rfl, -, hc0, hr0⟩ := q 0 (by simp)
    rw [List.length_cons] at hrow hn ⊢
    have hq1 : ∀ W, Below w.heap.size w W → W.cell? ⟨g, f + 0, none⟩ = some (PT p) := fun W hW => (World.cell?_of_block (w := w) (hW.block _ (World.block_lt_of_cell? _ _ hc0))).trans hc0
    have hr1 : ∀ W, Below w.heap.size w W → ReAt W p r := fun W hW => by have := hr0.keep hW; simpa using this
    have HH := hide hH
    have HROW := hide hrow
    have HIH := hide ih
    clear q hc0 hr0 hH hrow ih
    have hln : ((l.length : Int) + 1 == 0) = false := beq_eq_false_iff_ne.2 (by omega)
    obtain ⟨f2, hf2⟩ : ∃ f2, f2 = if c = 1 then f else f + 1 := ⟨_, rfl⟩
    have HF2 := hide hf2
    clear hf2
    have HG : Hid (Grows fun W => Below w.heap.size w W) := fun W W' h1 h2 => h1.trans (h2.mono h1.size)
    obtain ⟨M, hM⟩ : ∃ M : Lg, M = catG (l.map RE.lang) := ⟨_, rfl⟩
    have HM := hide hM
    rw [List.map_cons]
    have hcat : ∀ s, catG (r.lang :: l.map RE.lang) s ↔ ∃ j, j ≤ s.length ∧ r.lang (s.take j) ∧ M (s.drop j) := by
      intro s
      rw [hM]
      constructor
      · rintro ⟨u, v, rfl, h1, h2⟩
        exact ⟨u.length, by simp, by rw [List.take_left]; exact h1, by rw [List.drop_left]; exact h2⟩
      · rintro ⟨j, -, h1, h2⟩
        exact ⟨s.take j, s.drop j, (List.take_append_drop j s).symm, h1, h2⟩
    have HC := hide hcat
    clear hcat hM
    go_enter Tryd.func35, Tryd.ntmps35
    go_wp2
    go_loopw [5] (fun i wr => ∃ k : Nat, k ≤ t.size + 1 ∧ i = .int .i64 k ∧ Hid (∀ j, j < k → ¬ (r.lang ((bytesN t).take j) ∧ M ((bytesN t).drop j))) ∧ Hid (Below w.heap.size w wr)) (fun i _ => t.size + 1 - (intOf i).toNat)
    case atStart => exact ⟨0, by omega, rfl, fun j hj => by omega, Below.refl _ _⟩
    case round =>
      obtain ⟨k, hk1, rfl, HN, HW⟩ := hrel
      by_cases hk : k ≤ t.size
      · have hkd : decide ((k : Int) ≤ t.size) = true := by simp; omega
        have hkd2 : decide (k ≤ t.size) = true := by simp [hk]
        have hG := HG.out
        obtain ⟨b1, hb1⟩ : ∃ b1, b1 = hB r.lang (t.extract 0 k) := ⟨_, rfl⟩
        have hq2 : ∀ W, Below w.heap.size w W → Calls Tryd.prog 10 #[PT p, .string (t.extract 0 k)] W fun e w' => e = .returned (.bool b1) ∧ Below W.heap.size W w' := fun W hW => by
          rw [hb1]; exact HH.out r (by simp) _ (by rw [size_take _ _ hk]; exact hk) p W (hr1 W hW)
        go_wp2
        cases b1
        · have HF : Hid (¬ r.lang ((bytesN t).take k)) := fun h => by rw [← bytesN_take] at h; rw [hB_true h] at hb1; cases hb1
          clear hb1
          refine w_lit (C := fun W => Below w.heap.size w W) (by kernel_rfl) (by kernel_rfl) (HW.out.trans ⟨rfl, rfl, rfl, Nat.le_refl _, fun _ _ => rfl⟩) ?_
          refine w_value (.slice (some ⟨g, f, none⟩) (l.length + 1) c) (by kernel_rfl) (fun w hw => x_move _ _ _ _ _ _ _ _ rfl w) ?_
          simp only [Act.put, List.setIfInBounds_toArray, List.set_cons_succ, List.set_cons_zero]
          refine w_value (.pointer (some ⟨g, f + 0, none⟩)) (by kernel_rfl) (fun w hw => x_idxP _ _ _ _ _ _ _ _ g f (l.length + 1) c 0 rfl rfl (by omega) w) ?_
          simp only [Act.put, List.setIfInBounds_toArray, List.set_cons_succ, List.set_cons_zero]
          refine w_value (PT p) (by kernel_rfl) (fun w hw => x_loadP _ _ _ _ _ _ _ _ _ _ rfl w (hq1 w hw)) ?_
          simp only [Act.put, List.setIfInBounds_toArray, List.set_cons_succ, List.set_cons_zero]
          refine w_value (.string t) (by kernel_rfl) (fun w hw => x_move _ _ _ _ _ _ _ _ rfl w) ?_
          simp only [Act.put, List.setIfInBounds_toArray, List.set_cons_succ, List.set_cons_zero]
          refine w_value (.int .i64 k) (by kernel_rfl) (fun w hw => x_move _ _ _ _ _ _ _ _ rfl w) ?_
          simp only [Act.put, List.setIfInBounds_toArray, List.set_cons_succ, List.set_cons_zero]
          refine w_value (.string (t.extract 0 k)) (by kernel_rfl) (fun w hw => x_strTo _ _ _ _ _ _ _ _ t k rfl rfl hk w) ?_
          simp only [Act.put, List.setIfInBounds_toArray, List.set_cons_succ, List.set_cons_zero]
          refine w_call hG 10 #[PT p, .string (t.extract 0 k)] (.bool false) (by kernel_rfl) (fun w => x_call2 _ _ _ _ _ _ _ _ _ _ _ _ _ rfl rfl rfl (enters_of Tryd.func10 (by kernel_rfl) rfl) w) (fun w hw => hq2 w hw) ?_
          simp only [Act.put, List.setIfInBounds_toArray, List.set_cons_succ, List.set_cons_zero]
          refine w_value (.bool false) (by kernel_rfl) (fun w hw => x_move _ _ _ _ _ _ _ _ rfl w) ?_
          simp only [Act.put, List.setIfInBounds_toArray, List.set_cons_succ, List.set_cons_zero]
          refine w_skip (by kernel_rfl) ?_
          simp only [Act.put, List.setIfInBounds_toArray, List.set_cons_succ, List.set_cons_zero]
          refine w_skip (by kernel_rfl) ?_
          simp only [Act.put, List.setIfInBounds_toArray, List.set_cons_succ, List.set_cons_zero]
          refine w_skip (by kernel_rfl) ?_
          simp only [Act.put, List.setIfInBounds_toArray, List.set_cons_succ, List.set_cons_zero]
          refine w_skip (by kernel_rfl) ?_
          simp only [Act.put, List.setIfInBounds_toArray, List.set_cons_succ, List.set_cons_zero]
          refine w_skip (by kernel_rfl) ?_
          simp only [Act.put, List.setIfInBounds_toArray, List.set_cons_succ, List.set_cons_zero]
          refine w_skip (by kernel_rfl) ?_
          simp only [Act.put, List.setIfInBounds_toArray, List.set_cons_succ, List.set_cons_zero]
          refine w_value (.bool false) (by kernel_rfl) (fun w hw => x_pick _ _ _ _ _ _ _ _ _ false undef (.bool false) rfl rfl rfl w) ?_
          simp only [Act.put, List.setIfInBounds_toArray, List.set_cons_succ, List.set_cons_zero]
          refine w_nil ?_
          intro W hW
          have HWW := hide hW
          clear hW hG hq2
          unfold PT
          go_wp2
          refine ⟨⟨k + 1, by omega, by go_num, ?_, HWW⟩, by simp [intOf]; omega⟩
          intro j hj h
          by_cases hjk : j = k
          · subst hjk; exact HF.out h.1
          · exact HN.out j (by omega) h
        · have HTR : Hid (r.lang ((bytesN t).take k)) := by
            show r.lang _
            rw [← bytesN_take]; exact (hB_iff _ _).1 hb1.symm
          obtain ⟨b2, hb2⟩ : ∃ b2, b2 = hB M (t.extract k t.size) := ⟨_, rfl⟩
          have hq3 : ∀ W, Below w.heap.size w W → Calls Tryd.prog 35 #[.slice (some ⟨g, f2, none⟩) l.length (c - 1), .string (t.extract k t.size)] W fun e w' => e = .returned (.bool b2) ∧ Below W.heap.size W w' := fun W hW => by
            have hz := size_drop t k
            rw [hb2, HM.out]
            rw [HF2.out]
            exact HIH.out _ _ W (by omega) (HROW.out.tail.below hW) fun x hx t' ht' => HH.out x (by simp [hx]) t' (by omega)
          cases b2
          · have HF : Hid (¬ M ((bytesN t).drop k)) := fun h => by rw [← bytesN_drop] at h; rw [hB_true h] at hb2; cases hb2
            clear hb1 hb2
            refine w_lit (C := fun W => Below w.heap.size w W) (by kernel_rfl) (by kernel_rfl) (HW.out.trans ⟨rfl, rfl, rfl, Nat.le_refl _, fun _ _ => rfl⟩) ?_
            refine w_value (.slice (some ⟨g, f, none⟩) (l.length + 1) c) (by kernel_rfl) (fun w hw => x_move _ _ _ _ _ _ _ _ rfl w) ?_
            simp only [Act.put, List.setIfInBounds_toArray, List.set_cons_succ, List.set_cons_zero]
            refine w_value (.pointer (some ⟨g, f + 0, none⟩)) (by kernel_rfl) (fun w hw => x_idxP _ _ _ _ _ _ _ _ g f (l.length + 1) c 0 rfl rfl (by omega) w) ?_
            simp only [Act.put, List.setIfInBounds_toArray, List.set_cons_succ, List.set_cons_zero]
            refine w_value (PT p) (by kernel_rfl) (fun w hw => x_loadP _ _ _ _ _ _ _ _ _ _ rfl w (hq1 w hw)) ?_
            simp only [Act.put, List.setIfInBounds_toArray, List.set_cons_succ, List.set_cons_zero]
            refine w_value (.string t) (by kernel_rfl) (fun w hw => x_move _ _ _ _ _ _ _ _ rfl w) ?_
            simp only [Act.put, List.setIfInBounds_toArray, List.set_cons_succ, List.set_cons_zero]
            refine w_value (.int .i64 k) (by kernel_rfl) (fun w hw => x_move _ _ _ _ _ _ _ _ rfl w) ?_
            simp only [Act.put, List.setIfInBounds_toArray, List.set_cons_succ, List.set_cons_zero]
            refine w_value (.string (t.extract 0 k)) (by kernel_rfl) (fun w hw => x_strTo _ _ _ _ _ _ _ _ t k rfl rfl hk w) ?_
            simp only [Act.put, List.setIfInBounds_toArray, List.set_cons_succ, List.set_cons_zero]
            refine w_call hG 10 #[PT p, .string (t.extract 0 k)] (.bool true) (by kernel_rfl) (fun w => x_call2 _ _ _ _ _ _ _ _ _ _ _ _ _ rfl rfl rfl (enters_of Tryd.func10 (by kernel_rfl) rfl) w) (fun w hw => hq2 w hw) ?_
            simp only [Act.put, List.setIfInBounds_toArray, List.set_cons_succ, List.set_cons_zero]
            refine w_value (.bool true) (by kernel_rfl) (fun w hw => x_move _ _ _ _ _ _ _ _ rfl w) ?_
            simp only [Act.put, List.setIfInBounds_toArray, List.set_cons_succ, List.set_cons_zero]
            refine w_value (.slice (some ⟨g, f, none⟩) (l.length + 1) c) (by kernel_rfl) (fun w hw => x_move _ _ _ _ _ _ _ _ rfl w) ?_
            simp only [Act.put, List.setIfInBounds_toArray, List.set_cons_succ, List.set_cons_zero]
            refine w_value (.slice (some ⟨g, f2, none⟩) l.length (c - 1)) (by kernel_rfl) (fun w hw => x_sliceOne _ _ _ _ _ _ _ g f l.length c f2 HF2.out rfl rfl w) ?_
            simp only [Act.put, List.setIfInBounds_toArray, List.set_cons_succ, List.set_cons_zero]
            refine w_value (.string t) (by kernel_rfl) (fun w hw => x_move _ _ _ _ _ _ _ _ rfl w) ?_
            simp only [Act.put, List.setIfInBounds_toArray, List.set_cons_succ, List.set_cons_zero]
            refine w_value (.int .i64 k) (by kernel_rfl) (fun w hw => x_move _ _ _ _ _ _ _ _ rfl w) ?_
            simp only [Act.put, List.setIfInBounds_toArray, List.set_cons_succ, List.set_cons_zero]
            refine w_value (.string (t.extract k t.size)) (by kernel_rfl) (fun w hw => x_strFrom _ _ _ _ _ _ _ _ t k rfl rfl hk w) ?_
            simp only [Act.put, List.setIfInBounds_toArray, List.set_cons_succ, List.set_cons_zero]
            refine w_call hG 35 #[.slice (some ⟨g, f2, none⟩) l.length (c - 1), .string (t.extract k t.size)] (.bool false) (by kernel_rfl) (fun w => x_call2 _ _ _ _ _ _ _ _ _ _ _ _ _ rfl rfl rfl (enters_of Tryd.func35 (by kernel_rfl) rfl) w) (fun w hw => hq3 w hw) ?_
            simp only [Act.put, List.setIfInBounds_toArray, List.set_cons_succ, List.set_cons_zero]
            refine w_value (.bool false) (by kernel_rfl) (fun w hw => x_pick _ _ _ _ _ _ _ _ _ true (.bool false) (.bool false) rfl rfl rfl w) ?_
            simp only [Act.put, List.setIfInBounds_toArray, List.set_cons_succ, List.set_cons_zero]
            refine w_nil ?_
            intro W hW
            have HWW := hide hW
            clear hW hG hq2 hq3
            unfold PT
            go_wp2
            refine ⟨⟨k + 1, by omega, by go_num, ?_, HWW⟩, by simp [intOf]; omega⟩
            intro j hj h
            by_cases hjk : j = k
            · subst hjk; exact HF.out h.2
            · exact HN.out j (by omega) h
          · have HF : Hid (M ((bytesN t).drop k)) := by
              show M _
              rw [← bytesN_drop]; exact (hB_iff _ _).1 hb2.symm
            clear hb1 hb2
            refine w_lit (C := fun W => Below w.heap.size w W) (by kernel_rfl) (by kernel_rfl) (HW.out.trans ⟨rfl, rfl, rfl, Nat.le_refl _, fun _ _ => rfl⟩) ?_
            refine w_value (.slice (some ⟨g, f, none⟩) (l.length + 1) c) (by kernel_rfl) (fun w hw => x_move _ _ _ _ _ _ _ _ rfl w) ?_
            simp only [Act.put, List.setIfInBounds_toArray, List.set_cons_succ, List.set_cons_zero]
            refine w_value (.pointer (some ⟨g, f + 0, none⟩)) (by kernel_rfl) (fun w hw => x_idxP _ _ _ _ _ _ _ _ g f (l.length + 1) c 0 rfl rfl (by omega) w) ?_
            simp only [Act.put, List.setIfInBounds_toArray, List.set_cons_succ, List.set_cons_zero]
            refine w_value (PT p) (by kernel_rfl) (fun w hw => x_loadP _ _ _ _ _ _ _ _ _ _ rfl w (hq1 w hw)) ?_
            simp only [Act.put, List.setIfInBounds_toArray, List.set_cons_succ, List.set_cons_zero]
            refine w_value (.string t) (by kernel_rfl) (fun w hw => x_move _ _ _ _ _ _ _ _ rfl w) ?_
            simp only [Act.put, List.setIfInBounds_toArray, List.set_cons_succ, List.set_cons_zero]
            refine w_value (.int .i64 k) (by kernel_rfl) (fun w hw => x_move _ _ _ _ _ _ _ _ rfl w) ?_
            simp only [Act.put, List.setIfInBounds_toArray, List.set_cons_succ, List.set_cons_zero]
            refine w_value (.string (t.extract 0 k)) (by kernel_rfl) (fun w hw => x_strTo _ _ _ _ _ _ _ _ t k rfl rfl hk w) ?_
            simp only [Act.put, List.setIfInBounds_toArray, List.set_cons_succ, List.set_cons_zero]
            refine w_call hG 10 #[PT p, .string (t.extract 0 k)] (.bool true) (by kernel_rfl) (fun w => x_call2 _ _ _ _ _ _ _ _ _ _ _ _ _ rfl rfl rfl (enters_of Tryd.func10 (by kernel_rfl) rfl) w) (fun w hw => hq2 w hw) ?_
            simp only [Act.put, List.setIfInBounds_toArray, List.set_cons_succ, List.set_cons_zero]
            refine w_value (.bool true) (by kernel_rfl) (fun w hw => x_move _ _ _ _ _ _ _ _ rfl w) ?_
            simp only [Act.put, List.setIfInBounds_toArray, List.set_cons_succ, List.set_cons_zero]
            refine w_value (.slice (some ⟨g, f, none⟩) (l.length + 1) c) (by kernel_rfl) (fun w hw => x_move _ _ _ _ _ _ _ _ rfl w) ?_
            simp only [Act.put, List.setIfInBounds_toArray, List.set_cons_succ, List.set_cons_zero]
            refine w_value (.slice (some ⟨g, f2, none⟩) l.length (c - 1)) (by kernel_rfl) (fun w hw => x_sliceOne _ _ _ _ _ _ _ g f l.length c f2 HF2.out rfl rfl w) ?_
            simp only [Act.put, List.setIfInBounds_toArray, List.set_cons_succ, List.set_cons_zero]
            refine w_value (.string t) (by kernel_rfl) (fun w hw => x_move _ _ _ _ _ _ _ _ rfl w) ?_
            simp only [Act.put, List.setIfInBounds_toArray, List.set_cons_succ, List.set_cons_zero]
            refine w_value (.int .i64 k) (by kernel_rfl) (fun w hw => x_move _ _ _ _ _ _ _ _ rfl w) ?_
            simp only [Act.put, List.setIfInBounds_toArray, List.set_cons_succ, List.set_cons_zero]
            refine w_value (.string (t.extract k t.size)) (by kernel_rfl) (fun w hw => x_strFrom _ _ _ _ _ _ _ _ t k rfl rfl hk w) ?_
            simp only [Act.put, List.setIfInBounds_toArray, List.set_cons_succ, List.set_cons_zero]
            refine w_call hG 35 #[.slice (some ⟨g, f2, none⟩) l.length (c - 1), .string (t.extract k t.size)] (.bool true) (by kernel_rfl) (fun w => x_call2 _ _ _ _ _ _ _ _ _ _ _ _ _ rfl rfl rfl (enters_of Tryd.func35 (by kernel_rfl) rfl) w) (fun w hw => hq3 w hw) ?_
            simp only [Act.put, List.setIfInBounds_toArray, List.set_cons_succ, List.set_cons_zero]
            refine w_value (.bool true) (by kernel_rfl) (fun w hw => x_pick _ _ _ _ _ _ _ _ _ true (.bool true) (.bool false) rfl rfl rfl w) ?_
            simp only [Act.put, List.setIfInBounds_toArray, List.set_cons_succ, List.set_cons_zero]
            refine w_nil ?_
            intro W hW
            have HWW := hide hW
            clear hW hG hq2 hq3
            have HKY := hide (hB_true (t := t) ((HC.out (bytesN t)).2 ⟨k, by rw [bytesN_length]; exact hk, HTR.out, HF.out⟩))
            unfold PT
            go_wp2
            go_ret
            refine ⟨?_, HWW.out⟩
            rw [HKY.out]; rfl
      · have hkd : decide ((k : Int) ≤ t.size) = false := by simp; omega
        have hkd2 : decide (k ≤ t.size) = false := by simp; omega
        have HKY : Hid (hB (catG (r.lang :: l.map RE.lang)) t = false) := hB_false fun h => by
          obtain ⟨j, hj, h1, h2⟩ := (HC.out (bytesN t)).1 h
          rw [bytesN_length] at hj
          exact HN.out j (by omega) ⟨h1, h2⟩
        go_wp2
        go_ret
        refine ⟨?_, HW.out⟩
        rw [HKY.out]; rfl
end Go.Proofs.YtkjmjppmpcnejaaDoor
/- Has: a text is one of an expression's, by its parts. -/
namespace Go.Proofs.YtkjmjppmpcnejaaDoor
set_option maxRecDepth 100000
set_option linter.unusedSimpArgs false
set_option linter.unusedVariables false
open Go.RowKit

theorem x_lenS (ρ : Operand → Value) (d : Option Tmp) (x : Operand) (ty : TypeId) (pos : String) (af : Array Edge) (g : Option (Nat × Bool)) (t : ByteArray) (hx : ρ x = .string t) (w : World) :
    (execOp ρ { dst := d, op := .call { callee := .builtin .len, args := #[x], argTypes := #[9] }, type := ty, pos := pos, after := af, guard := g }).run Tryd.prog w = .ok (.value (.int .i64 t.size)) w := by
  simp [go_sem, hx]
theorem x_lenS1 (ρ : Operand → Value) (d : Option Tmp) (x : Operand) (ty : TypeId) (pos : String) (af : Array Edge) (g : Option (Nat × Bool)) (u : UInt8) (hx : ρ x = .string ⟨#[u]⟩) (w : World) :
    (execOp ρ { dst := d, op := .call { callee := .builtin .len, args := #[x], argTypes := #[9] }, type := ty, pos := pos, after := af, guard := g }).run Tryd.prog w = .ok (.value (.int .i64 1)) w :=
  x_lenS ρ d x ty pos af g ⟨#[u]⟩ hx w
theorem x_strIdx0 (ρ : Operand → Value) (d : Option Tmp) (x : Operand) (ty : TypeId) (pos : String) (af : Array Edge) (g : Option (Nat × Bool)) (u : UInt8) (hx : ρ x = .string ⟨#[u]⟩) (hy : ρ (.const (.int .i64 0)) = .int .i64 0) (w : World) :
    (execOp ρ { dst := d, op := .index 9 x (.const (.int .i64 0)), type := ty, pos := pos, after := af, guard := g }).run Tryd.prog w = .ok (.value (.int .u8 u.toNat)) w := by
  simp [go_sem, hx, hy]
  rfl

theorem hB_eq {l m : Lg} {t : ByteArray} (h : l (bytesN t) ↔ m (bytesN t)) : hB l t = hB m t := by
  by_cases h1 : m (bytesN t)
  · rw [hB_true h1, hB_true (h.2 h1)]
  · rw [hB_false h1, hB_false fun h2 => h1 (h.1 h2)]
/-- What is read of an expression in any later world. -/
theorem ReAt.see {w : World} {b o : Nat} {s : BitVec 256} {ks : List RE} (h : ReAt w b (.mk o s ks)) : ∃ a c, ResRow w (.slice a ks.length c) ks ∧ Hid (∀ W, Below w.heap.size w W → W.cell? ⟨b, 0, none⟩ = some (.int .i64 o) ∧ (∀ j, j < 4 → W.cell? ⟨b, 1 + j, none⟩ = some (.int .u64 (wd s j))) ∧ W.cell? ⟨b, 5, none⟩ = some (.slice a ks.length c)) := by
  obtain ⟨v, k1, row⟩ := h.row
  simp only [RE.op, RE.set, RE.kids] at k1 row
  obtain ⟨n1, a, c, rfl, -⟩ := row.at
  exact ⟨a, c, row, fun W hW => ⟨(h.keep hW).cell0, (h.keep hW).cellS, by rw [(k1.below hW k1.lt).cell]; rfl⟩⟩

theorem has0 (s : BitVec 256) (ks : List RE) (t : ByteArray) : HasAt (.mk 0 s ks) t := by
  intro b w h
  obtain ⟨a, c, row, HX⟩ := h.see
  have x0 := (HX.out w (Below.refl _ _)).1
  clear row h HX
  rw [hB_false (lang0 rfl _)]
  go_enter Tryd.func10, Tryd.ntmps10
  unfold PT
  go_wp2
  go_ret
  exact ⟨rfl, Below.refl _ _⟩
theorem has1 (s : BitVec 256) (ks : List RE) (t : ByteArray) : HasAt (.mk 1 s ks) t := by
  intro b w h
  obtain ⟨a, c, row, HX⟩ := h.see
  have x0 := (HX.out w (Below.refl _ _)).1
  clear row h HX
  have HR : Hid (hB (RE.mk 1 s ks).lang t = t.toList.isEmpty) := by
    rw [← hB_nil]
    exact hB_eq (lang1 (r := .mk 1 s ks) rfl _)
  rw [HR.out]
  go_enter Tryd.func10, Tryd.ntmps10
  unfold PT
  go_wp2
  go_ret
  exact ⟨rfl, Below.refl _ _⟩
set_option maxHeartbeats 1000000 in
theorem has2 (s : BitVec 256) (ks : List RE) (t : ByteArray) : HasAt (.mk 2 s ks) t := by
  intro b w h
  obtain ⟨a, c, row, HX⟩ := h.see
  have x0 := (HX.out w (Below.refl _ _)).1
  clear row h
  have hG : Grows fun W => Below w.heap.size w W := fun W W' h1 h2 => h1.trans (h2.mono h1.size)
  have HG := hide hG
  clear hG
  by_cases h1 : t.size = 1
  · obtain ⟨x, rfl⟩ : ∃ x, t = ⟨#[x]⟩ := by
      cases t with
      | mk d =>
        have : d.size = 1 := h1
        obtain ⟨x, hx⟩ := Array.size_eq_one_iff.1 this
        exact ⟨x, by rw [hx]⟩
    clear h1
    have hxl := x.toNat_lt
    obtain ⟨q, hq⟩ : ∃ q, q = s.getLsbD x.toNat := ⟨_, rfl⟩
    have HQ : Hid (∀ W, Below w.heap.size w W → Calls Tryd.prog 34 #[SV s, .int .u8 x.toNat] W fun e w' => e = .returned (.bool q) ∧ Below W.heap.size W w') := fun W hW => by
      rw [hq]; exact has_any s x.toNat (by omega) (by omega) W
    have HR : Hid (hB (RE.mk 2 s ks).lang ⟨#[x]⟩ = q) := by
      show hB _ _ = _
      rw [hq]
      cases hb : s.getLsbD x.toNat with
      | true => exact hB_true ((lang2 rfl _).2 ⟨x.toNat, rfl, hb⟩)
      | false =>
        refine hB_false fun h' => ?_
        obtain ⟨y, e, hy⟩ := (lang2 rfl _).1 h'
        have e : [x.toNat] = [y] := e
        have : x.toNat = y := by simpa using e
        subst this
        have hy : s.getLsbD x.toNat = true := hy
        rw [hb] at hy; cases hy
    rw [HR.out]
    clear hq HR
    go_enter Tryd.func10, Tryd.ntmps10
    unfold PT
    go_wp2
    have hG := HG.out
    refine w_lit (C := fun W => Below w.heap.size w W) (by kernel_rfl) (by kernel_rfl) ⟨rfl, rfl, rfl, Nat.le_refl _, fun _ _ => rfl⟩ ?_
    refine w_value (.string ⟨#[x]⟩) (by kernel_rfl) (fun w hw => x_move _ _ _ _ _ _ _ _ rfl w) ?_
    simp only [Act.put, List.setIfInBounds_toArray, List.set_cons_succ, List.set_cons_zero]
    refine w_value (.int .i64 1) (by kernel_rfl) (fun w hw => x_lenS1 _ _ _ _ _ _ _ x rfl w) ?_
    simp only [Act.put, List.setIfInBounds_toArray, List.set_cons_succ, List.set_cons_zero]
    refine w_value (.bool true) (by kernel_rfl) (fun w hw => x_eqIntB _ _ _ _ _ _ _ _ 1 1 true rfl rfl rfl w) ?_
    simp only [Act.put, List.setIfInBounds_toArray, List.set_cons_succ, List.set_cons_zero]
    refine w_value (.bool true) (by kernel_rfl) (fun w hw => x_move _ _ _ _ _ _ _ _ rfl w) ?_
    simp only [Act.put, List.setIfInBounds_toArray, List.set_cons_succ, List.set_cons_zero]
    refine w_value (PT b) (by kernel_rfl) (fun w hw => x_move _ _ _ _ _ _ _ _ rfl w) ?_
    simp only [Act.put, List.setIfInBounds_toArray, List.set_cons_succ, List.set_cons_zero]
    refine w_value (PT b) (by kernel_rfl) (fun w hw => x_nilCheck _ _ _ _ _ _ _ _ rfl w) ?_
    simp only [Act.put, List.setIfInBounds_toArray, List.set_cons_succ, List.set_cons_zero]
    refine w_value (.pointer (some ⟨b, 1, none⟩)) (by kernel_rfl) (fun w hw => x_field1 _ _ _ _ _ _ _ _ rfl w) ?_
    simp only [Act.put, List.setIfInBounds_toArray, List.set_cons_succ, List.set_cons_zero]
    refine w_value (SV s) (by kernel_rfl) (fun w hw => x_loadAt _ _ _ _ _ _ _ b 1 s rfl w (HX.out w hw).2.1) ?_
    simp only [Act.put, List.setIfInBounds_toArray, List.set_cons_succ, List.set_cons_zero]
    refine w_value (.string ⟨#[x]⟩) (by kernel_rfl) (fun w hw => x_move _ _ _ _ _ _ _ _ rfl w) ?_
    simp only [Act.put, List.setIfInBounds_toArray, List.set_cons_succ, List.set_cons_zero]
    refine w_value (.int .u8 x.toNat) (by kernel_rfl) (fun w hw => x_strIdx0 _ _ _ _ _ _ _ x rfl rfl w) ?_
    simp only [Act.put, List.setIfInBounds_toArray, List.set_cons_succ, List.set_cons_zero]
    refine w_call hG 34 #[SV s, .int .u8 x.toNat] (.bool q) (by kernel_rfl) (fun w => x_call2 _ _ _ _ _ _ _ _ _ _ _ _ _ rfl rfl rfl (enters_of Tryd.func34 (by kernel_rfl) rfl) w) (fun w hw => HQ.out w hw) ?_
    simp only [Act.put, List.setIfInBounds_toArray, List.set_cons_succ, List.set_cons_zero]
    refine w_value (.bool q) (by kernel_rfl) (fun w hw => x_pick _ _ _ _ _ _ _ _ _ true (.bool q) (.bool false) rfl rfl rfl w) ?_
    simp only [Act.put, List.setIfInBounds_toArray, List.set_cons_succ, List.set_cons_zero]
    refine w_value (.bool q) (by kernel_rfl) (fun w hw => x_assign _ _ _ _ _ _ _ _ rfl w) ?_
    simp only [Act.put, List.setIfInBounds_toArray, List.set_cons_succ, List.set_cons_zero]
    refine w_nil ?_
    intro W hW
    clear hG
    go_wp2
    go_ret
    exact ⟨rfl, hW⟩
  · have hne : ((t.size : Int) == 1) = false := beq_eq_false_iff_ne.2 (by omega)
    have HR : Hid (hB (RE.mk 2 s ks).lang t = false) := hB_false fun h' => by
      obtain ⟨y, e, hy⟩ := (lang2 rfl _).1 h'
      have := bytesN_length t
      rw [e] at this
      simp at this; omega
    rw [HR.out]
    clear HR
    go_enter Tryd.func10, Tryd.ntmps10
    unfold PT
    go_wp2
    have hG := HG.out
    refine w_lit (C := fun W => Below w.heap.size w W) (by kernel_rfl) (by kernel_rfl) ⟨rfl, rfl, rfl, Nat.le_refl _, fun _ _ => rfl⟩ ?_
    refine w_value (.string t) (by kernel_rfl) (fun w hw => x_move _ _ _ _ _ _ _ _ rfl w) ?_
    simp only [Act.put, List.setIfInBounds_toArray, List.set_cons_succ, List.set_cons_zero]
    refine w_value (.int .i64 t.size) (by kernel_rfl) (fun w hw => x_lenS _ _ _ _ _ _ _ t rfl w) ?_
    simp only [Act.put, List.setIfInBounds_toArray, List.set_cons_succ, List.set_cons_zero]
    refine w_value (.bool false) (by kernel_rfl) (fun w hw => x_eqIntB _ _ _ _ _ _ _ _ t.size 1 false hne rfl rfl w) ?_
    simp only [Act.put, List.setIfInBounds_toArray, List.set_cons_succ, List.set_cons_zero]
    refine w_value (.bool false) (by kernel_rfl) (fun w hw => x_move _ _ _ _ _ _ _ _ rfl w) ?_
    simp only [Act.put, List.setIfInBounds_toArray, List.set_cons_succ, List.set_cons_zero]
    refine w_skip (by kernel_rfl) ?_
    simp only [Act.put, List.setIfInBounds_toArray, List.set_cons_succ, List.set_cons_zero]
    refine w_skip (by kernel_rfl) ?_
    simp only [Act.put, List.setIfInBounds_toArray, List.set_cons_succ, List.set_cons_zero]
    refine w_skip (by kernel_rfl) ?_
    simp only [Act.put, List.setIfInBounds_toArray, List.set_cons_succ, List.set_cons_zero]
    refine w_skip (by kernel_rfl) ?_
    simp only [Act.put, List.setIfInBounds_toArray, List.set_cons_succ, List.set_cons_zero]
    refine w_skip (by kernel_rfl) ?_
    simp only [Act.put, List.setIfInBounds_toArray, List.set_cons_succ, List.set_cons_zero]
    refine w_skip (by kernel_rfl) ?_
    simp only [Act.put, List.setIfInBounds_toArray, List.set_cons_succ, List.set_cons_zero]
    refine w_skip (by kernel_rfl) ?_
    simp only [Act.put, List.setIfInBounds_toArray, List.set_cons_succ, List.set_cons_zero]
    refine w_value (.bool false) (by kernel_rfl) (fun w hw => x_pick _ _ _ _ _ _ _ _ _ false undef (.bool false) rfl rfl rfl w) ?_
    simp only [Act.put, List.setIfInBounds_toArray, List.set_cons_succ, List.set_cons_zero]
    refine w_value (.bool false) (by kernel_rfl) (fun w hw => x_assign _ _ _ _ _ _ _ _ rfl w) ?_
    simp only [Act.put, List.setIfInBounds_toArray, List.set_cons_succ, List.set_cons_zero]
    refine w_nil ?_
    intro W hW
    clear hG
    go_wp2
    go_ret
    exact ⟨rfl, hW⟩
set_option maxHeartbeats 1000000 in
theorem has3 (s : BitVec 256) (ks : List RE) (t : ByteArray) (ht : t.size ≤ 1000) (ih : ∀ k ∈ ks, ∀ t', t'.size ≤ t.size → HasAt k t') : HasAt (.mk 3 s ks) t := by
  intro b w h
  obtain ⟨a, c, row, HX⟩ := h.see
  have x0 := (HX.out w (Below.refl _ _)).1
  have x5 := (HX.out w (Below.refl _ _)).2.2
  have HR : Hid (hB (RE.mk 3 s ks).lang t = hB (catG (ks.map RE.lang)) t) := by
    exact hB_eq (lang3 (r := .mk 3 s ks) rfl _)
  have hc := cats_any ks _ t w ht row ih
  rw [HR.out]
  obtain ⟨q, hq⟩ : ∃ q, q = hB (catG (ks.map RE.lang)) t := ⟨_, rfl⟩
  rw [← hq] at hc ⊢
  have HC := hide hc
  clear row h HX HR ih hq hc
  go_enter Tryd.func10, Tryd.ntmps10
  unfold PT
  go_wp2_with fail
  refine HC.out.mono ?_
  rintro e w1 ⟨rfl, hb⟩
  have HB := hide hb
  clear hb HC
  go_wp2
  go_ret
  exact ⟨rfl, HB.out⟩
set_option maxHeartbeats 1000000 in
theorem has4 (s : BitVec 256) (ks : List RE) (t : ByteArray) (ih : ∀ k ∈ ks, HasAt k t) : HasAt (.mk 4 s ks) t := by
  intro b w h
  obtain ⟨a, c, row, HX⟩ := h.see
  have x0 := (HX.out w (Below.refl _ _)).1
  have x5 := (HX.out w (Below.refl _ _)).2.2
  have HROW := hide row
  have HIH := hide ih
  obtain ⟨hn, -⟩ := row.at
  clear row h HX ih
  go_enter Tryd.func10, Tryd.ntmps10
  unfold PT
  go_wp2
  go_loopw [49] (fun i wr => ∃ k : Nat, k ≤ ks.length ∧ i = .int .i64 k ∧ Hid (∀ x ∈ ks.take k, hB x.lang t = false) ∧ Hid (Below w.heap.size w wr)) (fun i _ => ks.length - (intOf i).toNat)
  case atStart => exact ⟨0, by omega, rfl, (fun x hx => by simp at hx), Below.refl _ _⟩
  case round =>
    obtain ⟨k, hk1, rfl, HN, HW⟩ := hrel
    obtain ⟨-, a', cap', e1, g1⟩ := (HROW.out.below HW.out).at
    obtain ⟨rfl, rfl⟩ : a = a' ∧ c = cap' := by cases e1; exact ⟨rfl, rfl⟩
    clear e1
    by_cases hlt : k < ks.length
    · have hkd : decide (k < ks.length) = true := by simp [hlt]
      obtain ⟨g, f, p, rfl, -, hc0, hr0⟩ := g1 k hlt
      have HT := hide (show ks.take (k + 1) = ks.take k ++ [ks[k]] from List.take_succ_eq_append_getElem hlt)
      obtain ⟨q, hq⟩ : ∃ q, q = hB (ks[k]).lang t := ⟨_, rfl⟩
      have HC := HIH.out _ (List.getElem_mem hlt) p wr hr0
      rw [← hq] at HC
      have HM := hide (List.getElem_mem hlt)
      have HC := hide HC
      have HQ := hide hq
      generalize ks[k] = kk at *
      clear g1 hr0 hq
      unfold PT at hc0 HC
      go_wp2_with fail
      refine HC.out.mono ?_
      rintro e w1 ⟨rfl, hb⟩
      have HB := hide (HW.out.trans (hb.mono HW.out.size))
      clear hb HC hc0
      cases q
      · go_wp2
        refine ⟨⟨k + 1, by omega, by go_num, ?_, HB⟩, by simp [intOf]; omega⟩
        intro x hx
        rw [HT.out] at hx
        rcases List.mem_append.1 hx with hx | hx
        · exact HN.out x hx
        · simp at hx; subst hx; exact HQ.out.symm
      · have HKY : Hid (hB (RE.mk 4 s ks).lang t = true) := by
          show _ = _
          exact hB_true ((lang4 rfl _).2 ⟨kk, HM.out, (hB_iff _ _).1 HQ.out.symm⟩)
        go_wp2
        go_ret
        refine ⟨?_, HB.out⟩
        rw [HKY.out]; rfl
    · obtain rfl : k = ks.length := by omega
      rw [List.take_length] at HN
      have HKY : Hid (hB (RE.mk 4 s ks).lang t = false) := by
        show _ = _
        refine hB_false fun h => ?_
        obtain ⟨x, hx, h2⟩ := (lang4 (r := .mk 4 s ks) rfl _).1 h
        have h3 := hB_true (t := t) h2
        rw [HN.out x hx] at h3; cases h3
      clear g1
      go_wp2
      go_ret
      refine ⟨?_, HW.out⟩
      rw [HKY.out]; rfl
set_option maxHeartbeats 1000000 in
theorem has6 (s : BitVec 256) (ks : List RE) (t : ByteArray) (ih : ∀ k ∈ ks, HasAt k t) : HasAt (.mk 6 s ks) t := by
  intro b w h
  obtain ⟨a, c, row, HX⟩ := h.see
  have x0 := (HX.out w (Below.refl _ _)).1
  have x5 := (HX.out w (Below.refl _ _)).2.2
  have HROW := hide row
  have HIH := hide ih
  obtain ⟨hn, -⟩ := row.at
  clear row h HX ih
  go_enter Tryd.func10, Tryd.ntmps10
  unfold PT
  go_wp2
  go_loopw [99] (fun i wr => ∃ k : Nat, k ≤ ks.length ∧ i = .int .i64 k ∧ Hid (∀ x ∈ ks.take k, hB x.lang t = true) ∧ Hid (Below w.heap.size w wr)) (fun i _ => ks.length - (intOf i).toNat)
  case atStart => exact ⟨0, by omega, rfl, (fun x hx => by simp at hx), Below.refl _ _⟩
  case round =>
    obtain ⟨k, hk1, rfl, HN, HW⟩ := hrel
    obtain ⟨-, a', cap', e1, g1⟩ := (HROW.out.below HW.out).at
    obtain ⟨rfl, rfl⟩ : a = a' ∧ c = cap' := by cases e1; exact ⟨rfl, rfl⟩
    clear e1
    by_cases hlt : k < ks.length
    · have hkd : decide (k < ks.length) = true := by simp [hlt]
      obtain ⟨g, f, p, rfl, -, hc0, hr0⟩ := g1 k hlt
      have HT := hide (show ks.take (k + 1) = ks.take k ++ [ks[k]] from List.take_succ_eq_append_getElem hlt)
      obtain ⟨q, hq⟩ : ∃ q, q = hB (ks[k]).lang t := ⟨_, rfl⟩
      have HC := HIH.out _ (List.getElem_mem hlt) p wr hr0
      rw [← hq] at HC
      have HM := hide (List.getElem_mem hlt)
      have HC := hide HC
      have HQ := hide hq
      generalize ks[k] = kk at *
      clear g1 hr0 hq
      unfold PT at hc0 HC
      go_wp2_with fail
      refine HC.out.mono ?_
      rintro e w1 ⟨rfl, hb⟩
      have HB := hide (HW.out.trans (hb.mono HW.out.size))
      clear hb HC hc0
      cases q
      · have HKY : Hid (hB (RE.mk 6 s ks).lang t = false) := by
          show _ = _
          refine hB_false fun h => ?_
          have h2 := hB_true (t := t) ((lang6 (r := .mk 6 s ks) rfl _).1 h kk HM.out)
          rw [← HQ.out] at h2; cases h2
        go_wp2
        go_ret
        refine ⟨?_, HB.out⟩
        rw [HKY.out]; rfl
      · go_wp2
        refine ⟨⟨k + 1, by omega, by go_num, ?_, HB⟩, by simp [intOf]; omega⟩
        intro x hx
        rw [HT.out] at hx
        rcases List.mem_append.1 hx with hx | hx
        · exact HN.out x hx
        · simp at hx; subst hx; exact HQ.out.symm
    · obtain rfl : k = ks.length := by omega
      rw [List.take_length] at HN
      have HKY : Hid (hB (RE.mk 6 s ks).lang t = true) := by
        show _ = _
        exact hB_true ((lang6 rfl _).2 fun x hx => (hB_iff _ _).1 (HN.out x hx))
      clear g1
      go_wp2
      go_ret
      refine ⟨?_, HW.out⟩
      rw [HKY.out]; rfl

theorem star_split (l : Lg) (u : List Nat) : starG l u ↔ u = [] ∨ ∃ j, 1 ≤ j ∧ j ≤ u.length ∧ l (u.take j) ∧ starG l (u.drop j) := by
  constructor
  · intro h
    cases h with
    | nil => exact .inl rfl
    | cons x y hx h1 h2 =>
      refine .inr ⟨x.length, ?_, by simp, by rw [List.take_left]; exact h1, by rw [List.drop_left]; exact h2⟩
      cases x with
      | nil => exact absurd rfl hx
      | cons => simp
  · rintro (rfl | ⟨j, h1, h2, h3, h4⟩)
    · exact .nil
    · rw [← List.take_append_drop j u]
      refine .cons _ _ (fun e => ?_) h3 h4
      have := congrArg List.length e
      rw [List.length_take, List.length_nil] at this
      omega
theorem lang_star1 (s : BitVec 256) (r : RE) (u : List Nat) : (RE.mk 5 s [r]).lang u ↔ starG r.lang u := by
  rw [lang5 rfl]
  constructor
  · rintro (rfl | ⟨l, e, h⟩)
    · exact .nil
    · have e : [r.lang] = [l] := e
      have : r.lang = l := by injection e
      rw [this]; exact h
  · intro h; exact .inr ⟨_, rfl, h⟩
theorem has5_nil (s : BitVec 256) (r : RE) (t : ByteArray) (h0 : t.size = 0) : HasAt (.mk 5 s [r]) t := by
  intro b w h
  obtain ⟨a, c, row, HX⟩ := h.see
  have x0 := (HX.out w (Below.refl _ _)).1
  have e0 : bytesN t = [] := List.eq_nil_of_length_eq_zero (by rw [bytesN_length]; omega)
  have htl : t.toList.isEmpty = true := by rw [← hB_nil]; exact hB_true e0
  rw [hB_true ((lang5 rfl _).2 (.inl e0))]
  clear row h HX
  go_enter Tryd.func10, Tryd.ntmps10
  unfold PT
  go_wp2
  go_ret
  exact ⟨rfl, Below.refl _ _⟩
set_option maxHeartbeats 2000000 in
theorem has5 (s : BitVec 256) (r : RE) (ih : ∀ t, t.size ≤ 1000 → HasAt r t) : ∀ (n : Nat) (t : ByteArray), t.size ≤ n → t.size ≤ 1000 → HasAt (.mk 5 s [r]) t := by
  intro n
  induction n with
  | zero =>
    intro t hn ht
    exact has5_nil s r t (by omega)
  | succ n IH =>
    intro t hn ht
    by_cases h0 : t.size = 0
    · exact has5_nil s r t h0
    intro b w h
    obtain ⟨a, c, row, HX⟩ := h.see
    have HX : Hid (∀ W, Below w.heap.size w W → W.cell? ⟨b, 0, none⟩ = some (.int .i64 5) ∧ (∀ j, j < 4 → W.cell? ⟨b, 1 + j, none⟩ = some (.int .u64 (wd s j))) ∧ W.cell? ⟨b, 5, none⟩ = some (.slice a 1 c)) := HX
    have HH := hide h
    obtain ⟨-, a', c', e1, q⟩ := row.at
    obtain ⟨rfl, rfl⟩ : a = a' ∧ c = c' := by cases e1; exact ⟨rfl, rfl⟩
    obtain ⟨g, f, p, rfl, -, hc0, hr0⟩ := q 0 (by simp)
    have hq1 : ∀ W, Below w.heap.size w W → W.cell? ⟨g, f + 0, none⟩ = some (PT p) := fun W hW => (World.cell?_of_block (w := w) (hW.block _ (World.block_lt_of_cell? _ _ hc0))).trans hc0
    have hr1 : ∀ W, Below w.heap.size w W → ReAt W p r := fun W hW => by have := hr0.keep hW; simpa using this
    have HQ1 := hide hq1
    have HR1 := hide hr1
    clear q hc0 hr0 hq1 hr1 row h e1
    have htl : t.toList.isEmpty = false := by
      rw [← hB_nil]
      refine hB_false fun h => h0 ?_
      have h : bytesN t = [] := h
      rw [← bytesN_length, h]; rfl
    have HL : Hid (∀ j, 1 ≤ j → j ≤ t.size → r.lang ((bytesN t).take j) → (RE.mk 5 s [r]).lang ((bytesN t).drop j) → hB (RE.mk 5 s [r]).lang t = true) := fun j h1 h2 h3 h4 =>
      hB_true ((lang_star1 s r _).2 ((star_split _ _).2 (.inr ⟨j, h1, by rw [bytesN_length]; exact h2, h3, (lang_star1 s r _).1 h4⟩)))
    have HL2 : Hid ((∀ j, 1 ≤ j → j ≤ t.size → ¬ (r.lang ((bytesN t).take j) ∧ (RE.mk 5 s [r]).lang ((bytesN t).drop j))) → hB (RE.mk 5 s [r]).lang t = false) := fun h => hB_false fun h' => by
      rcases (star_split _ _).1 ((lang_star1 s r _).1 h') with h1 | ⟨j, h1, h2, h3, h4⟩
      · exact h0 (by rw [← bytesN_length, h1]; rfl)
      · exact h j h1 (by rw [← bytesN_length]; exact h2) ⟨h3, (lang_star1 s r _).2 h4⟩
    have HIH := hide IH
    have HI := hide ih
    have HH0 := hide h0
    clear IH ih h0
    obtain ⟨S, hS⟩ : ∃ S, S = (RE.mk 5 s [r]) := ⟨_, rfl⟩
    rw [← hS] at HL HL2 HIH HH ⊢
    clear hS
    have HG : Hid (Grows fun W => Below w.heap.size w W) := fun W W' h1 h2 => h1.trans (h2.mono h1.size)
    have x0 := (HX.out w (Below.refl _ _)).1
    go_enter Tryd.func10, Tryd.ntmps10
    unfold PT
    go_wp2
    clear x0
    go_loopw [7] (fun i wr => ∃ k : Nat, 1 ≤ k ∧ k ≤ t.size + 1 ∧ i = .int .i64 k ∧ Hid (∀ j, 1 ≤ j → j < k → ¬ (r.lang ((bytesN t).take j) ∧ S.lang ((bytesN t).drop j))) ∧ Hid (Below w.heap.size w wr)) (fun i _ => t.size + 1 - (intOf i).toNat)
    case atStart => exact ⟨1, by omega, by omega, rfl, (fun j h1 h2 => by omega), Below.refl _ _⟩
    case round =>
      obtain ⟨k, hk0, hk1, rfl, HN, HW⟩ := hrel
      have y5 := (HX.out wr HW.out).2.2
      by_cases hk : k ≤ t.size
      · have hkd : decide ((k : Int) ≤ t.size) = true := by simp; omega
        have hkd2 : decide (k ≤ t.size) = true := by simp [hk]
        have hG := HG.out
        have hq1 := HQ1.out
        obtain ⟨b1, hb1⟩ : ∃ b1, b1 = hB r.lang (t.extract 0 k) := ⟨_, rfl⟩
        have hq2 : ∀ W, Below w.heap.size w W → Calls Tryd.prog 10 #[PT p, .string (t.extract 0 k)] W fun e w' => e = .returned (.bool b1) ∧ Below W.heap.size W w' := fun W hW => by
          rw [hb1]; exact HI.out _ (by rw [size_take _ _ hk]; omega) p W (HR1.out W hW)
        have HQ2 := hide hq2
        clear hq2 hG hq1
        go_wp2
        clear y5
        have hG := HG.out
        have hq1 := HQ1.out
        have hq2 := HQ2.out
        cases b1
        · have HF : Hid (¬ r.lang ((bytesN t).take k)) := fun h => by rw [← bytesN_take] at h; rw [hB_true h] at hb1; cases hb1
          clear hb1
          refine w_lit (C := fun W => Below w.heap.size w W) (by kernel_rfl) (by kernel_rfl) (HW.out.trans ⟨rfl, rfl, rfl, Nat.le_refl _, fun _ _ => rfl⟩) ?_
          refine w_value (PT b) (by kernel_rfl) (fun w hw => x_move _ _ _ _ _ _ _ _ rfl w) ?_
          simp only [Act.put, List.setIfInBounds_toArray, List.set_cons_succ, List.set_cons_zero]
          refine w_value (PT b) (by kernel_rfl) (fun w hw => x_nilCheck _ _ _ _ _ _ _ _ rfl w) ?_
          simp only [Act.put, List.setIfInBounds_toArray, List.set_cons_succ, List.set_cons_zero]
          refine w_value (.pointer (some ⟨b, 5, none⟩)) (by kernel_rfl) (fun w hw => x_field2 _ _ _ _ _ _ _ _ rfl w) ?_
          simp only [Act.put, List.setIfInBounds_toArray, List.set_cons_succ, List.set_cons_zero]
          refine w_value (.slice (some ⟨g, f, none⟩) 1 c) (by kernel_rfl) (fun w hw => x_loadKids _ _ _ _ _ _ _ b 5 _ rfl w (HX.out w hw).2.2) ?_
          simp only [Act.put, List.setIfInBounds_toArray, List.set_cons_succ, List.set_cons_zero]
          refine w_value (.pointer (some ⟨g, f + 0, none⟩)) (by kernel_rfl) (fun w hw => x_idxP _ _ _ _ _ _ _ _ g f 1 c 0 rfl rfl (by omega) w) ?_
          simp only [Act.put, List.setIfInBounds_toArray, List.set_cons_succ, List.set_cons_zero]
          refine w_value (PT p) (by kernel_rfl) (fun w hw => x_loadP _ _ _ _ _ _ _ _ _ _ rfl w (hq1 w hw)) ?_
          simp only [Act.put, List.setIfInBounds_toArray, List.set_cons_succ, List.set_cons_zero]
          refine w_value (.string t) (by kernel_rfl) (fun w hw => x_move _ _ _ _ _ _ _ _ rfl w) ?_
          simp only [Act.put, List.setIfInBounds_toArray, List.set_cons_succ, List.set_cons_zero]
          refine w_value (.int .i64 k) (by kernel_rfl) (fun w hw => x_move _ _ _ _ _ _ _ _ rfl w) ?_
          simp only [Act.put, List.setIfInBounds_toArray, List.set_cons_succ, List.set_cons_zero]
          refine w_value (.string (t.extract 0 k)) (by kernel_rfl) (fun w hw => x_strTo _ _ _ _ _ _ _ _ t k rfl rfl hk w) ?_
          simp only [Act.put, List.setIfInBounds_toArray, List.set_cons_succ, List.set_cons_zero]
          refine w_call hG 10 #[PT p, .string (t.extract 0 k)] (.bool false) (by kernel_rfl) (fun w => x_call2 _ _ _ _ _ _ _ _ _ _ _ _ _ rfl rfl rfl (enters_of Tryd.func10 (by kernel_rfl) rfl) w) (fun w hw => hq2 w hw) ?_
          simp only [Act.put, List.setIfInBounds_toArray, List.set_cons_succ, List.set_cons_zero]
          refine w_value (.bool false) (by kernel_rfl) (fun w hw => x_move _ _ _ _ _ _ _ _ rfl w) ?_
          simp only [Act.put, List.setIfInBounds_toArray, List.set_cons_succ, List.set_cons_zero]
          refine w_skip (by kernel_rfl) ?_
          simp only [Act.put, List.setIfInBounds_toArray, List.set_cons_succ, List.set_cons_zero]
          refine w_skip (by kernel_rfl) ?_
          simp only [Act.put, List.setIfInBounds_toArray, List.set_cons_succ, List.set_cons_zero]
          refine w_skip (by kernel_rfl) ?_
          simp only [Act.put, List.setIfInBounds_toArray, List.set_cons_succ, List.set_cons_zero]
          refine w_skip (by kernel_rfl) ?_
          simp only [Act.put, List.setIfInBounds_toArray, List.set_cons_succ, List.set_cons_zero]
          refine w_skip (by kernel_rfl) ?_
          simp only [Act.put, List.setIfInBounds_toArray, List.set_cons_succ, List.set_cons_zero]
          refine w_value (.bool false) (by kernel_rfl) (fun w hw => x_pick _ _ _ _ _ _ _ _ _ false undef (.bool false) rfl rfl rfl w) ?_
          simp only [Act.put, List.setIfInBounds_toArray, List.set_cons_succ, List.set_cons_zero]
          refine w_nil ?_
          intro W hW
          have HWW := hide hW
          clear hW hG hq2 hq1 HQ2
          go_wp2
          refine ⟨⟨k + 1, by omega, by omega, by go_num, ?_, HWW⟩, by simp [intOf]; omega⟩
          intro j hj1 hj h
          by_cases hjk : j = k
          · subst hjk; exact HF.out h.1
          · exact HN.out j hj1 (by omega) h
        · have HTR : Hid (r.lang ((bytesN t).take k)) := by
            show r.lang _
            rw [← bytesN_take]; exact (hB_iff _ _).1 hb1.symm
          obtain ⟨b2, hb2⟩ : ∃ b2, b2 = hB S.lang (t.extract k t.size) := ⟨_, rfl⟩
          have hq3 : ∀ W, Below w.heap.size w W → Calls Tryd.prog 10 #[PT b, .string (t.extract k t.size)] W fun e w' => e = .returned (.bool b2) ∧ Below W.heap.size W w' := fun W hW => by
            have hz := size_drop t k
            rw [hb2]
            exact HIH.out _ (by omega) (by omega) b W (HH.out.keep hW)
          cases b2
          · have HF : Hid (¬ S.lang ((bytesN t).drop k)) := fun h => by rw [← bytesN_drop] at h; rw [hB_true h] at hb2; cases hb2
            clear hb1 hb2
            refine w_lit (C := fun W => Below w.heap.size w W) (by kernel_rfl) (by kernel_rfl) (HW.out.trans ⟨rfl, rfl, rfl, Nat.le_refl _, fun _ _ => rfl⟩) ?_
            refine w_value (PT b) (by kernel_rfl) (fun w hw => x_move _ _ _ _ _ _ _ _ rfl w) ?_
            simp only [Act.put, List.setIfInBounds_toArray, List.set_cons_succ, List.set_cons_zero]
            refine w_value (PT b) (by kernel_rfl) (fun w hw => x_nilCheck _ _ _ _ _ _ _ _ rfl w) ?_
            simp only [Act.put, List.setIfInBounds_toArray, List.set_cons_succ, List.set_cons_zero]
            refine w_value (.pointer (some ⟨b, 5, none⟩)) (by kernel_rfl) (fun w hw => x_field2 _ _ _ _ _ _ _ _ rfl w) ?_
            simp only [Act.put, List.setIfInBounds_toArray, List.set_cons_succ, List.set_cons_zero]
            refine w_value (.slice (some ⟨g, f, none⟩) 1 c) (by kernel_rfl) (fun w hw => x_loadKids _ _ _ _ _ _ _ b 5 _ rfl w (HX.out w hw).2.2) ?_
            simp only [Act.put, List.setIfInBounds_toArray, List.set_cons_succ, List.set_cons_zero]
            refine w_value (.pointer (some ⟨g, f + 0, none⟩)) (by kernel_rfl) (fun w hw => x_idxP _ _ _ _ _ _ _ _ g f 1 c 0 rfl rfl (by omega) w) ?_
            simp only [Act.put, List.setIfInBounds_toArray, List.set_cons_succ, List.set_cons_zero]
            refine w_value (PT p) (by kernel_rfl) (fun w hw => x_loadP _ _ _ _ _ _ _ _ _ _ rfl w (hq1 w hw)) ?_
            simp only [Act.put, List.setIfInBounds_toArray, List.set_cons_succ, List.set_cons_zero]
            refine w_value (.string t) (by kernel_rfl) (fun w hw => x_move _ _ _ _ _ _ _ _ rfl w) ?_
            simp only [Act.put, List.setIfInBounds_toArray, List.set_cons_succ, List.set_cons_zero]
            refine w_value (.int .i64 k) (by kernel_rfl) (fun w hw => x_move _ _ _ _ _ _ _ _ rfl w) ?_
            simp only [Act.put, List.setIfInBounds_toArray, List.set_cons_succ, List.set_cons_zero]
            refine w_value (.string (t.extract 0 k)) (by kernel_rfl) (fun w hw => x_strTo _ _ _ _ _ _ _ _ t k rfl rfl hk w) ?_
            simp only [Act.put, List.setIfInBounds_toArray, List.set_cons_succ, List.set_cons_zero]
            refine w_call hG 10 #[PT p, .string (t.extract 0 k)] (.bool true) (by kernel_rfl) (fun w => x_call2 _ _ _ _ _ _ _ _ _ _ _ _ _ rfl rfl rfl (enters_of Tryd.func10 (by kernel_rfl) rfl) w) (fun w hw => hq2 w hw) ?_
            simp only [Act.put, List.setIfInBounds_toArray, List.set_cons_succ, List.set_cons_zero]
            refine w_value (.bool true) (by kernel_rfl) (fun w hw => x_move _ _ _ _ _ _ _ _ rfl w) ?_
            simp only [Act.put, List.setIfInBounds_toArray, List.set_cons_succ, List.set_cons_zero]
            refine w_value (PT b) (by kernel_rfl) (fun w hw => x_move _ _ _ _ _ _ _ _ rfl w) ?_
            simp only [Act.put, List.setIfInBounds_toArray, List.set_cons_succ, List.set_cons_zero]
            refine w_value (.string t) (by kernel_rfl) (fun w hw => x_move _ _ _ _ _ _ _ _ rfl w) ?_
            simp only [Act.put, List.setIfInBounds_toArray, List.set_cons_succ, List.set_cons_zero]
            refine w_value (.int .i64 k) (by kernel_rfl) (fun w hw => x_move _ _ _ _ _ _ _ _ rfl w) ?_
            simp only [Act.put, List.setIfInBounds_toArray, List.set_cons_succ, List.set_cons_zero]
            refine w_value (.string (t.extract k t.size)) (by kernel_rfl) (fun w hw => x_strFrom _ _ _ _ _ _ _ _ t k rfl rfl hk w) ?_
            simp only [Act.put, List.setIfInBounds_toArray, List.set_cons_succ, List.set_cons_zero]
            refine w_call hG 10 #[PT b, .string (t.extract k t.size)] (.bool false) (by kernel_rfl) (fun w => x_call2 _ _ _ _ _ _ _ _ _ _ _ _ _ rfl rfl rfl (enters_of Tryd.func10 (by kernel_rfl) rfl) w) (fun w hw => hq3 w hw) ?_
            simp only [Act.put, List.setIfInBounds_toArray, List.set_cons_succ, List.set_cons_zero]
            refine w_value (.bool false) (by kernel_rfl) (fun w hw => x_pick _ _ _ _ _ _ _ _ _ true (.bool false) (.bool false) rfl rfl rfl w) ?_
            simp only [Act.put, List.setIfInBounds_toArray, List.set_cons_succ, List.set_cons_zero]
            refine w_nil ?_
            intro W hW
            have HWW := hide hW
            clear hW hG hq2 hq3 hq1 HQ2
            go_wp2
            refine ⟨⟨k + 1, by omega, by omega, by go_num, ?_, HWW⟩, by simp [intOf]; omega⟩
            intro j hj1 hj h
            by_cases hjk : j = k
            · subst hjk; exact HF.out h.2
            · exact HN.out j hj1 (by omega) h
          · have HKY : Hid (hB S.lang t = true) := HL.out k hk0 hk HTR.out (by rw [← bytesN_drop]; exact (hB_iff _ _).1 hb2.symm)
            clear hb1 hb2
            refine w_lit (C := fun W => Below w.heap.size w W) (by kernel_rfl) (by kernel_rfl) (HW.out.trans ⟨rfl, rfl, rfl, Nat.le_refl _, fun _ _ => rfl⟩) ?_
            refine w_value (PT b) (by kernel_rfl) (fun w hw => x_move _ _ _ _ _ _ _ _ rfl w) ?_
            simp only [Act.put, List.setIfInBounds_toArray, List.set_cons_succ, List.set_cons_zero]
            refine w_value (PT b) (by kernel_rfl) (fun w hw => x_nilCheck _ _ _ _ _ _ _ _ rfl w) ?_
            simp only [Act.put, List.setIfInBounds_toArray, List.set_cons_succ, List.set_cons_zero]
            refine w_value (.pointer (some ⟨b, 5, none⟩)) (by kernel_rfl) (fun w hw => x_field2 _ _ _ _ _ _ _ _ rfl w) ?_
            simp only [Act.put, List.setIfInBounds_toArray, List.set_cons_succ, List.set_cons_zero]
            refine w_value (.slice (some ⟨g, f, none⟩) 1 c) (by kernel_rfl) (fun w hw => x_loadKids _ _ _ _ _ _ _ b 5 _ rfl w (HX.out w hw).2.2) ?_
            simp only [Act.put, List.setIfInBounds_toArray, List.set_cons_succ, List.set_cons_zero]
            refine w_value (.pointer (some ⟨g, f + 0, none⟩)) (by kernel_rfl) (fun w hw => x_idxP _ _ _ _ _ _ _ _ g f 1 c 0 rfl rfl (by omega) w) ?_
            simp only [Act.put, List.setIfInBounds_toArray, List.set_cons_succ, List.set_cons_zero]
            refine w_value (PT p) (by kernel_rfl) (fun w hw => x_loadP _ _ _ _ _ _ _ _ _ _ rfl w (hq1 w hw)) ?_
            simp only [Act.put, List.setIfInBounds_toArray, List.set_cons_succ, List.set_cons_zero]
            refine w_value (.string t) (by kernel_rfl) (fun w hw => x_move _ _ _ _ _ _ _ _ rfl w) ?_
            simp only [Act.put, List.setIfInBounds_toArray, List.set_cons_succ, List.set_cons_zero]
            refine w_value (.int .i64 k) (by kernel_rfl) (fun w hw => x_move _ _ _ _ _ _ _ _ rfl w) ?_
            simp only [Act.put, List.setIfInBounds_toArray, List.set_cons_succ, List.set_cons_zero]
            refine w_value (.string (t.extract 0 k)) (by kernel_rfl) (fun w hw => x_strTo _ _ _ _ _ _ _ _ t k rfl rfl hk w) ?_
            simp only [Act.put, List.setIfInBounds_toArray, List.set_cons_succ, List.set_cons_zero]
            refine w_call hG 10 #[PT p, .string (t.extract 0 k)] (.bool true) (by kernel_rfl) (fun w => x_call2 _ _ _ _ _ _ _ _ _ _ _ _ _ rfl rfl rfl (enters_of Tryd.func10 (by kernel_rfl) rfl) w) (fun w hw => hq2 w hw) ?_
            simp only [Act.put, List.setIfInBounds_toArray, List.set_cons_succ, List.set_cons_zero]
            refine w_value (.bool true) (by kernel_rfl) (fun w hw => x_move _ _ _ _ _ _ _ _ rfl w) ?_
            simp only [Act.put, List.setIfInBounds_toArray, List.set_cons_succ, List.set_cons_zero]
            refine w_value (PT b) (by kernel_rfl) (fun w hw => x_move _ _ _ _ _ _ _ _ rfl w) ?_
            simp only [Act.put, List.setIfInBounds_toArray, List.set_cons_succ, List.set_cons_zero]
            refine w_value (.string t) (by kernel_rfl) (fun w hw => x_move _ _ _ _ _ _ _ _ rfl w) ?_
            simp only [Act.put, List.setIfInBounds_toArray, List.set_cons_succ, List.set_cons_zero]
            refine w_value (.int .i64 k) (by kernel_rfl) (fun w hw => x_move _ _ _ _ _ _ _ _ rfl w) ?_
            simp only [Act.put, List.setIfInBounds_toArray, List.set_cons_succ, List.set_cons_zero]
            refine w_value (.string (t.extract k t.size)) (by kernel_rfl) (fun w hw => x_strFrom _ _ _ _ _ _ _ _ t k rfl rfl hk w) ?_
            simp only [Act.put, List.setIfInBounds_toArray, List.set_cons_succ, List.set_cons_zero]
            refine w_call hG 10 #[PT b, .string (t.extract k t.size)] (.bool true) (by kernel_rfl) (fun w => x_call2 _ _ _ _ _ _ _ _ _ _ _ _ _ rfl rfl rfl (enters_of Tryd.func10 (by kernel_rfl) rfl) w) (fun w hw => hq3 w hw) ?_
            simp only [Act.put, List.setIfInBounds_toArray, List.set_cons_succ, List.set_cons_zero]
            refine w_value (.bool true) (by kernel_rfl) (fun w hw => x_pick _ _ _ _ _ _ _ _ _ true (.bool true) (.bool false) rfl rfl rfl w) ?_
            simp only [Act.put, List.setIfInBounds_toArray, List.set_cons_succ, List.set_cons_zero]
            refine w_nil ?_
            intro W hW
            have HWW := hide hW
            clear hW hG hq2 hq3 hq1 HQ2
            go_wp2
            go_ret
            refine ⟨?_, HWW.out⟩
            rw [HKY.out]; rfl
      · have hkd : decide ((k : Int) ≤ t.size) = false := by simp; omega
        have hkd2 : decide (k ≤ t.size) = false := by simp; omega
        have HKY : Hid (hB S.lang t = false) := HL2.out fun j h1 h2 => HN.out j h1 (by omega)
        go_wp2
        go_ret
        refine ⟨?_, HW.out⟩
        rw [HKY.out]; rfl
set_option maxHeartbeats 1000000 in
theorem has7 (s : BitVec 256) (x y : RE) (t : ByteArray) (hx : HasAt x t) (hy : HasAt y t) : HasAt (.mk 7 s [x, y]) t := by
  intro b w h
  obtain ⟨a, c, row, HX⟩ := h.see
  have HX : Hid (∀ W, Below w.heap.size w W → W.cell? ⟨b, 0, none⟩ = some (.int .i64 7) ∧ (∀ j, j < 4 → W.cell? ⟨b, 1 + j, none⟩ = some (.int .u64 (wd s j))) ∧ W.cell? ⟨b, 5, none⟩ = some (.slice a 2 c)) := HX
  obtain ⟨-, a', c', e1, q⟩ := row.at
  obtain ⟨rfl, rfl⟩ : a = a' ∧ c = c' := by cases e1; exact ⟨rfl, rfl⟩
  obtain ⟨g, f, p, rfl, -, hc0, hr0⟩ := q 0 (by simp)
  obtain ⟨g', f', p', e2, -, hc1, hr1⟩ := q 1 (by simp)
  obtain ⟨rfl, rfl⟩ : g = g' ∧ f = f' := by cases e2; exact ⟨rfl, rfl⟩
  have hr0 : ReAt w p x := hr0
  have hr1 : ReAt w p' y := hr1
  have HR1 := hide hr1
  have HC1 := hide hc1
  have HB0 : Hid (hB (RE.mk 7 s [x, y]).lang t = (hB x.lang t && !hB y.lang t)) := by
    show _ = _
    have hl := lang7 (r := RE.mk 7 s [x, y]) rfl (bytesN t)
    cases h1 : hB x.lang t with
    | false =>
      refine hB_false fun h => ?_
      obtain ⟨u, v, e, h2, h3⟩ := hl.1 h
      have e : [x.lang, y.lang] = [u, v] := e
      have : x.lang = u := by injection e
      rw [← this] at h2
      rw [hB_true h2] at h1; cases h1
    | true =>
      cases h2 : hB y.lang t with
      | false => exact hB_true (hl.2 ⟨_, _, rfl, (hB_iff _ _).1 h1, fun h => by rw [hB_true h] at h2; cases h2⟩)
      | true =>
        refine hB_false fun h => ?_
        obtain ⟨u, v, e, h3, h4⟩ := hl.1 h
        have e : [x.lang, y.lang] = [u, v] := e
        injection e with e e'
        injection e' with e'
        exact h4 (e' ▸ (hB_iff _ _).1 h2)
  have x0 := (HX.out w (Below.refl _ _)).1
  have x5 := (HX.out w (Below.refl _ _)).2.2
  have hc0' : w.cell? ⟨g, f, none⟩ = some (PT p) := hc0
  have HC := hide (hx p w hr0)
  have HD := hide hy
  rw [HB0.out]
  clear row h e1 e2 q hr0 hr1 hx hy HB0 hc1 hc0
  obtain ⟨q1, hq1⟩ : ∃ q1, q1 = hB x.lang t := ⟨_, rfl⟩
  obtain ⟨q2, hq2⟩ : ∃ q2, q2 = hB y.lang t := ⟨_, rfl⟩
  rw [← hq1] at HC ⊢
  rw [← hq2] 
  have HQ2 := hide hq2
  clear hq1 hq2
  unfold PT at hc0' HC
  go_enter Tryd.func10, Tryd.ntmps10
  unfold PT
  go_wp2_with fail
  refine HC.out.mono ?_
  rintro e w1 ⟨rfl, hb⟩
  have HB := hide hb
  have y5 := (HX.out w1 hb).2.2
  have hd1 : w1.cell? ⟨g, f + 1, none⟩ = some (PT p') := (World.cell?_of_block (w := w) (hb.block _ (World.block_lt_of_cell? _ _ HC1.out))).trans HC1.out
  have HE := HD.out p' w1 (HR1.out.keep hb)
  rw [← HQ2.out] at HE
  have HE := hide HE
  clear hb HC HD x0 x5 hc0' HC1 HX HR1
  unfold PT at hd1 HE
  cases q1
  · go_wp2
    go_ret
    exact ⟨by simp, HB.out⟩
  · go_wp2_with fail
    refine HE.out.mono ?_
    rintro e w2 ⟨rfl, hb⟩
    have HB2 := hide (HB.out.trans (hb.mono HB.out.size))
    clear hb HE
    go_wp2
    go_ret
    exact ⟨by simp, HB2.out⟩

theorem reHas_any (r : RE) : Wf r → ∀ t, t.size ≤ 1000 → HasAt r t := by
  refine RE.ind (P := fun r => Wf r → ∀ t, t.size ≤ 1000 → HasAt r t) ?_ r
  intro o s ks ih hw t ht
  have hs := hw.shp
  have hk : ∀ k ∈ ks, ∀ t, t.size ≤ 1000 → HasAt k t := fun k hk => ih k hk (hw.kid k hk)
  simp only [RE.op, RE.set, RE.kids] at hs
  have ho := hs.op
  obtain h | h | h | h | h | h | h | h : o = 0 ∨ o = 1 ∨ o = 2 ∨ o = 3 ∨ o = 4 ∨ o = 5 ∨ o = 6 ∨ o = 7 := by omega
  all_goals subst h
  · exact has0 s ks t
  · exact has1 s ks t
  · exact has2 s ks t
  · exact has3 s ks t ht fun k hk' t' ht' => hk k hk' t' (by omega)
  · exact has4 s ks t fun k hk' => hk k hk' t ht
  · obtain ⟨k, rfl, -⟩ := hs.star rfl
    exact has5 s k (hk k (by simp)) _ t (Nat.le_refl _) ht
  · exact has6 s ks t fun k hk' => hk k hk' t ht
  · obtain ⟨x, y, rfl, -⟩ := hs.minus rfl
    exact has7 s x y t (hk x (by simp) t ht) (hk y (by simp) t ht)
end Go.Proofs.YtkjmjppmpcnejaaDoor
/- In and cat: a text is one of a shape's, by the page. -/
namespace Go.Proofs.YtkjmjppmpcnejaaDoor
set_option maxRecDepth 100000
set_option linter.unusedSimpArgs false
set_option linter.unusedVariables false
open Go.RowKit

theorem x_sliceOneSh (ρ : Operand → Value) (d : Option Tmp) (x : Operand) (ty : TypeId) (pos : String) (af : Array Edge) (g : Option (Nat × Bool)) (b off len cap off2 : Nat) (ho : off2 = if cap = 1 then off else off + 5) (hx : ρ x = .slice (some ⟨b, off, none⟩) (len + 1) cap) (hy : ρ (.const (.int .i64 1)) = .int .i64 1) (w : World) :
    (execOp ρ { dst := d, op := .slice 22 x (some (.const (.int .i64 1))) none none, type := ty, pos := pos, after := af, guard := g }).run Tryd.prog w =   .ok (.value (.slice (some ⟨b, off2, none⟩) len (cap - 1))) w := by
  rw [ho]
  have h1 : (1 : Int) ≤ (len : Int) + 1 := by omega
  have h5 := cells5
  simp [go_sem, hx, hy, h1]
  split <;> rfl
theorem x_idxSh0 (ρ : Operand → Value) (d : Option Tmp) (x : Operand) (t : TypeId) (pos : String) (af : Array Edge) (g : Option (Nat × Bool)) (b off len cap : Nat) (hx : ρ x = .slice (some ⟨b, off, none⟩) len cap) (hy : ρ (.const (.int .i64 0)) = .int .i64 0) (h1 : 0 < len) (w : World) :
    (execOp ρ { dst := d, op := .indexAddr 22 x (.const (.int .i64 0)), type := t, pos := pos, after := af, guard := g }).run Tryd.prog w = .ok (.value (.pointer (some ⟨b, off, none⟩))) w := by
  simp [go_sem, hx, hy, h1]
theorem x_loadSh (ρ : Operand → Value) (d : Option Tmp) (x : Operand) (t : TypeId) (pos : String) (af : Array Edge) (g : Option (Nat × Bool)) (b off : Nat) (cs : List Value) (hx : ρ x = .pointer (some ⟨b, off, none⟩)) (w : World) (hl : cs.length = 5) (hc : ∀ j u, cs[j]? = some u → w.cell? ⟨b, off + j, none⟩ = some u) :
    (execOp ρ { dst := d, op := .load 24 x, type := t, pos := pos, after := af, guard := g }).run Tryd.prog w = .ok (.value (ShVal cs)) w := by
  match cs, hl, hc with
  | [c0, c1, c2, c3, c4], _, hc =>
    have e0 := hc 0 c0 rfl
    have e1 := hc 1 c1 rfl
    have e2 := hc 2 c2 rfl
    have e3 := hc 3 c3 rfl
    have e4 := hc 4 c4 rfl
    rw [Nat.add_zero] at e0
    simp [go_sem, hx, e0, e1, e2, e3, e4, ShVal]
theorem x_loadSl (ρ : Operand → Value) (d : Option Tmp) (x : Operand) (t : TypeId) (pos : String) (af : Array Edge) (g : Option (Nat × Bool)) (b n : Nat) (v : Value) (hx : ρ x = .pointer (some ⟨b, n, none⟩)) (w : World) (hc : w.cell? ⟨b, n, none⟩ = some v) :
    (execOp ρ { dst := d, op := .load 22 x, type := t, pos := pos, after := af, guard := g }).run Tryd.prog w = .ok (.value v) w := by
  simp [go_sem, hx, hc]
theorem x_fieldS4 (ρ : Operand → Value) (d : Option Tmp) (x : Operand) (t : TypeId) (pos : String) (af : Array Edge) (g : Option (Nat × Bool)) (b : Nat) (hx : ρ x = PT b) (w : World) :
    (execOp ρ { dst := d, op := .fieldAddr 24 x 4, type := t, pos := pos, after := af, guard := g }).run Tryd.prog w = .ok (.value (.pointer (some ⟨b, 4, none⟩))) w := by
  simp [go_sem, hx, PT]

theorem ShC.len {w : World} {cs : List Value} {s : SHP} (h : ShC w cs s) : cs.length = 5 := by
  obtain ⟨v, rfl, -⟩ := h.open; rfl
/-- The row without its first; its first. -/
theorem ShsRow.uncons {w : World} {g f c : Nat} {s : SHP} {l : List SHP} (h : ShsRow w (.slice (some ⟨g, f, none⟩) (l.length + 1) c) (s :: l)) :
    (∃ cs, ShC w cs s ∧ g < w.heap.size ∧ ∀ j u, cs[j]? = some u → w.cell? ⟨g, f + j, none⟩ = some u) ∧ ShsRow w (.slice (some ⟨g, if c = 1 then f else f + 5, none⟩) l.length (c - 1)) l := by
  have hc : l.length + 1 ≤ c := h.cap _ _ _ rfl
  obtain ⟨cells, ⟨h0, a, cap, e, h1⟩, h2⟩ := h
  injection e with e1 e2 e3
  subst e1 e3
  refine ⟨?_, fun i => cells (i + 1), ⟨⟨by have := h0.1; simp at this; omega, .mk (by omega)⟩, _, _, rfl, fun k hk => ?_⟩, fun i k hk => h2 (i + 1) k (by simpa using hk)⟩
  · obtain ⟨h3, b, off, e, h4, h5⟩ := h1 0 (by simp)
    injection e with e; injection e with e5 e6
    subst e5 e6
    exact ⟨cells 0, h2 0 s rfl, h4, fun j u hu => by have := h5 j u hu; simpa using this⟩
  · obtain ⟨h3, b, off, e, h4, h5⟩ := h1 (k + 1) (by simp; omega)
    injection e with e; injection e with e5 e6
    subst e5 e6
    rw [if_neg (by omega)]
    exact ⟨h3, g, f + 5, rfl, h4, fun j u hu => by rw [← h5 j u hu]; congr 2; omega⟩
theorem ShsRow.first {w : World} {v : Value} {s : SHP} {l : List SHP} (h : ShsRow w v (s :: l)) : ∃ g f c, v = .slice (some ⟨g, f, none⟩) (l.length + 1) c := by
  obtain ⟨-, a, c, rfl, q⟩ := h.at
  obtain ⟨b, off, kv, rfl, -⟩ := q 0 (by simp)
  exact ⟨b, off, c, rfl⟩

abbrev InAt (s : SHP) (t : ByteArray) : Prop := ∀ (cs : List Value) (w : World), ShC w cs s → Calls Tryd.prog 11 #[ShVal cs, .string t] w fun e w' => e = .returned (.bool (hB s.lang t)) ∧ Below w.heap.size w w'

set_option maxHeartbeats 1000000 in
theorem catSh_any (l : List SHP) : ∀ (v : Value) (t : ByteArray) (w : World), t.size ≤ 1000 → ShsRow w v l → (∀ s ∈ l, ∀ t', t'.size ≤ t.size → InAt s t') →
    Calls Tryd.prog 36 #[v, .string t] w fun e w' => e = .returned (.bool (hB (catG (l.map SHP.lang)) t)) ∧ Below w.heap.size w w' := by
  induction l with
  | nil =>
    intro v t w ht hrow _
    obtain ⟨-, a, cap, rfl, -⟩ := hrow.at
    clear hrow
    have HR : Hid (hB (catG (([] : List SHP).map SHP.lang)) t = t.toList.isEmpty) := hB_nil t
    rw [HR.out]
    go_enter Tryd.func36, Tryd.ntmps36
    go_wp2
    go_ret
    exact ⟨rfl, Below.refl _ _⟩
  | cons s l ih =>
    intro v t w ht hrow hH
    obtain ⟨hn, -⟩ := hrow.at
    obtain ⟨g, f, c, rfl⟩ := hrow.first
    obtain ⟨⟨cs, hcs, hgl, hcell⟩, htail⟩ := hrow.uncons
    rw [List.length_cons] at hn
    have hlen := hcs.len
    have hq1 : ∀ W, Below w.heap.size w W → ∀ j u, cs[j]? = some u → W.cell? ⟨g, f + j, none⟩ = some u := fun W hW j u hu => (World.cell?_of_block (w := w) (hW.block _ hgl)).trans (hcell j u hu)
    have HQ1 := hide hq1
    have HLEN := hide hlen
    have HCS := hide hcs
    have HH := hide hH
    have HROW := hide htail
    have HIH := hide ih
    clear hq1 hcs hcell hgl hH hrow ih hlen htail
    have hln : ((l.length : Int) + 1 == 0) = false := beq_eq_false_iff_ne.2 (by omega)
    obtain ⟨f2, hf2⟩ : ∃ f2, f2 = if c = 1 then f else f + 5 := ⟨_, rfl⟩
    have HF2 := hide hf2
    rw [← hf2] at HROW
    clear hf2
    have HG : Hid (Grows fun W => Below w.heap.size w W) := fun W W' h1 h2 => h1.trans (h2.mono h1.size)
    obtain ⟨M, hM⟩ : ∃ M : Lg, M = catG (l.map SHP.lang) := ⟨_, rfl⟩
    have HM := hide hM
    rw [List.map_cons]
    have hcat : ∀ u, catG (s.lang :: l.map SHP.lang) u ↔ ∃ j, j ≤ u.length ∧ s.lang (u.take j) ∧ M (u.drop j) := by
      intro u
      rw [hM]
      constructor
      · rintro ⟨x, y, rfl, h1, h2⟩
        exact ⟨x.length, by simp, by rw [List.take_left]; exact h1, by rw [List.drop_left]; exact h2⟩
      · rintro ⟨j, -, h1, h2⟩
        exact ⟨u.take j, u.drop j, (List.take_append_drop j u).symm, h1, h2⟩
    have HC := hide hcat
    clear hcat hM
    go_enter Tryd.func36, Tryd.ntmps36
    go_wp2
    go_loopw [5] (fun i wr => ∃ k : Nat, k ≤ t.size + 1 ∧ i = .int .i64 k ∧ Hid (∀ j, j < k → ¬ (s.lang ((bytesN t).take j) ∧ M ((bytesN t).drop j))) ∧ Hid (Below w.heap.size w wr)) (fun i _ => t.size + 1 - (intOf i).toNat)
    case atStart => exact ⟨0, by omega, rfl, fun j hj => by omega, Below.refl _ _⟩
    case round =>
      obtain ⟨k, hk1, rfl, HN, HW⟩ := hrel
      by_cases hk : k ≤ t.size
      · have hkd : decide ((k : Int) ≤ t.size) = true := by simp; omega
        have hkd2 : decide (k ≤ t.size) = true := by simp [hk]
        obtain ⟨b1, hb1⟩ : ∃ b1, b1 = hB s.lang (t.extract 0 k) := ⟨_, rfl⟩
        have HQ2 : Hid (∀ W, Below w.heap.size w W → Calls Tryd.prog 11 #[ShVal cs, .string (t.extract 0 k)] W fun e w' => e = .returned (.bool b1) ∧ Below W.heap.size W w') := fun W hW => by
          rw [hb1]; exact HH.out s (by simp) _ (by rw [size_take _ _ hk]; exact hk) cs W (HCS.out.keep hW)
        go_wp2
        have hG := HG.out
        have hq1 := HQ1.out
        have hq2 := HQ2.out
        have hlen := HLEN.out
        cases b1
        · have HF : Hid (¬ s.lang ((bytesN t).take k)) := fun h => by rw [← bytesN_take] at h; rw [hB_true h] at hb1; cases hb1
          clear hb1
          refine w_lit (C := fun W => Below w.heap.size w W) (by kernel_rfl) (by kernel_rfl) (HW.out.trans ⟨rfl, rfl, rfl, Nat.le_refl _, fun _ _ => rfl⟩) ?_
          refine w_value (.slice (some ⟨g, f, none⟩) (l.length + 1) c) (by kernel_rfl) (fun w hw => x_move _ _ _ _ _ _ _ _ rfl w) ?_
          simp only [Act.put, List.setIfInBounds_toArray, List.set_cons_succ, List.set_cons_zero]
          refine w_value (.pointer (some ⟨g, f, none⟩)) (by kernel_rfl) (fun w hw => x_idxSh0 _ _ _ _ _ _ _ g f (l.length + 1) c rfl rfl (by omega) w) ?_
          simp only [Act.put, List.setIfInBounds_toArray, List.set_cons_succ, List.set_cons_zero]
          refine w_value (ShVal cs) (by kernel_rfl) (fun w hw => x_loadSh _ _ _ _ _ _ _ g f cs rfl w hlen (hq1 w hw)) ?_
          simp only [Act.put, List.setIfInBounds_toArray, List.set_cons_succ, List.set_cons_zero]
          refine w_value (.string t) (by kernel_rfl) (fun w hw => x_move _ _ _ _ _ _ _ _ rfl w) ?_
          simp only [Act.put, List.setIfInBounds_toArray, List.set_cons_succ, List.set_cons_zero]
          refine w_value (.int .i64 k) (by kernel_rfl) (fun w hw => x_move _ _ _ _ _ _ _ _ rfl w) ?_
          simp only [Act.put, List.setIfInBounds_toArray, List.set_cons_succ, List.set_cons_zero]
          refine w_value (.string (t.extract 0 k)) (by kernel_rfl) (fun w hw => x_strTo _ _ _ _ _ _ _ _ t k rfl rfl hk w) ?_
          simp only [Act.put, List.setIfInBounds_toArray, List.set_cons_succ, List.set_cons_zero]
          refine w_call hG 11 #[ShVal cs, .string (t.extract 0 k)] (.bool false) (by kernel_rfl) (fun w => x_call2 _ _ _ _ _ _ _ _ _ _ _ _ _ rfl rfl rfl (enters_of Tryd.func11 (by kernel_rfl) rfl) w) (fun w hw => hq2 w hw) ?_
          simp only [Act.put, List.setIfInBounds_toArray, List.set_cons_succ, List.set_cons_zero]
          refine w_value (.bool false) (by kernel_rfl) (fun w hw => x_move _ _ _ _ _ _ _ _ rfl w) ?_
          simp only [Act.put, List.setIfInBounds_toArray, List.set_cons_succ, List.set_cons_zero]
          refine w_skip (by kernel_rfl) ?_
          simp only [Act.put, List.setIfInBounds_toArray, List.set_cons_succ, List.set_cons_zero]
          refine w_skip (by kernel_rfl) ?_
          simp only [Act.put, List.setIfInBounds_toArray, List.set_cons_succ, List.set_cons_zero]
          refine w_skip (by kernel_rfl) ?_
          simp only [Act.put, List.setIfInBounds_toArray, List.set_cons_succ, List.set_cons_zero]
          refine w_skip (by kernel_rfl) ?_
          simp only [Act.put, List.setIfInBounds_toArray, List.set_cons_succ, List.set_cons_zero]
          refine w_skip (by kernel_rfl) ?_
          simp only [Act.put, List.setIfInBounds_toArray, List.set_cons_succ, List.set_cons_zero]
          refine w_skip (by kernel_rfl) ?_
          simp only [Act.put, List.setIfInBounds_toArray, List.set_cons_succ, List.set_cons_zero]
          refine w_value (.bool false) (by kernel_rfl) (fun w hw => x_pick _ _ _ _ _ _ _ _ _ false undef (.bool false) rfl rfl rfl w) ?_
          simp only [Act.put, List.setIfInBounds_toArray, List.set_cons_succ, List.set_cons_zero]
          refine w_nil ?_
          intro W hW
          have HWW := hide hW
          clear hW hG hq2 hq1 HQ2 hlen
          go_wp2
          refine ⟨⟨k + 1, by omega, by go_num, ?_, HWW⟩, by simp [intOf]; omega⟩
          intro j hj h
          by_cases hjk : j = k
          · subst hjk; exact HF.out h.1
          · exact HN.out j (by omega) h
        · have HTR : Hid (s.lang ((bytesN t).take k)) := by
            show s.lang _
            rw [← bytesN_take]; exact (hB_iff _ _).1 hb1.symm
          obtain ⟨b2, hb2⟩ : ∃ b2, b2 = hB M (t.extract k t.size) := ⟨_, rfl⟩
          have hq3 : ∀ W, Below w.heap.size w W → Calls Tryd.prog 36 #[.slice (some ⟨g, f2, none⟩) l.length (c - 1), .string (t.extract k t.size)] W fun e w' => e = .returned (.bool b2) ∧ Below W.heap.size W w' := fun W hW => by
            have hz := size_drop t k
            rw [hb2, HM.out]
            exact HIH.out _ _ W (by omega) (HROW.out.keep hW) fun x hx t' ht' => HH.out x (by simp [hx]) t' (by omega)
          cases b2
          · have HF : Hid (¬ M ((bytesN t).drop k)) := fun h => by rw [← bytesN_drop] at h; rw [hB_true h] at hb2; cases hb2
            clear hb1 hb2
            refine w_lit (C := fun W => Below w.heap.size w W) (by kernel_rfl) (by kernel_rfl) (HW.out.trans ⟨rfl, rfl, rfl, Nat.le_refl _, fun _ _ => rfl⟩) ?_
            refine w_value (.slice (some ⟨g, f, none⟩) (l.length + 1) c) (by kernel_rfl) (fun w hw => x_move _ _ _ _ _ _ _ _ rfl w) ?_
            simp only [Act.put, List.setIfInBounds_toArray, List.set_cons_succ, List.set_cons_zero]
            refine w_value (.pointer (some ⟨g, f, none⟩)) (by kernel_rfl) (fun w hw => x_idxSh0 _ _ _ _ _ _ _ g f (l.length + 1) c rfl rfl (by omega) w) ?_
            simp only [Act.put, List.setIfInBounds_toArray, List.set_cons_succ, List.set_cons_zero]
            refine w_value (ShVal cs) (by kernel_rfl) (fun w hw => x_loadSh _ _ _ _ _ _ _ g f cs rfl w hlen (hq1 w hw)) ?_
            simp only [Act.put, List.setIfInBounds_toArray, List.set_cons_succ, List.set_cons_zero]
            refine w_value (.string t) (by kernel_rfl) (fun w hw => x_move _ _ _ _ _ _ _ _ rfl w) ?_
            simp only [Act.put, List.setIfInBounds_toArray, List.set_cons_succ, List.set_cons_zero]
            refine w_value (.int .i64 k) (by kernel_rfl) (fun w hw => x_move _ _ _ _ _ _ _ _ rfl w) ?_
            simp only [Act.put, List.setIfInBounds_toArray, List.set_cons_succ, List.set_cons_zero]
            refine w_value (.string (t.extract 0 k)) (by kernel_rfl) (fun w hw => x_strTo _ _ _ _ _ _ _ _ t k rfl rfl hk w) ?_
            simp only [Act.put, List.setIfInBounds_toArray, List.set_cons_succ, List.set_cons_zero]
            refine w_call hG 11 #[ShVal cs, .string (t.extract 0 k)] (.bool true) (by kernel_rfl) (fun w => x_call2 _ _ _ _ _ _ _ _ _ _ _ _ _ rfl rfl rfl (enters_of Tryd.func11 (by kernel_rfl) rfl) w) (fun w hw => hq2 w hw) ?_
            simp only [Act.put, List.setIfInBounds_toArray, List.set_cons_succ, List.set_cons_zero]
            refine w_value (.bool true) (by kernel_rfl) (fun w hw => x_move _ _ _ _ _ _ _ _ rfl w) ?_
            simp only [Act.put, List.setIfInBounds_toArray, List.set_cons_succ, List.set_cons_zero]
            refine w_value (.slice (some ⟨g, f, none⟩) (l.length + 1) c) (by kernel_rfl) (fun w hw => x_move _ _ _ _ _ _ _ _ rfl w) ?_
            simp only [Act.put, List.setIfInBounds_toArray, List.set_cons_succ, List.set_cons_zero]
            refine w_value (.slice (some ⟨g, f2, none⟩) l.length (c - 1)) (by kernel_rfl) (fun w hw => x_sliceOneSh _ _ _ _ _ _ _ g f l.length c f2 HF2.out rfl rfl w) ?_
            simp only [Act.put, List.setIfInBounds_toArray, List.set_cons_succ, List.set_cons_zero]
            refine w_value (.string t) (by kernel_rfl) (fun w hw => x_move _ _ _ _ _ _ _ _ rfl w) ?_
            simp only [Act.put, List.setIfInBounds_toArray, List.set_cons_succ, List.set_cons_zero]
            refine w_value (.int .i64 k) (by kernel_rfl) (fun w hw => x_move _ _ _ _ _ _ _ _ rfl w) ?_
            simp only [Act.put, List.setIfInBounds_toArray, List.set_cons_succ, List.set_cons_zero]
            refine w_value (.string (t.extract k t.size)) (by kernel_rfl) (fun w hw => x_strFrom _ _ _ _ _ _ _ _ t k rfl rfl hk w) ?_
            simp only [Act.put, List.setIfInBounds_toArray, List.set_cons_succ, List.set_cons_zero]
            refine w_call hG 36 #[.slice (some ⟨g, f2, none⟩) l.length (c - 1), .string (t.extract k t.size)] (.bool false) (by kernel_rfl) (fun w => x_call2 _ _ _ _ _ _ _ _ _ _ _ _ _ rfl rfl rfl (enters_of Tryd.func36 (by kernel_rfl) rfl) w) (fun w hw => hq3 w hw) ?_
            simp only [Act.put, List.setIfInBounds_toArray, List.set_cons_succ, List.set_cons_zero]
            refine w_value (.bool false) (by kernel_rfl) (fun w hw => x_pick _ _ _ _ _ _ _ _ _ true (.bool false) (.bool false) rfl rfl rfl w) ?_
            simp only [Act.put, List.setIfInBounds_toArray, List.set_cons_succ, List.set_cons_zero]
            refine w_nil ?_
            intro W hW
            have HWW := hide hW
            clear hW hG hq2 hq3 hq1 HQ2 hlen
            go_wp2
            refine ⟨⟨k + 1, by omega, by go_num, ?_, HWW⟩, by simp [intOf]; omega⟩
            intro j hj h
            by_cases hjk : j = k
            · subst hjk; exact HF.out h.2
            · exact HN.out j (by omega) h
          · have HKY : Hid (hB (catG (s.lang :: l.map SHP.lang)) t = true) := hB_true ((HC.out (bytesN t)).2 ⟨k, by rw [bytesN_length]; exact hk, HTR.out, by rw [← bytesN_drop]; exact (hB_iff _ _).1 hb2.symm⟩)
            clear hb1 hb2
            refine w_lit (C := fun W => Below w.heap.size w W) (by kernel_rfl) (by kernel_rfl) (HW.out.trans ⟨rfl, rfl, rfl, Nat.le_refl _, fun _ _ => rfl⟩) ?_
            refine w_value (.slice (some ⟨g, f, none⟩) (l.length + 1) c) (by kernel_rfl) (fun w hw => x_move _ _ _ _ _ _ _ _ rfl w) ?_
            simp only [Act.put, List.setIfInBounds_toArray, List.set_cons_succ, List.set_cons_zero]
            refine w_value (.pointer (some ⟨g, f, none⟩)) (by kernel_rfl) (fun w hw => x_idxSh0 _ _ _ _ _ _ _ g f (l.length + 1) c rfl rfl (by omega) w) ?_
            simp only [Act.put, List.setIfInBounds_toArray, List.set_cons_succ, List.set_cons_zero]
            refine w_value (ShVal cs) (by kernel_rfl) (fun w hw => x_loadSh _ _ _ _ _ _ _ g f cs rfl w hlen (hq1 w hw)) ?_
            simp only [Act.put, List.setIfInBounds_toArray, List.set_cons_succ, List.set_cons_zero]
            refine w_value (.string t) (by kernel_rfl) (fun w hw => x_move _ _ _ _ _ _ _ _ rfl w) ?_
            simp only [Act.put, List.setIfInBounds_toArray, List.set_cons_succ, List.set_cons_zero]
            refine w_value (.int .i64 k) (by kernel_rfl) (fun w hw => x_move _ _ _ _ _ _ _ _ rfl w) ?_
            simp only [Act.put, List.setIfInBounds_toArray, List.set_cons_succ, List.set_cons_zero]
            refine w_value (.string (t.extract 0 k)) (by kernel_rfl) (fun w hw => x_strTo _ _ _ _ _ _ _ _ t k rfl rfl hk w) ?_
            simp only [Act.put, List.setIfInBounds_toArray, List.set_cons_succ, List.set_cons_zero]
            refine w_call hG 11 #[ShVal cs, .string (t.extract 0 k)] (.bool true) (by kernel_rfl) (fun w => x_call2 _ _ _ _ _ _ _ _ _ _ _ _ _ rfl rfl rfl (enters_of Tryd.func11 (by kernel_rfl) rfl) w) (fun w hw => hq2 w hw) ?_
            simp only [Act.put, List.setIfInBounds_toArray, List.set_cons_succ, List.set_cons_zero]
            refine w_value (.bool true) (by kernel_rfl) (fun w hw => x_move _ _ _ _ _ _ _ _ rfl w) ?_
            simp only [Act.put, List.setIfInBounds_toArray, List.set_cons_succ, List.set_cons_zero]
            refine w_value (.slice (some ⟨g, f, none⟩) (l.length + 1) c) (by kernel_rfl) (fun w hw => x_move _ _ _ _ _ _ _ _ rfl w) ?_
            simp only [Act.put, List.setIfInBounds_toArray, List.set_cons_succ, List.set_cons_zero]
            refine w_value (.slice (some ⟨g, f2, none⟩) l.length (c - 1)) (by kernel_rfl) (fun w hw => x_sliceOneSh _ _ _ _ _ _ _ g f l.length c f2 HF2.out rfl rfl w) ?_
            simp only [Act.put, List.setIfInBounds_toArray, List.set_cons_succ, List.set_cons_zero]
            refine w_value (.string t) (by kernel_rfl) (fun w hw => x_move _ _ _ _ _ _ _ _ rfl w) ?_
            simp only [Act.put, List.setIfInBounds_toArray, List.set_cons_succ, List.set_cons_zero]
            refine w_value (.int .i64 k) (by kernel_rfl) (fun w hw => x_move _ _ _ _ _ _ _ _ rfl w) ?_
            simp only [Act.put, List.setIfInBounds_toArray, List.set_cons_succ, List.set_cons_zero]
            refine w_value (.string (t.extract k t.size)) (by kernel_rfl) (fun w hw => x_strFrom _ _ _ _ _ _ _ _ t k rfl rfl hk w) ?_
            simp only [Act.put, List.setIfInBounds_toArray, List.set_cons_succ, List.set_cons_zero]
            refine w_call hG 36 #[.slice (some ⟨g, f2, none⟩) l.length (c - 1), .string (t.extract k t.size)] (.bool true) (by kernel_rfl) (fun w => x_call2 _ _ _ _ _ _ _ _ _ _ _ _ _ rfl rfl rfl (enters_of Tryd.func36 (by kernel_rfl) rfl) w) (fun w hw => hq3 w hw) ?_
            simp only [Act.put, List.setIfInBounds_toArray, List.set_cons_succ, List.set_cons_zero]
            refine w_value (.bool true) (by kernel_rfl) (fun w hw => x_pick _ _ _ _ _ _ _ _ _ true (.bool true) (.bool false) rfl rfl rfl w) ?_
            simp only [Act.put, List.setIfInBounds_toArray, List.set_cons_succ, List.set_cons_zero]
            refine w_nil ?_
            intro W hW
            have HWW := hide hW
            clear hW hG hq2 hq3 hq1 HQ2 hlen
            go_wp2
            go_ret
            refine ⟨?_, HWW.out⟩
            rw [HKY.out]; rfl
      · have hkd : decide ((k : Int) ≤ t.size) = false := by simp; omega
        have hkd2 : decide (k ≤ t.size) = false := by simp; omega
        have HKY : Hid (hB (catG (s.lang :: l.map SHP.lang)) t = false) := hB_false fun h => by
          obtain ⟨j, hj, h1, h2⟩ := (HC.out (bytesN t)).1 h
          rw [bytesN_length] at hj
          exact HN.out j (by omega) ⟨h1, h2⟩
        go_wp2
        go_ret
        refine ⟨?_, HW.out⟩
        rw [HKY.out]; rfl
end Go.Proofs.YtkjmjppmpcnejaaDoor
/- In: a text is one of a shape's, by the page. -/
namespace Go.Proofs.YtkjmjppmpcnejaaDoor
set_option maxRecDepth 100000
set_option linter.unusedSimpArgs false
set_option linter.unusedVariables false
open Go.RowKit

def inC (s : SHP) (a : Option Addr) (c : Nat) : Array Value := #[.int .i64 s.op, .int .u8 s.lo, .int .u8 s.hi, .string s.text, .slice a s.kids.length c]
structure OneS (w : World) (B : Nat) (s : SHP) (a : Option Addr) (c : Nat) (W : World) : Prop where
  below : Below B w W
  x : Blk W B (inC s a c) 24
theorem OneS.step {w : World} {B : Nat} {s : SHP} {a : Option Addr} {c : Nat} {W W' : World} (h : OneS w B s a c W) (hb : Below W.heap.size W W') : OneS w B s a c W' :=
  ⟨h.below.trans (hb.mono (by have := h.x.lt; omega)), h.x.below hb h.x.lt⟩

theorem bytesN_inj {a b : ByteArray} (h : bytesN a = bytesN b) : a = b := by
  unfold bytesN at h
  cases a with | mk a => cases b with | mk b =>
  congr 1
  apply Array.toList_inj.1
  have hi : Function.Injective UInt8.toNat := fun x y e => UInt8.toNat_inj.1 e
  exact List.map_inj_right (fun x y e => UInt8.toNat_inj.1 e) |>.1 h


theorem sl0 {o : Int} {l u : Nat} {tx : ByteArray} {ks : List SHP} (h : (SHP.mk o l u tx ks).k = 0) (t : List Nat) : ¬ (SHP.mk o l u tx ks).lang t := by
  rw [SHP.lang_mk, h]; exact id
theorem sl1 {o : Int} {l u : Nat} {tx : ByteArray} {ks : List SHP} (h : (SHP.mk o l u tx ks).k = 1) (t : List Nat) : (SHP.mk o l u tx ks).lang t ↔ t = [] := by
  rw [SHP.lang_mk, h]; exact Iff.rfl
theorem sl2 {o : Int} {l u : Nat} {tx : ByteArray} {ks : List SHP} (h : (SHP.mk o l u tx ks).k = 2) (t : List Nat) : (SHP.mk o l u tx ks).lang t ↔ ∃ x, t = [x] ∧ 97 + l % 4 ≤ x ∧ x ≤ 97 + u % 4 := by
  rw [SHP.lang_mk, h]; exact Iff.rfl
theorem sl3 {o : Int} {l u : Nat} {tx : ByteArray} {ks : List SHP} (h : (SHP.mk o l u tx ks).k = 3) (t : List Nat) : (SHP.mk o l u tx ks).lang t ↔ catG (ks.map SHP.lang) t := by
  rw [SHP.lang_mk, h]; exact Iff.rfl
theorem sl4 {o : Int} {l u : Nat} {tx : ByteArray} {ks : List SHP} (h : (SHP.mk o l u tx ks).k = 4) (t : List Nat) : (SHP.mk o l u tx ks).lang t ↔ ∃ k ∈ ks, k.lang t := by
  rw [SHP.lang_mk, h]
  show (∃ m ∈ ks.map SHP.lang, m t) ↔ _
  constructor
  · rintro ⟨m, hm, h⟩
    obtain ⟨k, hk, rfl⟩ := List.mem_map.1 hm
    exact ⟨k, hk, h⟩
  · rintro ⟨k, hk, h⟩
    exact ⟨_, List.mem_map.2 ⟨k, hk, rfl⟩, h⟩
theorem sl5 {o : Int} {l u : Nat} {tx : ByteArray} {ks : List SHP} (h : (SHP.mk o l u tx ks).k = 5) (t : List Nat) : (SHP.mk o l u tx ks).lang t ↔ t = [] ∨ ∃ m, (ks.map SHP.lang)[0]? = some m ∧ starG m t := by
  rw [SHP.lang_mk, h]; exact Iff.rfl
theorem sl6 {o : Int} {l u : Nat} {tx : ByteArray} {ks : List SHP} (h : (SHP.mk o l u tx ks).k = 6) (t : List Nat) : (SHP.mk o l u tx ks).lang t ↔ ∀ k ∈ ks, k.lang t := by
  rw [SHP.lang_mk, h]
  show (∀ m ∈ ks.map SHP.lang, m t) ↔ _
  simp
theorem sl7 {o : Int} {l u : Nat} {tx : ByteArray} {ks : List SHP} (h : (SHP.mk o l u tx ks).k = 7) (t : List Nat) : (SHP.mk o l u tx ks).lang t ↔ (∃ m, (ks.map SHP.lang)[0]? = some m ∧ m t) ∧ ¬ ∃ m, (ks.map SHP.lang)[1]? = some m ∧ m t := by
  rw [SHP.lang_mk, h]; exact Iff.rfl
theorem sl8 {o : Int} {l u : Nat} {tx : ByteArray} {ks : List SHP} (h : (SHP.mk o l u tx ks).k = 8) (t : List Nat) : (SHP.mk o l u tx ks).lang t ↔ t = bytesN tx := by
  rw [SHP.lang_mk, h]; exact Iff.rfl
theorem sl5_cons {o : Int} {l u : Nat} {tx : ByteArray} {s : SHP} {ks : List SHP} (h : (SHP.mk o l u tx (s :: ks)).k = 5) (t : List Nat) : (SHP.mk o l u tx (s :: ks)).lang t ↔ starG s.lang t := by
  rw [sl5 h]
  constructor
  · rintro (rfl | ⟨m, e, h⟩)
    · exact .nil
    · have e : some s.lang = some m := e
      injection e with e; rw [e]; exact h
  · intro h; exact .inr ⟨_, rfl, h⟩
set_option maxHeartbeats 1000000 in
theorem in0 (o : Int) (l u : Nat) (tx : ByteArray) (ks : List SHP) (t : ByteArray) (hK : (SHP.mk o l u tx ks).k = 0) : InAt (.mk o l u tx ks) t := by
  intro cs w h
  have HS := hide h
  obtain ⟨v, rfl, hrow, ho, hlo, hhi, htx⟩ := h.open
  obtain ⟨hn, a, cap, rfl, -⟩ := hrow.at
  have HROW := hide hrow
  obtain ⟨B, hB0⟩ : ∃ B, B = w.heap.size := ⟨_, rfl⟩
  have h1 : OneS w B (SHP.mk o l u tx ks) a cap (w.alloc (.cells #[.int .i64 o, .int .u8 l, .int .u8 u, .string tx, .slice a ks.length cap] 24)) := ⟨(Below.refl _ _).alloc (Nat.le_of_eq hB0) _, Blk.newAt hB0 _ _⟩
  have hop := op_any _ _ _ (h.keep (hB0 ▸ h1.below))
  rw [hK] at hop
  have HOP := hide hop
  have HB0 := hide hB0
  have H0 := hide h1
  clear hop h hrow h1
  simp only [SHP.op, SHP.lo, SHP.hi, SHP.text, SHP.kids] at hn ho hlo hhi htx HROW HOP ⊢
  unfold ShVal at HOP ⊢
  go_enter Tryd.func11, Tryd.ntmps11
  go_wp2_with fail
  rw [← hB0]
  refine HOP.out.mono ?_
  rintro e w1 ⟨rfl, hb1⟩
  have H1 := hide (H0.out.step hb1)
  clear hb1 HOP H0 hB0
  have HR : Hid (hB (SHP.mk o l u tx ks).lang t = false) := hB_false (sl0 hK _)
  go_wp2
  go_ret
  refine ⟨?_, HB0.out ▸ H1.out.below⟩
  rw [HR.out]; rfl
set_option maxHeartbeats 1000000 in
theorem in1 (o : Int) (l u : Nat) (tx : ByteArray) (ks : List SHP) (t : ByteArray) (hK : (SHP.mk o l u tx ks).k = 1) : InAt (.mk o l u tx ks) t := by
  intro cs w h
  have HS := hide h
  obtain ⟨v, rfl, hrow, ho, hlo, hhi, htx⟩ := h.open
  obtain ⟨hn, a, cap, rfl, -⟩ := hrow.at
  have HROW := hide hrow
  obtain ⟨B, hB0⟩ : ∃ B, B = w.heap.size := ⟨_, rfl⟩
  have h1 : OneS w B (SHP.mk o l u tx ks) a cap (w.alloc (.cells #[.int .i64 o, .int .u8 l, .int .u8 u, .string tx, .slice a ks.length cap] 24)) := ⟨(Below.refl _ _).alloc (Nat.le_of_eq hB0) _, Blk.newAt hB0 _ _⟩
  have hop := op_any _ _ _ (h.keep (hB0 ▸ h1.below))
  rw [hK] at hop
  have HOP := hide hop
  have HB0 := hide hB0
  have H0 := hide h1
  clear hop h hrow h1
  simp only [SHP.op, SHP.lo, SHP.hi, SHP.text, SHP.kids] at hn ho hlo hhi htx HROW HOP ⊢
  unfold ShVal at HOP ⊢
  go_enter Tryd.func11, Tryd.ntmps11
  go_wp2_with fail
  rw [← hB0]
  refine HOP.out.mono ?_
  rintro e w1 ⟨rfl, hb1⟩
  have H1 := hide (H0.out.step hb1)
  clear hb1 HOP H0 hB0
  have HR : Hid (hB (SHP.mk o l u tx ks).lang t = t.toList.isEmpty) := by rw [← hB_nil]; exact hB_eq (sl1 hK _)
  go_wp2
  go_ret
  refine ⟨?_, HB0.out ▸ H1.out.below⟩
  rw [HR.out]; rfl
set_option maxHeartbeats 1000000 in
theorem in8 (o : Int) (l u : Nat) (tx : ByteArray) (ks : List SHP) (t : ByteArray) (hK : (SHP.mk o l u tx ks).k = 8) : InAt (.mk o l u tx ks) t := by
  intro cs w h
  have HS := hide h
  obtain ⟨v, rfl, hrow, ho, hlo, hhi, htx⟩ := h.open
  obtain ⟨hn, a, cap, rfl, -⟩ := hrow.at
  have HROW := hide hrow
  obtain ⟨B, hB0⟩ : ∃ B, B = w.heap.size := ⟨_, rfl⟩
  have h1 : OneS w B (SHP.mk o l u tx ks) a cap (w.alloc (.cells #[.int .i64 o, .int .u8 l, .int .u8 u, .string tx, .slice a ks.length cap] 24)) := ⟨(Below.refl _ _).alloc (Nat.le_of_eq hB0) _, Blk.newAt hB0 _ _⟩
  have hop := op_any _ _ _ (h.keep (hB0 ▸ h1.below))
  rw [hK] at hop
  have HOP := hide hop
  have HB0 := hide hB0
  have H0 := hide h1
  clear hop h hrow h1
  simp only [SHP.op, SHP.lo, SHP.hi, SHP.text, SHP.kids] at hn ho hlo hhi htx HROW HOP ⊢
  unfold ShVal at HOP ⊢
  go_enter Tryd.func11, Tryd.ntmps11
  go_wp2_with fail
  rw [← hB0]
  refine HOP.out.mono ?_
  rintro e w1 ⟨rfl, hb1⟩
  have H1 := hide (H0.out.step hb1)
  clear hb1 HOP H0 hB0
  have hx := H1.out.x
  have x0 := hx.cell 0; have x1 := hx.cell 1; have x2 := hx.cell 2; have x3 := hx.cell 3; have x4 := hx.cell 4
  simp only [inC, SHP.op, SHP.lo, SHP.hi, SHP.text, SHP.kids, List.getElem?_toArray, List.getElem?_cons_zero, List.getElem?_cons_succ] at x0 x1 x2 x3 x4
  clear hx
  have HR : Hid (hB (SHP.mk o l u tx ks).lang t = (t.toList == tx.toList)) := by
    show _ = _
    by_cases h : t = tx
    · subst h
      rw [hB_true ((sl8 hK _).2 rfl)]; simp
    · rw [hB_false fun h' => h (bytesN_inj ((sl8 hK _).1 h'))]
      refine (beq_eq_false_iff_ne.2 fun e => h ?_).symm
      rw [ByteArray.toList_eq, ByteArray.toList_eq] at e
      exact Go.WideShapes.bytes_inj e
  go_wp2
  go_ret
  refine ⟨?_, HB0.out ▸ H1.out.below⟩
  rw [HR.out]; rfl
set_option maxHeartbeats 1000000 in
theorem in2 (o : Int) (l u : Nat) (tx : ByteArray) (ks : List SHP) (t : ByteArray) (hK : (SHP.mk o l u tx ks).k = 2) : InAt (.mk o l u tx ks) t := by
  intro cs w h
  have HS := hide h
  obtain ⟨v, rfl, hrow, ho, hlo, hhi, htx⟩ := h.open
  obtain ⟨hn, a, cap, rfl, -⟩ := hrow.at
  have HROW := hide hrow
  obtain ⟨B, hB0⟩ : ∃ B, B = w.heap.size := ⟨_, rfl⟩
  have h1 : OneS w B (SHP.mk o l u tx ks) a cap (w.alloc (.cells #[.int .i64 o, .int .u8 l, .int .u8 u, .string tx, .slice a ks.length cap] 24)) := ⟨(Below.refl _ _).alloc (Nat.le_of_eq hB0) _, Blk.newAt hB0 _ _⟩
  have hop := op_any _ _ _ (h.keep (hB0 ▸ h1.below))
  rw [hK] at hop
  have HOP := hide hop
  have HB0 := hide hB0
  have H0 := hide h1
  clear hop h hrow h1
  simp only [SHP.op, SHP.lo, SHP.hi, SHP.text, SHP.kids] at hn ho hlo hhi htx HROW HOP ⊢
  unfold ShVal at HOP ⊢
  go_enter Tryd.func11, Tryd.ntmps11
  go_wp2_with fail
  rw [← hB0]
  refine HOP.out.mono ?_
  rintro e w1 ⟨rfl, hb1⟩
  have H1 := hide (H0.out.step hb1)
  clear hb1 HOP H0 hB0
  have hx := H1.out.x
  have x0 := hx.cell 0; have x1 := hx.cell 1; have x2 := hx.cell 2; have x3 := hx.cell 3; have x4 := hx.cell 4
  simp only [inC, SHP.op, SHP.lo, SHP.hi, SHP.text, SHP.kids, List.getElem?_toArray, List.getElem?_cons_zero, List.getElem?_cons_succ] at x0 x1 x2 x3 x4
  clear hx
  have HLO := hide (low_any (.mk o l u tx ks) _ w1 (HS.out.keep (HB0.out ▸ H1.out.below)))
  simp only [SHP.lo, SHP.hi] at HLO
  unfold ShVal at HLO
  obtain ⟨A, hA⟩ : ∃ A : Nat, A = 97 + l % 4 := ⟨_, rfl⟩
  obtain ⟨Z, hZ⟩ : ∃ Z : Nat, Z = 97 + u % 4 := ⟨_, rfl⟩
  have HL : Hid (∀ t, (SHP.mk o l u tx ks).lang t ↔ ∃ x, t = [x] ∧ A ≤ x ∧ x ≤ Z) := fun t => by rw [hA, hZ]; exact sl2 hK t
  rw [← hA, ← hZ] at HLO
  clear hA hZ
  go_wp2_with fail
  refine HLO.out.mono ?_
  rintro e w2 ⟨rfl, hb2⟩
  have H2 := hide (H1.out.step hb2)
  clear hb2 HLO H1 x0 x1 x2 x3 x4
  by_cases h1 : t.size = 1
  · obtain ⟨x, rfl⟩ : ∃ x, t = ⟨#[x]⟩ := by
      cases t with
      | mk d =>
        have : d.size = 1 := h1
        obtain ⟨x, hx⟩ := Array.size_eq_one_iff.1 this
        exact ⟨x, by rw [hx]⟩
    clear h1
    have HR : Hid (hB (SHP.mk o l u tx ks).lang ⟨#[x]⟩ = (decide (A ≤ x.toNat) && decide (x.toNat ≤ Z))) := by
      show _ = _
      by_cases h1 : A ≤ x.toNat ∧ x.toNat ≤ Z
      · rw [hB_true ((HL.out _).2 ⟨x.toNat, rfl, h1.1, h1.2⟩)]; simp [h1.1, h1.2]
      · rw [hB_false fun h' => h1 (by
          obtain ⟨y, e, h2⟩ := (HL.out _).1 h'
          have e : [x.toNat] = [y] := e
          have : x.toNat = y := by simpa using e
          rw [this]; exact h2)]
        simp; omega
    have hs1 : (ByteArray.mk #[x]).size = 1 := rfl
    have hg0 : (ByteArray.mk #[x])[0] = x := rfl
    by_cases h1 : A ≤ x.toNat
    · have d1 : decide (A ≤ x.toNat) = true := by simp [h1]
      have d2 : decide ((A : Int) ≤ (x.toNat : Int)) = true := by simp; omega
      by_cases h2 : x.toNat ≤ Z
      · have d3 : decide (x.toNat ≤ Z) = true := by simp [h2]
        have d4 : decide ((x.toNat : Int) ≤ (Z : Int)) = true := by simp; omega
        go_wp2
        go_ret
        refine ⟨?_, HB0.out ▸ H2.out.below⟩
        rw [HR.out]; simp [h1, h2]
      · have d3 : decide (x.toNat ≤ Z) = false := by simp; omega
        have d4 : decide ((x.toNat : Int) ≤ (Z : Int)) = false := by simp; omega
        go_wp2
        go_ret
        refine ⟨?_, HB0.out ▸ H2.out.below⟩
        rw [HR.out]; simp [h1, h2]
    · have d1 : decide (A ≤ x.toNat) = false := by simp; omega
      have d2 : decide ((A : Int) ≤ (x.toNat : Int)) = false := by simp; omega
      go_wp2
      go_ret
      refine ⟨?_, HB0.out ▸ H2.out.below⟩
      rw [HR.out]; simp [h1]
  · have hne : ((t.size : Int) == 1) = false := beq_eq_false_iff_ne.2 (by omega)
    have HR : Hid (hB (SHP.mk o l u tx ks).lang t = false) := hB_false fun h' => by
      obtain ⟨y, e, hy⟩ := (HL.out _).1 h'
      have := bytesN_length t
      rw [e] at this
      simp at this; omega
    go_wp2
    go_ret
    refine ⟨?_, HB0.out ▸ H2.out.below⟩
    rw [HR.out]; rfl
set_option maxHeartbeats 1000000 in
theorem in3 (o : Int) (l u : Nat) (tx : ByteArray) (ks : List SHP) (t : ByteArray) (hK : (SHP.mk o l u tx ks).k = 3) (ht : t.size ≤ 1000) (ih : ∀ k ∈ ks, ∀ t', t'.size ≤ t.size → InAt k t') : InAt (.mk o l u tx ks) t := by
  intro cs w h
  have HS := hide h
  obtain ⟨v, rfl, hrow, ho, hlo, hhi, htx⟩ := h.open
  obtain ⟨hn, a, cap, rfl, -⟩ := hrow.at
  have HROW := hide hrow
  obtain ⟨B, hB0⟩ : ∃ B, B = w.heap.size := ⟨_, rfl⟩
  have h1 : OneS w B (SHP.mk o l u tx ks) a cap (w.alloc (.cells #[.int .i64 o, .int .u8 l, .int .u8 u, .string tx, .slice a ks.length cap] 24)) := ⟨(Below.refl _ _).alloc (Nat.le_of_eq hB0) _, Blk.newAt hB0 _ _⟩
  have hop := op_any _ _ _ (h.keep (hB0 ▸ h1.below))
  rw [hK] at hop
  have HOP := hide hop
  have HB0 := hide hB0
  have H0 := hide h1
  clear hop h hrow h1
  simp only [SHP.op, SHP.lo, SHP.hi, SHP.text, SHP.kids] at hn ho hlo hhi htx HROW HOP ⊢
  unfold ShVal at HOP ⊢
  go_enter Tryd.func11, Tryd.ntmps11
  go_wp2_with fail
  rw [← hB0]
  refine HOP.out.mono ?_
  rintro e w1 ⟨rfl, hb1⟩
  have H1 := hide (H0.out.step hb1)
  clear hb1 HOP H0 hB0
  have hx := H1.out.x
  have x0 := hx.cell 0; have x1 := hx.cell 1; have x2 := hx.cell 2; have x3 := hx.cell 3; have x4 := hx.cell 4
  simp only [inC, SHP.op, SHP.lo, SHP.hi, SHP.text, SHP.kids, List.getElem?_toArray, List.getElem?_cons_zero, List.getElem?_cons_succ] at x0 x1 x2 x3 x4
  clear hx
  have hc := catSh_any ks _ t w1 ht (HROW.out.keep (HB0.out ▸ H1.out.below)) ih
  have HR : Hid (hB (SHP.mk o l u tx ks).lang t = hB (catG (ks.map SHP.lang)) t) := hB_eq (sl3 hK (bytesN t))
  obtain ⟨q, hq⟩ : ∃ q, q = hB (catG (ks.map SHP.lang)) t := ⟨_, rfl⟩
  rw [← hq] at hc HR
  have HC := hide hc
  clear ih hc hq
  go_wp2_with fail
  refine HC.out.mono ?_
  rintro e w2 ⟨rfl, hb2⟩
  have H2 := hide (H1.out.step hb2)
  clear hb2 HC H1 x0 x1 x2 x3 x4
  go_wp2
  go_ret
  refine ⟨?_, HB0.out ▸ H2.out.below⟩
  rw [HR.out]; rfl
set_option maxHeartbeats 1000000 in
theorem in4 (o : Int) (l u : Nat) (tx : ByteArray) (ks : List SHP) (t : ByteArray) (hK : (SHP.mk o l u tx ks).k = 4) (ih : ∀ k ∈ ks, InAt k t) : InAt (.mk o l u tx ks) t := by
  intro cs w h
  have HS := hide h
  obtain ⟨v, rfl, hrow, ho, hlo, hhi, htx⟩ := h.open
  obtain ⟨hn, a, cap, rfl, -⟩ := hrow.at
  have HROW := hide hrow
  obtain ⟨B, hB0⟩ : ∃ B, B = w.heap.size := ⟨_, rfl⟩
  have h1 : OneS w B (SHP.mk o l u tx ks) a cap (w.alloc (.cells #[.int .i64 o, .int .u8 l, .int .u8 u, .string tx, .slice a ks.length cap] 24)) := ⟨(Below.refl _ _).alloc (Nat.le_of_eq hB0) _, Blk.newAt hB0 _ _⟩
  have hop := op_any _ _ _ (h.keep (hB0 ▸ h1.below))
  rw [hK] at hop
  have HOP := hide hop
  have HB0 := hide hB0
  have H0 := hide h1
  clear hop h hrow h1
  simp only [SHP.op, SHP.lo, SHP.hi, SHP.text, SHP.kids] at hn ho hlo hhi htx HROW HOP ⊢
  unfold ShVal at HOP ⊢
  go_enter Tryd.func11, Tryd.ntmps11
  go_wp2_with fail
  rw [← hB0]
  refine HOP.out.mono ?_
  rintro e w1 ⟨rfl, hb1⟩
  have H1 := hide (H0.out.step hb1)
  clear hb1 HOP H0 hB0
  have hx := H1.out.x
  have x0 := hx.cell 0; have x1 := hx.cell 1; have x2 := hx.cell 2; have x3 := hx.cell 3; have x4 := hx.cell 4
  simp only [inC, SHP.op, SHP.lo, SHP.hi, SHP.text, SHP.kids, List.getElem?_toArray, List.getElem?_cons_zero, List.getElem?_cons_succ] at x0 x1 x2 x3 x4
  clear hx
  have HIH := hide ih
  clear ih
  go_wp2
  go_loopw [53] (fun i wr => ∃ k : Nat, k ≤ ks.length ∧ i = .int .i64 k ∧ Hid (∀ x ∈ ks.take k, hB x.lang t = false) ∧ Hid (Below B w wr)) (fun i _ => ks.length - (intOf i).toNat)
  case atStart => exact ⟨0, by omega, rfl, (fun x hx => by simp at hx), H1.out.below⟩
  case round =>
    clear x0 x1 x2 x3 x4 H1
    obtain ⟨k, hk1, rfl, HN, HW⟩ := hrel
    obtain ⟨-, a', cap', e1, g1⟩ := (HROW.out.keep (show Below w.heap.size w wr from HB0.out ▸ HW.out)).at
    obtain ⟨rfl, rfl⟩ : a = a' ∧ cap = cap' := by cases e1; exact ⟨rfl, rfl⟩
    clear e1
    by_cases hlt : k < ks.length
    · have hkd : decide (k < ks.length) = true := by simp [hlt]
      obtain ⟨b, off, kv, rfl, -, ⟨c0, c1, c2, c3, c4⟩, hC⟩ := g1 k hlt
      have HT := hide (show ks.take (k + 1) = ks.take k ++ [ks[k]] from List.take_succ_eq_append_getElem hlt)
      obtain ⟨q, hq⟩ : ∃ q, q = hB (ks[k]).lang t := ⟨_, rfl⟩
      have hrec := HIH.out _ (List.getElem_mem hlt) _ _ (hC.keep ((Below.refl wr.heap.size wr).alloc (Nat.le_refl _) (.cells #[.int .i64 ks[k].op, .int .u8 ks[k].lo, .int .u8 ks[k].hi, .string ks[k].text, kv] 24)))
      rw [← hq] at hrec
      have HM := hide (List.getElem_mem hlt)
      have HQ := hide hq
      have hBW : B ≤ wr.heap.size := by rw [HB0.out]; exact (HB0.out ▸ HW.out).size
      obtain ⟨-, kf, kcap, hkv, -⟩ : True ∧ ∃ a c, kv = .slice a (ks[k]).kids.length c ∧ True := by
        obtain ⟨v', e', hr', -⟩ := hC.open
        obtain ⟨-, a', c', e'', -⟩ := hr'.at
        have : kv = v' := by simpa using e'
        exact ⟨trivial, a', c', this.trans e'', trivial⟩
      have HREC := hide hrec
      subst hkv
      generalize hks : ks[k] = kk at *
      clear hrec hC g1 hq hks
      unfold ShVal at HREC
      go_wp2_with fail
      refine HREC.out.mono ?_
      rintro e w2 ⟨rfl, hb2⟩
      have HB := hide ((HW.out.alloc hBW (.cells #[.int .i64 kk.op, .int .u8 kk.lo, .int .u8 kk.hi, .string kk.text, .slice kf kk.kids.length kcap] 24)).trans (hb2.mono (by simp; omega)))
      clear hb2 HREC c0 c1 c2 c3 c4
      cases q
      · go_wp2
        refine ⟨⟨k + 1, by omega, by go_num, ?_, HB⟩, by simp [intOf]; omega⟩
        intro x hx
        rw [HT.out] at hx
        rcases List.mem_append.1 hx with hx | hx
        · exact HN.out x hx
        · simp at hx; subst hx; exact HQ.out.symm
      · have HKY : Hid (hB (SHP.mk o l u tx ks).lang t = true) := by
          show _ = _
          exact hB_true ((sl4 hK _).2 ⟨kk, HM.out, (hB_iff _ _).1 HQ.out.symm⟩)
        go_wp2
        go_ret
        refine ⟨?_, HB0.out ▸ HB.out⟩
        rw [HKY.out]; rfl
    · obtain rfl : k = ks.length := by omega
      rw [List.take_length] at HN
      have HKY : Hid (hB (SHP.mk o l u tx ks).lang t = false) := by
        show _ = _
        refine hB_false fun h => ?_
        obtain ⟨x, hx, h2⟩ := (sl4 hK _).1 h
        have h3 := hB_true (t := t) h2
        rw [HN.out x hx] at h3; cases h3
      clear g1
      go_wp2
      go_ret
      refine ⟨?_, HB0.out ▸ HW.out⟩
      rw [HKY.out]; rfl
set_option maxHeartbeats 1000000 in
theorem in6 (o : Int) (l u : Nat) (tx : ByteArray) (ks : List SHP) (t : ByteArray) (hK : (SHP.mk o l u tx ks).k = 6) (ih : ∀ k ∈ ks, InAt k t) : InAt (.mk o l u tx ks) t := by
  intro cs w h
  have HS := hide h
  obtain ⟨v, rfl, hrow, ho, hlo, hhi, htx⟩ := h.open
  obtain ⟨hn, a, cap, rfl, -⟩ := hrow.at
  have HROW := hide hrow
  obtain ⟨B, hB0⟩ : ∃ B, B = w.heap.size := ⟨_, rfl⟩
  have h1 : OneS w B (SHP.mk o l u tx ks) a cap (w.alloc (.cells #[.int .i64 o, .int .u8 l, .int .u8 u, .string tx, .slice a ks.length cap] 24)) := ⟨(Below.refl _ _).alloc (Nat.le_of_eq hB0) _, Blk.newAt hB0 _ _⟩
  have hop := op_any _ _ _ (h.keep (hB0 ▸ h1.below))
  rw [hK] at hop
  have HOP := hide hop
  have HB0 := hide hB0
  have H0 := hide h1
  clear hop h hrow h1
  simp only [SHP.op, SHP.lo, SHP.hi, SHP.text, SHP.kids] at hn ho hlo hhi htx HROW HOP ⊢
  unfold ShVal at HOP ⊢
  go_enter Tryd.func11, Tryd.ntmps11
  go_wp2_with fail
  rw [← hB0]
  refine HOP.out.mono ?_
  rintro e w1 ⟨rfl, hb1⟩
  have H1 := hide (H0.out.step hb1)
  clear hb1 HOP H0 hB0
  have hx := H1.out.x
  have x0 := hx.cell 0; have x1 := hx.cell 1; have x2 := hx.cell 2; have x3 := hx.cell 3; have x4 := hx.cell 4
  simp only [inC, SHP.op, SHP.lo, SHP.hi, SHP.text, SHP.kids, List.getElem?_toArray, List.getElem?_cons_zero, List.getElem?_cons_succ] at x0 x1 x2 x3 x4
  clear hx
  have HIH := hide ih
  clear ih
  go_wp2
  go_loopw [95] (fun i wr => ∃ k : Nat, k ≤ ks.length ∧ i = .int .i64 k ∧ Hid (∀ x ∈ ks.take k, hB x.lang t = true) ∧ Hid (Below B w wr)) (fun i _ => ks.length - (intOf i).toNat)
  case atStart => exact ⟨0, by omega, rfl, (fun x hx => by simp at hx), H1.out.below⟩
  case round =>
    clear x0 x1 x2 x3 x4 H1
    obtain ⟨k, hk1, rfl, HN, HW⟩ := hrel
    obtain ⟨-, a', cap', e1, g1⟩ := (HROW.out.keep (show Below w.heap.size w wr from HB0.out ▸ HW.out)).at
    obtain ⟨rfl, rfl⟩ : a = a' ∧ cap = cap' := by cases e1; exact ⟨rfl, rfl⟩
    clear e1
    by_cases hlt : k < ks.length
    · have hkd : decide (k < ks.length) = true := by simp [hlt]
      obtain ⟨b, off, kv, rfl, -, ⟨c0, c1, c2, c3, c4⟩, hC⟩ := g1 k hlt
      have HT := hide (show ks.take (k + 1) = ks.take k ++ [ks[k]] from List.take_succ_eq_append_getElem hlt)
      obtain ⟨q, hq⟩ : ∃ q, q = hB (ks[k]).lang t := ⟨_, rfl⟩
      have hrec := HIH.out _ (List.getElem_mem hlt) _ _ (hC.keep ((Below.refl wr.heap.size wr).alloc (Nat.le_refl _) (.cells #[.int .i64 ks[k].op, .int .u8 ks[k].lo, .int .u8 ks[k].hi, .string ks[k].text, kv] 24)))
      rw [← hq] at hrec
      have HM := hide (List.getElem_mem hlt)
      have HQ := hide hq
      have hBW : B ≤ wr.heap.size := by rw [HB0.out]; exact (HB0.out ▸ HW.out).size
      obtain ⟨-, kf, kcap, hkv, -⟩ : True ∧ ∃ a c, kv = .slice a (ks[k]).kids.length c ∧ True := by
        obtain ⟨v', e', hr', -⟩ := hC.open
        obtain ⟨-, a', c', e'', -⟩ := hr'.at
        have : kv = v' := by simpa using e'
        exact ⟨trivial, a', c', this.trans e'', trivial⟩
      have HREC := hide hrec
      subst hkv
      generalize hks : ks[k] = kk at *
      clear hrec hC g1 hq hks
      unfold ShVal at HREC
      go_wp2_with fail
      refine HREC.out.mono ?_
      rintro e w2 ⟨rfl, hb2⟩
      have HB := hide ((HW.out.alloc hBW (.cells #[.int .i64 kk.op, .int .u8 kk.lo, .int .u8 kk.hi, .string kk.text, .slice kf kk.kids.length kcap] 24)).trans (hb2.mono (by simp; omega)))
      clear hb2 HREC c0 c1 c2 c3 c4
      cases q
      · have HKY : Hid (hB (SHP.mk o l u tx ks).lang t = false) := by
          show _ = _
          refine hB_false fun h => ?_
          have h2 := hB_true (t := t) ((sl6 hK _).1 h kk HM.out)
          rw [← HQ.out] at h2; cases h2
        go_wp2
        go_ret
        refine ⟨?_, HB0.out ▸ HB.out⟩
        rw [HKY.out]; rfl
      · go_wp2
        refine ⟨⟨k + 1, by omega, by go_num, ?_, HB⟩, by simp [intOf]; omega⟩
        intro x hx
        rw [HT.out] at hx
        rcases List.mem_append.1 hx with hx | hx
        · exact HN.out x hx
        · simp at hx; subst hx; exact HQ.out.symm
    · obtain rfl : k = ks.length := by omega
      rw [List.take_length] at HN
      have HKY : Hid (hB (SHP.mk o l u tx ks).lang t = true) := by
        show _ = _
        exact hB_true ((sl6 hK _).2 fun x hx => (hB_iff _ _).1 (HN.out x hx))
      clear g1
      go_wp2
      go_ret
      refine ⟨?_, HB0.out ▸ HW.out⟩
      rw [HKY.out]; rfl
end Go.Proofs.YtkjmjppmpcnejaaDoor
/- In: many, one without another one; the whole call. -/
namespace Go.Proofs.YtkjmjppmpcnejaaDoor
set_option maxRecDepth 100000
set_option linter.unusedSimpArgs false
set_option linter.unusedVariables false
open Go.RowKit

set_option maxHeartbeats 1000000 in
theorem in5_nil (o : Int) (l u : Nat) (tx : ByteArray) (ks : List SHP) (t : ByteArray) (hK : (SHP.mk o l u tx ks).k = 5) (h0 : t.size = 0) : InAt (.mk o l u tx ks) t := by
  intro cs w h
  have HS := hide h
  obtain ⟨v, rfl, hrow, ho, hlo, hhi, htx⟩ := h.open
  obtain ⟨hn, a, cap, rfl, -⟩ := hrow.at
  have HROW := hide hrow
  obtain ⟨B, hB0⟩ : ∃ B, B = w.heap.size := ⟨_, rfl⟩
  have h1 : OneS w B (SHP.mk o l u tx ks) a cap (w.alloc (.cells #[.int .i64 o, .int .u8 l, .int .u8 u, .string tx, .slice a ks.length cap] 24)) := ⟨(Below.refl _ _).alloc (Nat.le_of_eq hB0) _, Blk.newAt hB0 _ _⟩
  have hop := op_any _ _ _ (h.keep (hB0 ▸ h1.below))
  rw [hK] at hop
  have HOP := hide hop
  have HB0 := hide hB0
  have H0 := hide h1
  clear hop h hrow h1
  simp only [SHP.op, SHP.lo, SHP.hi, SHP.text, SHP.kids] at hn ho hlo hhi htx HROW HOP ⊢
  unfold ShVal at HOP ⊢
  go_enter Tryd.func11, Tryd.ntmps11
  go_wp2_with fail
  rw [← hB0]
  refine HOP.out.mono ?_
  rintro e w1 ⟨rfl, hb1⟩
  have H1 := hide (H0.out.step hb1)
  clear hb1 HOP H0 hB0
  have e0 : bytesN t = [] := List.eq_nil_of_length_eq_zero (by rw [bytesN_length]; omega)
  have htl : t.toList.isEmpty = true := by rw [← hB_nil]; exact hB_true e0
  have HR : Hid (hB (SHP.mk o l u tx ks).lang t = true) := hB_true ((sl5 hK _).2 (.inl e0))
  clear e0
  go_wp2
  go_ret
  refine ⟨?_, HB0.out ▸ H1.out.below⟩
  rw [HR.out]; rfl
set_option maxHeartbeats 1000000 in
theorem in5_none (o : Int) (l u : Nat) (tx : ByteArray) (t : ByteArray) (hK : (SHP.mk o l u tx []).k = 5) (h0 : t.size ≠ 0) : InAt (.mk o l u tx []) t := by
  intro cs w h
  have HS := hide h
  obtain ⟨v, rfl, hrow, ho, hlo, hhi, htx⟩ := h.open
  obtain ⟨hn, a, cap, rfl, -⟩ := hrow.at
  have HROW := hide hrow
  obtain ⟨B, hB0⟩ : ∃ B, B = w.heap.size := ⟨_, rfl⟩
  have h1 : OneS w B (SHP.mk o l u tx []) a cap (w.alloc (.cells #[.int .i64 o, .int .u8 l, .int .u8 u, .string tx, .slice a [].length cap] 24)) := ⟨(Below.refl _ _).alloc (Nat.le_of_eq hB0) _, Blk.newAt hB0 _ _⟩
  have hop := op_any _ _ _ (h.keep (hB0 ▸ h1.below))
  rw [hK] at hop
  have HOP := hide hop
  have HB0 := hide hB0
  have H0 := hide h1
  clear hop h hrow h1
  simp only [SHP.op, SHP.lo, SHP.hi, SHP.text, SHP.kids] at hn ho hlo hhi htx HROW HOP ⊢
  unfold ShVal at HOP ⊢
  go_enter Tryd.func11, Tryd.ntmps11
  go_wp2_with fail
  rw [← hB0]
  refine HOP.out.mono ?_
  rintro e w1 ⟨rfl, hb1⟩
  have H1 := hide (H0.out.step hb1)
  clear hb1 HOP H0 hB0
  have hx := H1.out.x
  have x0 := hx.cell 0; have x1 := hx.cell 1; have x2 := hx.cell 2; have x3 := hx.cell 3; have x4 := hx.cell 4
  simp only [inC, SHP.op, SHP.lo, SHP.hi, SHP.text, SHP.kids, List.getElem?_toArray, List.getElem?_cons_zero, List.getElem?_cons_succ] at x0 x1 x2 x3 x4
  clear hx
  have htl : t.toList.isEmpty = false := by
    rw [← hB_nil]
    refine hB_false fun h => h0 ?_
    have h : bytesN t = [] := h
    rw [← bytesN_length, h]; rfl
  have HR : Hid (hB (SHP.mk o l u tx []).lang t = false) := hB_false fun h => by
    rcases (sl5 hK _).1 h with h | ⟨m, e, -⟩
    · exact h0 (by rw [← bytesN_length, h]; rfl)
    · simp at e
  simp only [List.length_nil] at x4
  go_wp2
  go_ret
  refine ⟨?_, HB0.out ▸ H1.out.below⟩
  rw [HR.out]; rfl
set_option maxHeartbeats 2000000 in
theorem in5 (o : Int) (l u : Nat) (tx : ByteArray) (s : SHP) (ks0 : List SHP) (hK : (SHP.mk o l u tx (s :: ks0)).k = 5) (ih : ∀ t, t.size ≤ 1000 → InAt s t) : ∀ (n : Nat) (t : ByteArray), t.size ≤ n → t.size ≤ 1000 → InAt (.mk o l u tx (s :: ks0)) t := by
  intro n
  induction n with
  | zero =>
    intro t hn ht
    exact in5_nil o l u tx _ t hK (by omega)
  | succ n IH =>
    intro t hnn ht
    by_cases h0 : t.size = 0
    · exact in5_nil o l u tx _ t hK h0
    have htl : t.toList.isEmpty = false := by
      rw [← hB_nil]
      refine hB_false fun h => h0 ?_
      have h : bytesN t = [] := h
      rw [← bytesN_length, h]; rfl
    obtain ⟨S, hS⟩ : ∃ S, S = (SHP.mk o l u tx (s :: ks0)) := ⟨_, rfl⟩
    have HL : Hid (∀ j, 1 ≤ j → j ≤ t.size → s.lang ((bytesN t).take j) → S.lang ((bytesN t).drop j) → hB S.lang t = true) := fun j h1 h2 h3 h4 => by
      rw [hS] at h4 ⊢
      exact hB_true ((sl5_cons hK _).2 ((star_split _ _).2 (.inr ⟨j, h1, by rw [bytesN_length]; exact h2, h3, (sl5_cons hK _).1 h4⟩)))
    have HL2 : Hid ((∀ j, 1 ≤ j → j ≤ t.size → ¬ (s.lang ((bytesN t).take j) ∧ S.lang ((bytesN t).drop j))) → hB S.lang t = false) := fun h => hB_false fun h' => by
      rw [hS] at h h'
      rcases (star_split _ _).1 ((sl5_cons hK _).1 h') with h1 | ⟨j, h1, h2, h3, h4⟩
      · exact h0 (by rw [← bytesN_length, h1]; rfl)
      · exact h j h1 (by rw [← bytesN_length]; exact h2) ⟨h3, (sl5_cons hK _).2 h4⟩
    have HIH := hide IH
    rw [← hS] at HIH
    have HI := hide ih
    clear IH ih h0
    intro cs w h
    have HS := hide h
    obtain ⟨v, rfl, hrow, ho, hlo, hhi, htx⟩ := h.open
    obtain ⟨hn, a, cap, rfl, -⟩ := hrow.at
    have HROW := hide hrow
    obtain ⟨B, hB0⟩ : ∃ B, B = w.heap.size := ⟨_, rfl⟩
    have h1 : OneS w B (SHP.mk o l u tx (s :: ks0)) a cap (w.alloc (.cells #[.int .i64 o, .int .u8 l, .int .u8 u, .string tx, .slice a (ks0.length + 1) cap] 24)) := ⟨(Below.refl _ _).alloc (Nat.le_of_eq hB0) _, Blk.newAt hB0 _ _⟩
    have hop := op_any _ _ _ (h.keep (hB0 ▸ h1.below))
    rw [hK] at hop
    have HOP := hide hop
    have HB0 := hide hB0
    have H0 := hide h1
    clear hop h hrow h1
    simp only [SHP.op, SHP.lo, SHP.hi, SHP.text, SHP.kids] at hn ho hlo hhi htx HROW HOP ⊢
    unfold ShVal at HOP ⊢
    go_enter Tryd.func11, Tryd.ntmps11
    go_wp2_with fail
    rw [← hB0]
    refine HOP.out.mono ?_
    rintro e w1 ⟨rfl, hb1⟩
    have H1 := hide (H0.out.step hb1)
    clear hb1 HOP H0 hB0
    have hx := H1.out.x
    have x0 := hx.cell 0; have x1 := hx.cell 1; have x2 := hx.cell 2; have x3 := hx.cell 3; have x4 := hx.cell 4
    simp only [inC, SHP.op, SHP.lo, SHP.hi, SHP.text, SHP.kids, List.getElem?_toArray, List.getElem?_cons_zero, List.getElem?_cons_succ] at x0 x1 x2 x3 x4
    clear hx
    obtain ⟨g, f, c, e1⟩ := HROW.out.first
    obtain ⟨rfl, rfl⟩ : a = some ⟨g, f, none⟩ ∧ cap = c := by cases e1; exact ⟨rfl, rfl⟩
    obtain ⟨⟨cz, hcz, hgl, hcell⟩, -⟩ := HROW.out.uncons
    clear e1
    obtain ⟨N, hN⟩ : ∃ N, N = ks0.length + 1 := ⟨_, rfl⟩
    have hn0 : ((N : Int) == 0) = false := beq_eq_false_iff_ne.2 (by omega)
    have HC1 : Hid (Grows fun W => OneS w B S (some ⟨g, f, none⟩) cap W) := fun W W' h1 h2 => h1.step h2
    have HCD : Hid (∀ W, OneS w B S (some ⟨g, f, none⟩) cap W → OneS w B S (some ⟨g, f, none⟩) cap { W with drawn := W.drawn + 1 }) := fun W h => ⟨⟨h.below.os, h.below.tape, h.below.output, h.below.size, h.below.block⟩, h.x⟩
    obtain ⟨cs, hcs⟩ : ∃ cs : List Value, cs = [.int .i64 o, .int .u8 l, .int .u8 u, .string tx, .slice (some ⟨g, f, none⟩) (ks0.length + 1) cap] := ⟨_, rfl⟩
    have HLEN : Hid (cs.length = 5) := by rw [hcs]; rfl
    have HLENZ := hide hcz.len
    have HQS : Hid (∀ W, OneS w B S (some ⟨g, f, none⟩) cap W → ∀ j u, cs[j]? = some u → W.cell? ⟨B, 0 + j, none⟩ = some u) := fun W hW j u hu => by
      rw [Nat.zero_add, hW.x.cell j]
      rw [hcs] at hu
      rw [hS]
      simpa [inC, SHP.op, SHP.lo, SHP.hi, SHP.text, SHP.kids] using hu
    have HQK : Hid (∀ W, OneS w B S (some ⟨g, f, none⟩) cap W → W.cell? ⟨B, 4, none⟩ = some (.slice (some ⟨g, f, none⟩) N cap)) := fun W hW => by
      rw [hW.x.cell 4, hN, hS]; rfl
    have HQ1 : Hid (∀ W, OneS w B S (some ⟨g, f, none⟩) cap W → ∀ j u, cz[j]? = some u → W.cell? ⟨g, f + j, none⟩ = some u) := fun W hW j u hu => (World.cell?_of_block (w := w) (hW.below.block _ (HB0.out ▸ hgl))).trans (hcell j u hu)
    have HCZ := hide hcz
    have HS : Hid (ShC w cs S) := by rw [hcs, hS]; exact HS.out
    rw [← hS] at H1
    simp only [List.length_cons] at x4
    rw [← hN] at x4
    have HNN := hide hN
    have hNp : 1 ≤ N := by omega
    simp only [List.length_cons] at hn
    have hNl : N ≤ 9223372036854775807 := by omega
    have hSS := hide hS
    clear hcz hcell hgl hcs hN HROW hn ho hlo hhi htx hS hK
    have hG := HC1.out
    clear hG
    go_wp2
    clear x0 x1 x2 x3 x4
    go_loopw [9] (fun i wr => ∃ k : Nat, 1 ≤ k ∧ k ≤ t.size + 1 ∧ i = .int .i64 k ∧ Hid (∀ j, 1 ≤ j → j < k → ¬ (s.lang ((bytesN t).take j) ∧ S.lang ((bytesN t).drop j))) ∧ Hid (OneS w B S (some ⟨g, f, none⟩) cap wr)) (fun i _ => t.size + 1 - (intOf i).toNat)
    case atStart => exact ⟨1, by omega, by omega, rfl, (fun j h1 h2 => by omega), H1⟩
    case round =>
      clear H1
      obtain ⟨k, hk0, hk1, rfl, HN, HW⟩ := hrel
      by_cases hk : k ≤ t.size
      · have hkd : decide ((k : Int) ≤ t.size) = true := by simp; omega
        have hkd2 : decide (k ≤ t.size) = true := by simp [hk]
        obtain ⟨b1, hb1⟩ : ∃ b1, b1 = hB s.lang (t.extract 0 k) := ⟨_, rfl⟩
        have HQ2 : Hid (∀ W, OneS w B S (some ⟨g, f, none⟩) cap W → Calls Tryd.prog 11 #[ShVal cz, .string (t.extract 0 k)] W fun e w' => e = .returned (.bool b1) ∧ Below W.heap.size W w') := fun W hW => by
          rw [hb1]; exact HI.out _ (by rw [size_take _ _ hk]; omega) cz W (HCZ.out.keep (HB0.out ▸ hW.below))
        go_wp2
        have hG := HC1.out
        have hq1 := HQ1.out
        have hq2 := HQ2.out
        have hqk := HQK.out
        have hqS := HQS.out
        have hlen := HLEN.out
        have hlenz := HLENZ.out
        cases b1
        · have HF : Hid (¬ s.lang ((bytesN t).take k)) := fun h => by rw [← bytesN_take] at h; rw [hB_true h] at hb1; cases hb1
          clear hb1
          refine w_lit (C := fun W => OneS w B S (some ⟨g, f, none⟩) cap W) (by kernel_rfl) (by kernel_rfl) (HCD.out _ HW.out) ?_
          refine w_value (.pointer (some ⟨B, 4, none⟩)) (by kernel_rfl) (fun w hw => x_fieldS4 _ _ _ _ _ _ _ B rfl w) ?_
          simp only [Act.put, List.setIfInBounds_toArray, List.set_cons_succ, List.set_cons_zero]
          refine w_value (.slice (some ⟨g, f, none⟩) N cap) (by kernel_rfl) (fun w hw => x_loadSl _ _ _ _ _ _ _ B 4 _ rfl w (hqk w hw)) ?_
          simp only [Act.put, List.setIfInBounds_toArray, List.set_cons_succ, List.set_cons_zero]
          refine w_value (.pointer (some ⟨g, f, none⟩)) (by kernel_rfl) (fun w hw => x_idxSh0 _ _ _ _ _ _ _ g f N cap rfl rfl (by omega) w) ?_
          simp only [Act.put, List.setIfInBounds_toArray, List.set_cons_succ, List.set_cons_zero]
          refine w_value (ShVal cz) (by kernel_rfl) (fun w hw => x_loadSh _ _ _ _ _ _ _ g f cz rfl w hlenz (hq1 w hw)) ?_
          simp only [Act.put, List.setIfInBounds_toArray, List.set_cons_succ, List.set_cons_zero]
          refine w_value (.string t) (by kernel_rfl) (fun w hw => x_move _ _ _ _ _ _ _ _ rfl w) ?_
          simp only [Act.put, List.setIfInBounds_toArray, List.set_cons_succ, List.set_cons_zero]
          refine w_value (.int .i64 k) (by kernel_rfl) (fun w hw => x_move _ _ _ _ _ _ _ _ rfl w) ?_
          simp only [Act.put, List.setIfInBounds_toArray, List.set_cons_succ, List.set_cons_zero]
          refine w_value (.string (t.extract 0 k)) (by kernel_rfl) (fun w hw => x_strTo _ _ _ _ _ _ _ _ t k rfl rfl hk w) ?_
          simp only [Act.put, List.setIfInBounds_toArray, List.set_cons_succ, List.set_cons_zero]
          refine w_call hG 11 #[ShVal cz, .string (t.extract 0 k)] (.bool false) (by kernel_rfl) (fun w => x_call2 _ _ _ _ _ _ _ _ _ _ _ _ _ rfl rfl rfl (enters_of Tryd.func11 (by kernel_rfl) rfl) w) (fun w hw => hq2 w hw) ?_
          simp only [Act.put, List.setIfInBounds_toArray, List.set_cons_succ, List.set_cons_zero]
          refine w_value (.bool false) (by kernel_rfl) (fun w hw => x_move _ _ _ _ _ _ _ _ rfl w) ?_
          simp only [Act.put, List.setIfInBounds_toArray, List.set_cons_succ, List.set_cons_zero]
          refine w_skip (by kernel_rfl) ?_
          simp only [Act.put, List.setIfInBounds_toArray, List.set_cons_succ, List.set_cons_zero]
          refine w_skip (by kernel_rfl) ?_
          simp only [Act.put, List.setIfInBounds_toArray, List.set_cons_succ, List.set_cons_zero]
          refine w_skip (by kernel_rfl) ?_
          simp only [Act.put, List.setIfInBounds_toArray, List.set_cons_succ, List.set_cons_zero]
          refine w_skip (by kernel_rfl) ?_
          simp only [Act.put, List.setIfInBounds_toArray, List.set_cons_succ, List.set_cons_zero]
          refine w_skip (by kernel_rfl) ?_
          simp only [Act.put, List.setIfInBounds_toArray, List.set_cons_succ, List.set_cons_zero]
          refine w_value (.bool false) (by kernel_rfl) (fun w hw => x_pick _ _ _ _ _ _ _ _ _ false undef (.bool false) rfl rfl rfl w) ?_
          simp only [Act.put, List.setIfInBounds_toArray, List.set_cons_succ, List.set_cons_zero]
          refine w_nil ?_
          intro W hW
          have HWW := hide hW
          clear hW hG hq2 hq1 HQ2 hqk hqS hlen hlenz
          go_wp2
          refine ⟨⟨k + 1, by omega, by omega, by go_num, ?_, HWW⟩, by simp [intOf]; omega⟩
          intro j hj1 hj h
          by_cases hjk : j = k
          · subst hjk; exact HF.out h.1
          · exact HN.out j hj1 (by omega) h
        · have HTR : Hid (s.lang ((bytesN t).take k)) := by
            show s.lang _
            rw [← bytesN_take]; exact (hB_iff _ _).1 hb1.symm
          obtain ⟨b2, hb2⟩ : ∃ b2, b2 = hB S.lang (t.extract k t.size) := ⟨_, rfl⟩
          have hq3 : ∀ W, OneS w B S (some ⟨g, f, none⟩) cap W → Calls Tryd.prog 11 #[ShVal cs, .string (t.extract k t.size)] W fun e w' => e = .returned (.bool b2) ∧ Below W.heap.size W w' := fun W hW => by
            have hz := size_drop t k
            rw [hb2]
            exact HIH.out (t.extract k t.size) (by omega) (by omega) cs W (HS.out.keep (HB0.out ▸ hW.below))
          cases b2
          · have HF : Hid (¬ S.lang ((bytesN t).drop k)) := fun h => by rw [← bytesN_drop] at h; rw [hB_true h] at hb2; cases hb2
            clear hb1 hb2
            refine w_lit (C := fun W => OneS w B S (some ⟨g, f, none⟩) cap W) (by kernel_rfl) (by kernel_rfl) (HCD.out _ HW.out) ?_
            refine w_value (.pointer (some ⟨B, 4, none⟩)) (by kernel_rfl) (fun w hw => x_fieldS4 _ _ _ _ _ _ _ B rfl w) ?_
            simp only [Act.put, List.setIfInBounds_toArray, List.set_cons_succ, List.set_cons_zero]
            refine w_value (.slice (some ⟨g, f, none⟩) N cap) (by kernel_rfl) (fun w hw => x_loadSl _ _ _ _ _ _ _ B 4 _ rfl w (hqk w hw)) ?_
            simp only [Act.put, List.setIfInBounds_toArray, List.set_cons_succ, List.set_cons_zero]
            refine w_value (.pointer (some ⟨g, f, none⟩)) (by kernel_rfl) (fun w hw => x_idxSh0 _ _ _ _ _ _ _ g f N cap rfl rfl (by omega) w) ?_
            simp only [Act.put, List.setIfInBounds_toArray, List.set_cons_succ, List.set_cons_zero]
            refine w_value (ShVal cz) (by kernel_rfl) (fun w hw => x_loadSh _ _ _ _ _ _ _ g f cz rfl w hlenz (hq1 w hw)) ?_
            simp only [Act.put, List.setIfInBounds_toArray, List.set_cons_succ, List.set_cons_zero]
            refine w_value (.string t) (by kernel_rfl) (fun w hw => x_move _ _ _ _ _ _ _ _ rfl w) ?_
            simp only [Act.put, List.setIfInBounds_toArray, List.set_cons_succ, List.set_cons_zero]
            refine w_value (.int .i64 k) (by kernel_rfl) (fun w hw => x_move _ _ _ _ _ _ _ _ rfl w) ?_
            simp only [Act.put, List.setIfInBounds_toArray, List.set_cons_succ, List.set_cons_zero]
            refine w_value (.string (t.extract 0 k)) (by kernel_rfl) (fun w hw => x_strTo _ _ _ _ _ _ _ _ t k rfl rfl hk w) ?_
            simp only [Act.put, List.setIfInBounds_toArray, List.set_cons_succ, List.set_cons_zero]
            refine w_call hG 11 #[ShVal cz, .string (t.extract 0 k)] (.bool true) (by kernel_rfl) (fun w => x_call2 _ _ _ _ _ _ _ _ _ _ _ _ _ rfl rfl rfl (enters_of Tryd.func11 (by kernel_rfl) rfl) w) (fun w hw => hq2 w hw) ?_
            simp only [Act.put, List.setIfInBounds_toArray, List.set_cons_succ, List.set_cons_zero]
            refine w_value (.bool true) (by kernel_rfl) (fun w hw => x_move _ _ _ _ _ _ _ _ rfl w) ?_
            simp only [Act.put, List.setIfInBounds_toArray, List.set_cons_succ, List.set_cons_zero]
            refine w_value (ShVal cs) (by kernel_rfl) (fun w hw => x_loadSh _ _ _ _ _ _ _ B 0 cs rfl w hlen (hqS w hw)) ?_
            simp only [Act.put, List.setIfInBounds_toArray, List.set_cons_succ, List.set_cons_zero]
            refine w_value (.string t) (by kernel_rfl) (fun w hw => x_move _ _ _ _ _ _ _ _ rfl w) ?_
            simp only [Act.put, List.setIfInBounds_toArray, List.set_cons_succ, List.set_cons_zero]
            refine w_value (.int .i64 k) (by kernel_rfl) (fun w hw => x_move _ _ _ _ _ _ _ _ rfl w) ?_
            simp only [Act.put, List.setIfInBounds_toArray, List.set_cons_succ, List.set_cons_zero]
            refine w_value (.string (t.extract k t.size)) (by kernel_rfl) (fun w hw => x_strFrom _ _ _ _ _ _ _ _ t k rfl rfl hk w) ?_
            simp only [Act.put, List.setIfInBounds_toArray, List.set_cons_succ, List.set_cons_zero]
            refine w_call hG 11 #[ShVal cs, .string (t.extract k t.size)] (.bool false) (by kernel_rfl) (fun w => x_call2 _ _ _ _ _ _ _ _ _ _ _ _ _ rfl rfl rfl (enters_of Tryd.func11 (by kernel_rfl) rfl) w) (fun w hw => hq3 w hw) ?_
            simp only [Act.put, List.setIfInBounds_toArray, List.set_cons_succ, List.set_cons_zero]
            refine w_value (.bool false) (by kernel_rfl) (fun w hw => x_pick _ _ _ _ _ _ _ _ _ true (.bool false) (.bool false) rfl rfl rfl w) ?_
            simp only [Act.put, List.setIfInBounds_toArray, List.set_cons_succ, List.set_cons_zero]
            refine w_nil ?_
            intro W hW
            have HWW := hide hW
            clear hW hG hq2 hq3 hq1 HQ2 hqk hqS hlen hlenz
            go_wp2
            refine ⟨⟨k + 1, by omega, by omega, by go_num, ?_, HWW⟩, by simp [intOf]; omega⟩
            intro j hj1 hj h
            by_cases hjk : j = k
            · subst hjk; exact HF.out h.2
            · exact HN.out j hj1 (by omega) h
          · have HKY : Hid (hB S.lang t = true) := HL.out k hk0 hk HTR.out (by rw [← bytesN_drop]; exact (hB_iff _ _).1 hb2.symm)
            clear hb1 hb2
            refine w_lit (C := fun W => OneS w B S (some ⟨g, f, none⟩) cap W) (by kernel_rfl) (by kernel_rfl) (HCD.out _ HW.out) ?_
            refine w_value (.pointer (some ⟨B, 4, none⟩)) (by kernel_rfl) (fun w hw => x_fieldS4 _ _ _ _ _ _ _ B rfl w) ?_
            simp only [Act.put, List.setIfInBounds_toArray, List.set_cons_succ, List.set_cons_zero]
            refine w_value (.slice (some ⟨g, f, none⟩) N cap) (by kernel_rfl) (fun w hw => x_loadSl _ _ _ _ _ _ _ B 4 _ rfl w (hqk w hw)) ?_
            simp only [Act.put, List.setIfInBounds_toArray, List.set_cons_succ, List.set_cons_zero]
            refine w_value (.pointer (some ⟨g, f, none⟩)) (by kernel_rfl) (fun w hw => x_idxSh0 _ _ _ _ _ _ _ g f N cap rfl rfl (by omega) w) ?_
            simp only [Act.put, List.setIfInBounds_toArray, List.set_cons_succ, List.set_cons_zero]
            refine w_value (ShVal cz) (by kernel_rfl) (fun w hw => x_loadSh _ _ _ _ _ _ _ g f cz rfl w hlenz (hq1 w hw)) ?_
            simp only [Act.put, List.setIfInBounds_toArray, List.set_cons_succ, List.set_cons_zero]
            refine w_value (.string t) (by kernel_rfl) (fun w hw => x_move _ _ _ _ _ _ _ _ rfl w) ?_
            simp only [Act.put, List.setIfInBounds_toArray, List.set_cons_succ, List.set_cons_zero]
            refine w_value (.int .i64 k) (by kernel_rfl) (fun w hw => x_move _ _ _ _ _ _ _ _ rfl w) ?_
            simp only [Act.put, List.setIfInBounds_toArray, List.set_cons_succ, List.set_cons_zero]
            refine w_value (.string (t.extract 0 k)) (by kernel_rfl) (fun w hw => x_strTo _ _ _ _ _ _ _ _ t k rfl rfl hk w) ?_
            simp only [Act.put, List.setIfInBounds_toArray, List.set_cons_succ, List.set_cons_zero]
            refine w_call hG 11 #[ShVal cz, .string (t.extract 0 k)] (.bool true) (by kernel_rfl) (fun w => x_call2 _ _ _ _ _ _ _ _ _ _ _ _ _ rfl rfl rfl (enters_of Tryd.func11 (by kernel_rfl) rfl) w) (fun w hw => hq2 w hw) ?_
            simp only [Act.put, List.setIfInBounds_toArray, List.set_cons_succ, List.set_cons_zero]
            refine w_value (.bool true) (by kernel_rfl) (fun w hw => x_move _ _ _ _ _ _ _ _ rfl w) ?_
            simp only [Act.put, List.setIfInBounds_toArray, List.set_cons_succ, List.set_cons_zero]
            refine w_value (ShVal cs) (by kernel_rfl) (fun w hw => x_loadSh _ _ _ _ _ _ _ B 0 cs rfl w hlen (hqS w hw)) ?_
            simp only [Act.put, List.setIfInBounds_toArray, List.set_cons_succ, List.set_cons_zero]
            refine w_value (.string t) (by kernel_rfl) (fun w hw => x_move _ _ _ _ _ _ _ _ rfl w) ?_
            simp only [Act.put, List.setIfInBounds_toArray, List.set_cons_succ, List.set_cons_zero]
            refine w_value (.int .i64 k) (by kernel_rfl) (fun w hw => x_move _ _ _ _ _ _ _ _ rfl w) ?_
            simp only [Act.put, List.setIfInBounds_toArray, List.set_cons_succ, List.set_cons_zero]
            refine w_value (.string (t.extract k t.size)) (by kernel_rfl) (fun w hw => x_strFrom _ _ _ _ _ _ _ _ t k rfl rfl hk w) ?_
            simp only [Act.put, List.setIfInBounds_toArray, List.set_cons_succ, List.set_cons_zero]
            refine w_call hG 11 #[ShVal cs, .string (t.extract k t.size)] (.bool true) (by kernel_rfl) (fun w => x_call2 _ _ _ _ _ _ _ _ _ _ _ _ _ rfl rfl rfl (enters_of Tryd.func11 (by kernel_rfl) rfl) w) (fun w hw => hq3 w hw) ?_
            simp only [Act.put, List.setIfInBounds_toArray, List.set_cons_succ, List.set_cons_zero]
            refine w_value (.bool true) (by kernel_rfl) (fun w hw => x_pick _ _ _ _ _ _ _ _ _ true (.bool true) (.bool false) rfl rfl rfl w) ?_
            simp only [Act.put, List.setIfInBounds_toArray, List.set_cons_succ, List.set_cons_zero]
            refine w_nil ?_
            intro W hW
            have HWW := hide hW
            clear hW hG hq2 hq3 hq1 HQ2 hqk hqS hlen hlenz
            go_wp2
            go_ret
            refine ⟨?_, HB0.out ▸ HWW.out.below⟩
            rw [← hSS.out, HKY.out]; rfl
      · have hkd : decide ((k : Int) ≤ t.size) = false := by simp; omega
        have hkd2 : decide (k ≤ t.size) = false := by simp; omega
        have HKY : Hid (hB S.lang t = false) := HL2.out fun j h1 h2 => HN.out j h1 (by omega)
        go_wp2
        go_ret
        refine ⟨?_, HB0.out ▸ HW.out.below⟩
        rw [← hSS.out, HKY.out]; rfl

theorem hB7 {o : Int} {l u : Nat} {tx : ByteArray} {ks : List SHP} (h : (SHP.mk o l u tx ks).k = 7) (t : ByteArray) (p q : Lg) (h0 : (ks.map SHP.lang)[0]? = some p) (h1 : (∃ m, (ks.map SHP.lang)[1]? = some m ∧ m (bytesN t)) ↔ q (bytesN t)) :
    hB (SHP.mk o l u tx ks).lang t = (hB p t && !hB q t) := by
  have hl := sl7 h (bytesN t)
  rw [h0, h1] at hl
  cases h2 : hB p t with
  | false =>
    refine hB_false fun h => ?_
    obtain ⟨⟨m, e, h3⟩, -⟩ := hl.1 h
    injection e with e
    subst e
    rw [hB_true h3] at h2; cases h2
  | true =>
    cases h3 : hB q t with
    | false => exact hB_true (hl.2 ⟨⟨p, rfl, (hB_iff _ _).1 h2⟩, fun h => by rw [hB_true h] at h3; cases h3⟩)
    | true => exact hB_false fun h => (hl.1 h).2 ((hB_iff _ _).1 h3)
set_option maxHeartbeats 1000000 in
theorem in7 (o : Int) (l u : Nat) (tx : ByteArray) (ks : List SHP) (t : ByteArray) (hK : (SHP.mk o l u tx ks).k = 7) (ih : ∀ k ∈ ks, InAt k t) : InAt (.mk o l u tx ks) t := by
  intro cs w h
  have HS := hide h
  obtain ⟨v, rfl, hrow, ho, hlo, hhi, htx⟩ := h.open
  obtain ⟨hn, a, cap, rfl, -⟩ := hrow.at
  have HROW := hide hrow
  obtain ⟨B, hB0⟩ : ∃ B, B = w.heap.size := ⟨_, rfl⟩
  have h1 : OneS w B (SHP.mk o l u tx ks) a cap (w.alloc (.cells #[.int .i64 o, .int .u8 l, .int .u8 u, .string tx, .slice a ks.length cap] 24)) := ⟨(Below.refl _ _).alloc (Nat.le_of_eq hB0) _, Blk.newAt hB0 _ _⟩
  have hop := op_any _ _ _ (h.keep (hB0 ▸ h1.below))
  rw [hK] at hop
  have HOP := hide hop
  have HB0 := hide hB0
  have H0 := hide h1
  clear hop h hrow h1
  simp only [SHP.op, SHP.lo, SHP.hi, SHP.text, SHP.kids] at hn ho hlo hhi htx HROW HOP ⊢
  unfold ShVal at HOP ⊢
  go_enter Tryd.func11, Tryd.ntmps11
  go_wp2_with fail
  rw [← hB0]
  refine HOP.out.mono ?_
  rintro e w1 ⟨rfl, hb1⟩
  have H1 := hide (H0.out.step hb1)
  clear hb1 HOP H0 hB0
  have hx := H1.out.x
  have x0 := hx.cell 0; have x1 := hx.cell 1; have x2 := hx.cell 2; have x3 := hx.cell 3; have x4 := hx.cell 4
  simp only [inC, SHP.op, SHP.lo, SHP.hi, SHP.text, SHP.kids, List.getElem?_toArray, List.getElem?_cons_zero, List.getElem?_cons_succ] at x0 x1 x2 x3 x4
  clear hx
  cases ks with
  | nil =>
    have HR : Hid (hB (SHP.mk o l u tx []).lang t = false) := hB_false fun h => by
      obtain ⟨⟨m, e, -⟩, -⟩ := (sl7 hK _).1 h
      simp at e
    simp only [List.length_nil] at x4
    go_wp2
    go_ret
    refine ⟨?_, HB0.out ▸ H1.out.below⟩
    rw [HR.out]; rfl
  | cons x ks =>
    obtain ⟨g, f, c, e1⟩ := HROW.out.first
    obtain ⟨rfl, rfl⟩ : a = some ⟨g, f, none⟩ ∧ cap = c := by cases e1; exact ⟨rfl, rfl⟩
    clear e1
    simp only [List.length_cons] at x4 hn
    obtain ⟨-, a', cap', e1, g1⟩ := (HROW.out.keep (show Below w.heap.size w w1 from HB0.out ▸ H1.out.below)).at
    obtain ⟨rfl, rfl⟩ : some ⟨g, f, none⟩ = a' ∧ cap = cap' := by cases e1; exact ⟨rfl, rfl⟩
    obtain ⟨b, off, kv, e2, -, ⟨c0, c1, c2, c3, c4⟩, hC⟩ := g1 0 (by simp)
    obtain ⟨rfl, rfl⟩ : g = b ∧ f = off := by cases e2; exact ⟨rfl, rfl⟩
    simp only [List.getElem_cons_zero, Nat.zero_mul, Nat.add_zero] at c0 c1 c2 c3 c4 hC
    have hd0 : decide (0 < ks.length + 1) = true := by simp
    have hd1 : decide ((0 : Int) < (ks.length : Int) + 1) = true := by simp only [decide_eq_true_eq]; omega
    have he := ih x (by simp) _ w1 hC
    obtain ⟨q1, hq1⟩ : ∃ q1, q1 = hB x.lang t := ⟨_, rfl⟩
    rw [← hq1] at he
    have HE := hide he
    clear he
    have HQ1 := hide hq1
    have HIH := hide ih
    clear hC g1 e1 e2 ih hq1
    unfold ShVal at HE
    go_wp2_with fail
    refine HE.out.mono ?_
    rintro e w2 ⟨rfl, hb2⟩
    have H2 := hide (H1.out.step hb2)
    clear hb2 HE H1 x0 x1 x2 x3 x4 c0 c1 c2 c3 c4
    have y4 := H2.out.x.cell 4
    simp only [inC, SHP.op, SHP.lo, SHP.hi, SHP.text, SHP.kids, List.getElem?_toArray, List.getElem?_cons_zero, List.getElem?_cons_succ, List.length_cons] at y4
    cases q1
    · have HR : Hid (hB (SHP.mk o l u tx (x :: ks)).lang t = false) := hB_false fun h => by
        obtain ⟨⟨m, e, h3⟩, -⟩ := (sl7 hK _).1 h
        have e : some x.lang = some m := e
        injection e with e
        rw [← e] at h3
        have := HQ1.out
        rw [hB_true h3] at this; cases this
      go_wp2
      go_ret
      refine ⟨?_, HB0.out ▸ H2.out.below⟩
      rw [HR.out]; rfl
    · cases ks with
      | nil =>
        have HR : Hid (hB (SHP.mk o l u tx [x]).lang t = true) := by
          show _ = _
          rw [hB7 hK t x.lang (fun _ => False) rfl (by simp), ← HQ1.out, hB_false (l := fun _ => False) id]; rfl
        simp only [List.length_nil, Nat.zero_add] at y4
        go_wp2
        go_ret
        refine ⟨?_, HB0.out ▸ H2.out.below⟩
        rw [HR.out]; rfl
      | cons y ks =>
        obtain ⟨-, a', cap', e1, g1⟩ := (HROW.out.keep (show Below w.heap.size w w2 from HB0.out ▸ H2.out.below)).at
        obtain ⟨rfl, rfl⟩ : some ⟨g, f, none⟩ = a' ∧ cap = cap' := by cases e1; exact ⟨rfl, rfl⟩
        obtain ⟨b, off, kv, e2, -, ⟨c0, c1, c2, c3, c4⟩, hC⟩ := g1 1 (by simp)
        obtain ⟨rfl, rfl⟩ : g = b ∧ f = off := by cases e2; exact ⟨rfl, rfl⟩
        simp only [List.getElem_cons_zero, List.getElem_cons_succ, Nat.one_mul, Nat.add_assoc, Nat.reduceAdd] at c0 c1 c2 c3 c4 hC
        simp only [List.length_cons] at y4 hn
        have hd2 : decide ((1 : Int) < (ks.length : Int) + 1 + 1) = true := by simp only [decide_eq_true_eq]; omega
        have hd3 : decide (1 < ks.length + 1 + 1) = true := by simp
        have he := HIH.out y (by simp) _ w2 hC
        obtain ⟨q2, hq2⟩ : ∃ q2, q2 = hB y.lang t := ⟨_, rfl⟩
        rw [← hq2] at he
        have HE := hide he
        clear he
        have HR : Hid (hB (SHP.mk o l u tx (x :: y :: ks)).lang t = !q2) := by
          show _ = _
          rw [hB7 hK t x.lang y.lang rfl (by simp), ← HQ1.out, ← hq2]; rfl
        clear hC g1 e1 e2 hq2 hd0 hd1
        unfold ShVal at HE
        go_wp2_with fail
        refine HE.out.mono ?_
        rintro e w3 ⟨rfl, hb2⟩
        have H3 := hide (H2.out.step hb2)
        clear hb2 HE H2 y4 c0 c1 c2 c3 c4
        go_wp2
        go_ret
        refine ⟨?_, HB0.out ▸ H3.out.below⟩
        rw [HR.out]; rfl
theorem shIn_any (s : SHP) : ∀ t, t.size ≤ 1000 → InAt s t := by
  refine SHP.ind (P := fun s => ∀ t, t.size ≤ 1000 → InAt s t) ?_ s
  intro o l u tx ks ih t ht
  have ho : (SHP.mk o l u tx ks).k < 9 := by unfold SHP.k; omega
  obtain h | h | h | h | h | h | h | h | h : (SHP.mk o l u tx ks).k = 0 ∨ (SHP.mk o l u tx ks).k = 1 ∨ (SHP.mk o l u tx ks).k = 2 ∨ (SHP.mk o l u tx ks).k = 3 ∨ (SHP.mk o l u tx ks).k = 4 ∨ (SHP.mk o l u tx ks).k = 5 ∨ (SHP.mk o l u tx ks).k = 6 ∨ (SHP.mk o l u tx ks).k = 7 ∨ (SHP.mk o l u tx ks).k = 8 := by omega
  · exact in0 o l u tx ks t h
  · exact in1 o l u tx ks t h
  · exact in2 o l u tx ks t h
  · exact in3 o l u tx ks t h ht fun k hk t' ht' => ih k hk t' (by omega)
  · exact in4 o l u tx ks t h fun k hk => ih k hk t ht
  · by_cases h0 : t.size = 0
    · exact in5_nil o l u tx ks t h h0
    · cases ks with
      | nil => exact in5_none o l u tx t h h0
      | cons s ks => exact in5 o l u tx s ks h (ih s (by simp)) _ t (Nat.le_refl _) ht
  · exact in6 o l u tx ks t h fun k hk => ih k hk t ht
  · exact in7 o l u tx ks t h fun k hk => ih k hk t ht
  · exact in8 o l u tx ks t h
end Go.Proofs.YtkjmjppmpcnejaaDoor
