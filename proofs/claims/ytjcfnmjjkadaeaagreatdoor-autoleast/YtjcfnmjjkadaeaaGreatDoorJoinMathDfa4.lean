/- Texts of this claim put together: MathPart2, MathLang, MathLang2, MathDv3, MathDfa2, MathDfa3, MathDfa4. -/
import Derived.Test.YtjcfnmjjkadaeaaGreatDoorJoinMathDfa
import Derived.Test.YtjcfnmjjkadaeaaGreatDoorJoinPartA
import Derived.Test.YtjcfnmjjkadaeaaGreatDoorJoinDvD
import Derived.Test.YtjcfnmjjkadaeaaGreatDoorJoinShD
import Derived.Test.YtjcfnmjjkadaeaaGreatDoorJoinShE
/- The mathematics of parts: which part a byte lies in. -/
namespace Go.Proofs.YtjcfnmjjkadaeaaGreatDoor
set_option maxRecDepth 100000
open Go.RowKit

/-- The one set that has it. -/
theorem idxF_one {pl : List (BitVec 256)} {b i : Nat} (hi : (pl.getD i 0).getLsbD b = true) : ∀ (k : Nat), i < k → (∀ j, j < k → (pl.getD j 0).getLsbD b = true → j = i) → idxF pl k b = i
  | 0, h, _ => by omega
  | k + 1, h, hu => by
    show (if (pl.getD k 0).getLsbD b then k else idxF pl k b) = i
    by_cases e : (pl.getD k 0).getLsbD b = true
    · rw [if_pos e]; exact hu k (by omega) e
    · rw [if_neg e]
      refine idxF_one hi k ?_ fun j hj => hu j (by omega)
      rcases Nat.lt_or_ge i k with h1 | h1
      · exact h1
      · obtain rfl : i = k := by omega
        exact absurd hi e

theorem IsPart.at_most {l pl : List (BitVec 256)} (h : IsPart l pl) {i j b : Nat} (hi : i < pl.length) (hj : j < pl.length) (h1 : (pl.getD i 0).getLsbD b = true) (h2 : (pl.getD j 0).getLsbD b = true) : i = j := by
  have hap := List.pairwise_iff_getElem.1 h.apart
  simp only [List.getD_eq_getElem?_getD, List.getElem?_eq_getElem hi, List.getElem?_eq_getElem hj, Option.getD_some] at h1 h2
  rcases Nat.lt_trichotomy i j with e | e | e
  · have := hap i j hi hj e b h1; rw [h2] at this; cases this
  · exact e
  · have := hap j i hj hi e b h2; rw [h1] at this; cases this
theorem IsPart.some_at {l pl : List (BitVec 256)} (h : IsPart l pl) {b : Nat} (hb : b < 256) : ∃ i, i < pl.length ∧ (pl.getD i 0).getLsbD b = true := by
  obtain ⟨p, hp, hpb⟩ := h.cov b hb
  obtain ⟨i, hi, rfl⟩ := List.getElem_of_mem hp
  exact ⟨i, hi, by simpa [List.getD_eq_getElem?_getD, hi] using hpb⟩
/-- Index tells in which part a byte lies. -/
theorem IsPart.idx {l pl : List (BitVec 256)} (h : IsPart l pl) {b i : Nat} (hb : b < 256) (hi : i < pl.length) : idxF pl pl.length b = i ↔ (pl.getD i 0).getLsbD b = true := by
  obtain ⟨j, hj, hjb⟩ := h.some_at hb
  have e : idxF pl pl.length b = j := idxF_one hjb _ hj fun k hk hkb => h.at_most hk hj hkb hjb
  rw [e]
  constructor
  · rintro rfl; exact hjb
  · intro hib; exact h.at_most hj hi hjb hib
/-- There are no more parts than bytes. -/
theorem IsPart.length_le {l pl : List (BitVec 256)} (h : IsPart l pl) : pl.length ≤ 256 := by
  have hn : (pl.map least).Nodup := by
    refine List.pairwise_map.2 (h.apart.imp_of_mem ?_)
    intro p q hp hq hpq e
    have := hpq _ (least_mem (h.mem p hp).1).1
    rw [e, (least_mem (h.mem q hq).1).1] at this
    cases this
  have hsub : ∀ x ∈ pl.map least, x ∈ List.range 256 := fun x hx => by
    obtain ⟨p, -, rfl⟩ := List.mem_map.1 hx
    exact List.mem_range.2 (least_lt p)
  have := List.Nodup.length_le_of_subset hn (fun x hx => hsub x hx)
  simpa using this
/-- All of some sets. -/
def orL (l : List (BitVec 256)) : BitVec 256 := l.foldl (· ||| ·) 0#256
theorem orL_bit (l : List (BitVec 256)) (b : Nat) : ∀ a : BitVec 256, (l.foldl (· ||| ·) a).getLsbD b = true ↔ a.getLsbD b = true ∨ ∃ p ∈ l, p.getLsbD b = true := by
  induction l with
  | nil => intro a; simp
  | cons x r ih =>
    intro a
    rw [List.foldl_cons, ih, BitVec.getLsbD_or]
    simp [or_assoc]
theorem IsPart.all {l pl : List (BitVec 256)} (h : IsPart l pl) : orL pl = allB := by
  refine BitVec.eq_of_getLsbD_eq fun i hi => ?_
  have h1 : allB.getLsbD i = true := by rw [show allB = ~~~0#256 from rfl, BitVec.getLsbD_not, BitVec.getLsbD_zero]; simp [hi]
  rw [h1]
  exact (orL_bit pl i _).2 (.inr (h.cov i hi))
theorem IsPart.next {l pl : List (BitVec 256)} (h : IsPart l pl) {k : Nat} (hk : k < pl.length) : orL (pl.take k) &&& pl.getD k 0 = 0#256 := by
  refine BitVec.eq_of_getLsbD_eq fun i hi => ?_
  rw [BitVec.getLsbD_and, BitVec.getLsbD_zero]
  cases e : (orL (pl.take k)).getLsbD i with
  | false => simp
  | true =>
    rcases (orL_bit _ _ _).1 e with h0 | ⟨p, hp, hpi⟩
    · simp at h0
    · obtain ⟨j, hj, rfl⟩ := List.getElem_of_mem hp
      have hj1 : j < k := by simp at hj; omega
      have hj2 : j < pl.length := by omega
      cases e2 : (pl.getD k 0).getLsbD i with
      | false => simp
      | true =>
        have := h.at_most hj2 hk (b := i) (by simpa [List.getD_eq_getElem?_getD, hj2] using hpi) e2
        omega
end Go.Proofs.YtjcfnmjjkadaeaaGreatDoor
/- The texts of an expression; what each of the calls makes has the texts that it should have. -/
namespace Go.Proofs.YtjcfnmjjkadaeaaGreatDoor
set_option maxRecDepth 100000
set_option linter.unusedSimpArgs false
set_option linter.unusedVariables false

abbrev Lg := List Nat → Prop
def By (t : List Nat) : Prop := ∀ x ∈ t, x < 256
theorem By.left {u v : List Nat} (h : By (u ++ v)) : By u := fun x hx => h x (List.mem_append.2 (.inl hx))
theorem By.right {u v : List Nat} (h : By (u ++ v)) : By v := fun x hx => h x (List.mem_append.2 (.inr hx))
def catG : List Lg → Lg
  | [], t => t = []
  | l :: ls, t => ∃ u v, t = u ++ v ∧ l u ∧ catG ls v
inductive starG (l : Lg) : Lg where
  | nil : starG l []
  | cons (u v : List Nat) : u ≠ [] → l u → starG l v → starG l (u ++ v)
def opG (o : Nat) (s : BitVec 256) (ls : List Lg) : Lg := fun t =>
  if o = 1 then t = [] else if o = 2 then ∃ x, t = [x] ∧ s.getLsbD x = true else if o = 3 then catG ls t else if o = 4 then ∃ l ∈ ls, l t
  else if o = 5 then t = [] ∨ ∃ l, ls = [l] ∧ starG l t else if o = 6 then ∀ l ∈ ls, l t else if o = 7 then ∃ a b, ls = [a, b] ∧ a t ∧ ¬ b t else False
def RE.lang : RE → Lg
  | .mk o s ks => opG o s (ks.map fun k => k.lang)
theorem RE.lang_mk (o : Nat) (s : BitVec 256) (ks : List RE) : (RE.mk o s ks).lang = opG o s (ks.map RE.lang) := by rw [RE.lang]
theorem RE.lang_op (r : RE) : r.lang = opG r.op r.set (r.kids.map RE.lang) := by cases r; exact RE.lang_mk _ _ _

theorem catG_append (a b : List Lg) (t : List Nat) : catG (a ++ b) t ↔ ∃ u v, t = u ++ v ∧ catG a u ∧ catG b v := by
  induction a generalizing t with
  | nil =>
    constructor
    · intro h; exact ⟨[], t, rfl, rfl, h⟩
    · rintro ⟨u, v, rfl, h1, h2⟩
      have h1 : u = [] := h1
      subst h1; exact h2
  | cons l a ih =>
    constructor
    · rintro ⟨u, v, rfl, h1, h2⟩
      obtain ⟨x, y, rfl, h3, h4⟩ := (ih v).1 h2
      exact ⟨u ++ x, y, by rw [List.append_assoc], ⟨u, x, rfl, h1, h3⟩, h4⟩
    · rintro ⟨u, v, rfl, ⟨x, y, rfl, h1, h2⟩, h3⟩
      exact ⟨x, y ++ v, by rw [List.append_assoc], h1, (ih _).2 ⟨y, v, rfl, h2, h3⟩⟩
theorem catG_one (l : Lg) (t : List Nat) : catG [l] t ↔ l t := by
  constructor
  · rintro ⟨u, v, rfl, h1, h2⟩
    have h2 : v = [] := h2
    subst h2; rwa [List.append_nil]
  · intro h; exact ⟨t, [], by simp, h, rfl⟩
theorem star_append {l : Lg} {u v : List Nat} (hu : starG l u) (hv : starG l v) : starG l (u ++ v) := by
  induction hu with
  | nil => exact hv
  | cons x y hx h1 h2 ih => rw [List.append_assoc]; exact .cons x (y ++ v) hx h1 ih
theorem star_star {l m : Lg} (h : ∀ t, m t → starG l t) {t : List Nat} (hs : starG m t) : starG l t := by
  induction hs with
  | nil => exact .nil
  | cons u v hu h1 h2 ih => exact star_append (h u h1) ih
theorem star_one {l : Lg} {t : List Nat} (h : l t) : starG l t := by
  cases t with
  | nil => exact .nil
  | cons x t => have := starG.cons (l := l) (x :: t) [] (by simp) h .nil; rwa [List.append_nil] at this
theorem star_none {l : Lg} (h : ∀ t, l t → t = []) {t : List Nat} (hs : starG l t) : t = [] := by
  cases hs with
  | nil => rfl
  | cons u v hu h1 h2 => exact absurd (h u h1) hu

/-! What the ops mean -/
theorem lang0 {r : RE} (h : r.op = 0) (t : List Nat) : ¬ r.lang t := by rw [r.lang_op, h]; intro h; simp [opG] at h
theorem lang1 {r : RE} (h : r.op = 1) (t : List Nat) : r.lang t ↔ t = [] := by rw [r.lang_op, h]; simp [opG]
theorem lang2 {r : RE} (h : r.op = 2) (t : List Nat) : r.lang t ↔ ∃ x, t = [x] ∧ r.set.getLsbD x = true := by rw [r.lang_op, h]; simp [opG]
theorem lang3 {r : RE} (h : r.op = 3) (t : List Nat) : r.lang t ↔ catG (r.kids.map RE.lang) t := by rw [r.lang_op, h]; simp [opG]
theorem lang4 {r : RE} (h : r.op = 4) (t : List Nat) : r.lang t ↔ ∃ k ∈ r.kids, k.lang t := by
  rw [r.lang_op, h]
  show (∃ l ∈ r.kids.map RE.lang, l t) ↔ _
  constructor
  · rintro ⟨l, hl, h⟩
    obtain ⟨k, hk, rfl⟩ := List.mem_map.1 hl
    exact ⟨k, hk, h⟩
  · rintro ⟨k, hk, h⟩
    exact ⟨_, List.mem_map.2 ⟨k, hk, rfl⟩, h⟩
theorem lang5 {r : RE} (h : r.op = 5) (t : List Nat) : r.lang t ↔ t = [] ∨ ∃ l, r.kids.map RE.lang = [l] ∧ starG l t := by rw [r.lang_op, h]; simp [opG]
theorem lang6 {r : RE} (h : r.op = 6) (t : List Nat) : r.lang t ↔ ∀ k ∈ r.kids, k.lang t := by rw [r.lang_op, h]; simp [opG]
theorem lang7 {r : RE} (h : r.op = 7) (t : List Nat) : r.lang t ↔ ∃ a b, r.kids.map RE.lang = [a, b] ∧ a t ∧ ¬ b t := by rw [r.lang_op, h]; simp [opG]
theorem lang_nothing (t : List Nat) : ¬ rNothing.lang t := lang0 rfl t
theorem lang_empty (t : List Nat) : rEmpty.lang t ↔ t = [] := lang1 rfl t
theorem lang_one (s : BitVec 256) (t : List Nat) : (rOne s).lang t ↔ ∃ x, t = [x] ∧ s.getLsbD x = true := by
  unfold rOne
  split
  · rename_i h
    subst h
    refine iff_of_false (lang_nothing t) ?_
    rintro ⟨x, -, h⟩
    simp at h
  · exact lang2 (r := .mk 2 s []) rfl t
theorem join_or (l : List RE) (t : List Nat) : (rJoin 4 l).lang t ↔ ∃ k ∈ l, k.lang t := by
  unfold rJoin
  split
  · simp
  · exact lang4 (r := .mk 4 0#256 l) rfl t
theorem join_and (l : List RE) (t : List Nat) : (rJoin 6 l).lang t ↔ ∀ k ∈ l, k.lang t := by
  unfold rJoin
  split
  · simp
  · exact lang6 (r := .mk 6 0#256 l) rfl t
theorem join_cat (l : List RE) (t : List Nat) : (rJoin 3 l).lang t ↔ catG (l.map RE.lang) t := by
  unfold rJoin
  split
  · rw [List.map_cons, List.map_nil, catG_one]
  · exact lang3 (r := .mk 3 0#256 l) rfl t

theorem cat_flat (l : List RE) (t : List Nat) : catG ((catL l).map RE.lang) t ↔ catG (l.map RE.lang) t := by
  induction l generalizing t with
  | nil => exact Iff.rfl
  | cons r l ih =>
    have e : catL (r :: l) = catK r ++ catL l := by unfold catL; rw [List.flatMap_cons]
    have hk : ∀ u, catG ((catK r).map RE.lang) u ↔ r.lang u := by
      intro u
      unfold catK
      split
      · rename_i h; rw [lang1 h]; exact Iff.rfl
      · split
        · rename_i h; rw [lang3 h]
        · rw [List.map_cons, List.map_nil, catG_one]
    rw [e, List.map_append, catG_append, List.map_cons]
    constructor
    · rintro ⟨u, v, rfl, h1, h2⟩
      exact ⟨u, v, rfl, (hk u).1 h1, (ih v).1 h2⟩
    · rintro ⟨u, v, rfl, h1, h2⟩
      exact ⟨u, v, rfl, (hk u).2 h1, (ih v).2 h2⟩
theorem cat_no {l : List RE} (h : l.any (fun r => r.op == 0) = true) (t : List Nat) : ¬ catG (l.map RE.lang) t := by
  induction l generalizing t with
  | nil => simp at h
  | cons r l ih =>
    rw [List.map_cons]
    rintro ⟨u, v, -, h1, h2⟩
    rw [List.any_cons, Bool.or_eq_true] at h
    rcases h with h | h
    · exact lang0 (by simpa using h) u h1
    · exact ih h v h2
theorem lang_then (l : List RE) (t : List Nat) : (rThen l).lang t ↔ catG (l.map RE.lang) t := by
  unfold rThen
  split
  · rename_i h
    exact iff_of_false (lang_nothing t) (cat_no h t)
  · rw [← cat_flat]
    split
    · rename_i h; rw [h, lang_empty]; exact Iff.rfl
    · exact join_cat _ t

theorem any_flatL (l : List RE) (t : List Nat) : (∃ k ∈ flatL 4 l, k.lang t) ↔ ∃ r ∈ l, r.lang t := by
  unfold flatL
  constructor
  · rintro ⟨k, hk, h⟩
    obtain ⟨r, hr, hk⟩ := List.mem_flatMap.1 hk
    split at hk
    · exact ⟨r, hr, (lang4 ‹_› t).2 ⟨k, hk, h⟩⟩
    · rw [List.mem_singleton] at hk; subst hk; exact ⟨k, hr, h⟩
  · rintro ⟨r, hr, h⟩
    by_cases h4 : r.op = 4
    · obtain ⟨k, hk, h'⟩ := (lang4 h4 t).1 h
      exact ⟨k, List.mem_flatMap.2 ⟨r, hr, by rw [if_pos h4]; exact hk⟩, h'⟩
    · exact ⟨r, List.mem_flatMap.2 ⟨r, hr, by rw [if_neg h4]; simp⟩, h⟩
theorem all_flatL (l : List RE) (t : List Nat) : (∀ k ∈ flatL 6 l, k.lang t) ↔ ∀ r ∈ l, r.lang t := by
  unfold flatL
  constructor
  · intro h r hr
    by_cases h6 : r.op = 6
    · exact (lang6 h6 t).2 fun k hk => h k (List.mem_flatMap.2 ⟨r, hr, by rw [if_pos h6]; exact hk⟩)
    · exact h r (List.mem_flatMap.2 ⟨r, hr, by rw [if_neg h6]; simp⟩)
  · intro h k hk
    obtain ⟨r, hr, hk⟩ := List.mem_flatMap.1 hk
    split at hk
    · exact (lang6 ‹_› t).1 (h r hr) k hk
    · rw [List.mem_singleton] at hk; subst hk; exact h k hr
theorem wfk_flat {o : Nat} {l : List RE} (hw : ∀ r ∈ l, Wf r) : ∀ k ∈ flatL o l, Wf k := by
  intro k hk
  obtain ⟨r, hr, hk⟩ := List.mem_flatMap.1 hk
  have h := hw r hr
  split at hk
  · cases h with | mk o s ks hk' _ => exact hk' k hk
  · rw [List.mem_singleton] at hk; subst hk; exact h
theorem mem_ordL {l : List RE} (hw : ∀ y ∈ l, WfK y) (r : RE) : r ∈ ordL l ↔ r ∈ l := by
  have h : (∀ y ∈ ordL l, WfK y) ∧ (r ∈ ordL l ↔ r ∈ l) := by
    induction l with
    | nil => exact ⟨fun y hy => by simp [ordL] at hy, by simp [ordL]⟩
    | cons x l ih =>
      have hl : ∀ y ∈ l, WfK y := fun y hy => hw y (by simp [hy])
      have key : ∀ z, z ∈ ordL (x :: l) ↔ z = x ∨ z ∈ ordL l := fun z => mem_insK (hw x (by simp)) (ordL l) (ih hl).1 z
      refine ⟨fun y hy => ?_, ?_⟩
      · rcases (key y).1 hy with rfl | hy
        · exact hw y (by simp)
        · exact (ih hl).1 y hy
      · rw [key, (ih hl).2, List.mem_cons]
  exact h.2
theorem lang_any {l : List RE} (hw : ∀ r ∈ l, Wf r) (t : List Nat) : (rAny l).lang t ↔ ∃ r ∈ l, r.lang t := by
  rw [← any_flatL]
  have hwf := wfk_flat (o := 4) hw
  generalize hf : flatL 4 l = fl at hwf
  have hcls : (∃ k ∈ fl, k.lang t) ↔ (∃ k ∈ orKeep fl, k.lang t) ∨ ∃ x, t = [x] ∧ (orSet fl).getLsbD x = true := by
    have hb : ∀ x, (orSet fl).getLsbD x = fl.any fun r => r.op == 2 && r.set.getLsbD x := fun x => by unfold orSet; rw [orBits]; simp
    constructor
    · rintro ⟨k, hk, h⟩
      by_cases h0 : k.op = 0
      · exact absurd h (lang0 h0 t)
      · by_cases h2 : k.op = 2
        · obtain ⟨x, rfl, hx⟩ := (lang2 h2 t).1 h
          refine .inr ⟨x, rfl, ?_⟩
          rw [hb, List.any_eq_true]
          exact ⟨k, hk, by simp [h2, hx]⟩
        · exact .inl ⟨k, List.mem_filter.2 ⟨hk, by simp [h0, h2]⟩, h⟩
    · rintro (⟨k, hk, h⟩ | ⟨x, rfl, hx⟩)
      · exact ⟨k, (List.mem_filter.1 hk).1, h⟩
      · rw [hb, List.any_eq_true] at hx
        obtain ⟨k, hk, hx⟩ := hx
        rw [Bool.and_eq_true] at hx
        exact ⟨k, hk, (lang2 (by simpa using hx.1) _).2 ⟨x, rfl, hx.2⟩⟩
  rw [hcls]
  unfold rAny
  rw [hf]
  simp only []
  have hks : (∃ k ∈ orKeep fl ++ (if orSet fl = 0#256 then [] else [rOne (orSet fl)]), k.lang t) ↔ (∃ k ∈ orKeep fl, k.lang t) ∨ ∃ x, t = [x] ∧ (orSet fl).getLsbD x = true := by
    constructor
    · rintro ⟨k, hk, h⟩
      rcases List.mem_append.1 hk with hk | hk
      · exact .inl ⟨k, hk, h⟩
      · split at hk
        · simp at hk
        · rw [List.mem_singleton] at hk; subst hk; exact .inr ((lang_one _ t).1 h)
    · rintro (⟨k, hk, h⟩ | h)
      · exact ⟨k, List.mem_append.2 (.inl hk), h⟩
      · refine ⟨rOne (orSet fl), List.mem_append.2 (.inr ?_), (lang_one _ t).2 h⟩
        split
        · rename_i h0
          obtain ⟨x, -, hx⟩ := h
          rw [h0] at hx; simp at hx
        · simp
  have hwk : ∀ y ∈ orKeep fl ++ (if orSet fl = 0#256 then [] else [rOne (orSet fl)]), WfK y := fun y hy => by
    rcases List.mem_append.1 hy with hy | hy
    · exact (hwf y (List.mem_filter.1 hy).1).k
    · split at hy
      · simp at hy
      · rw [List.mem_singleton] at hy; subst hy; exact (wf_one _).k
  generalize hkk : orKeep fl ++ (if orSet fl = 0#256 then [] else [rOne (orSet fl)]) = ks at hks hwk ⊢
  split
  · rename_i h0
    rw [← hks, h0]
    refine iff_of_false (lang_nothing t) (by rintro ⟨k, hk, -⟩; simp at hk)
  · rw [join_or, ← hks]
    constructor
    · rintro ⟨k, hk, h⟩; exact ⟨k, (mem_ordL hwk k).1 hk, h⟩
    · rintro ⟨k, hk, h⟩; exact ⟨k, (mem_ordL hwk k).2 hk, h⟩
theorem lang_many (r : RE) (t : List Nat) : (rMany r).lang t ↔ starG r.lang t := by
  unfold rMany
  split
  · rename_i h
    rw [lang_empty]
    constructor
    · rintro rfl; exact .nil
    · exact star_none fun u hu => by
        rcases h with h | h
        · exact absurd hu (lang0 h u)
        · exact (lang1 h u).1 hu
  · split
    · rename_i h
      constructor
      · exact star_one
      · intro hs
        have hl := lang5 h
        by_cases hk : ∃ l, r.kids.map RE.lang = [l]
        · obtain ⟨l, hl'⟩ := hk
          refine (hl t).2 (.inr ⟨l, hl', star_star (fun u hu => ?_) hs⟩)
          rcases (hl u).1 hu with rfl | ⟨m, hm, h2⟩
          · exact .nil
          · rw [hl'] at hm; injection hm with hm; subst hm; exact h2
        · refine (hl t).2 (.inl (star_none (fun u hu => ?_) hs))
          rcases (hl u).1 hu with h2 | ⟨m, hm, -⟩
          · exact h2
          · exact absurd ⟨m, hm⟩ hk
    · rw [lang5 (r := .mk 5 0#256 [r]) rfl]
      constructor
      · rintro (rfl | ⟨l, hl, h⟩)
        · exact .nil
        · have hl : [r.lang] = [l] := hl
          have : r.lang = l := by injection hl
          rw [this]; exact h
      · intro h; exact .inr ⟨_, rfl, h⟩
theorem bit_lt {s : BitVec 256} {x : Nat} (h : s.getLsbD x = true) : x < 256 := by
  by_cases hx : x < 256
  · exact hx
  · rw [BitVec.getLsbD_of_ge s x (by omega)] at h; cases h
theorem all_bit {x : Nat} (h : x < 256) : allB.getLsbD x = true := by unfold allB; rw [BitVec.getLsbD_not]; simp [h]
theorem lang_all (t : List Nat) (ht : By t) : starG (rOne allB).lang t := by
  induction t with
  | nil => exact .nil
  | cons x t ih => exact .cons [x] t (by simp) ((lang_one _ _).2 ⟨x, rfl, all_bit (ht x (by simp))⟩) (ih fun y hy => ht y (by simp [hy]))
theorem lang_both {l : List RE} (hw : ∀ r ∈ l, Wf r) (t : List Nat) (ht : By t) : (rBoth l).lang t ↔ ∀ r ∈ l, r.lang t := by
  rw [← all_flatL]
  have hwf := wfk_flat (o := 6) hw
  unfold rBoth
  generalize hf : flatL 6 l = fl at hwf
  simp only []
  have hb : ∀ x, x < 256 → (andSet fl).getLsbD x = fl.all fun r => !(r.op == 2) || r.set.getLsbD x := fun x hx => by unfold andSet; rw [andBits, all_bit hx]; simp
  split
  · rename_i h
    refine iff_of_false (lang_nothing t) fun h' => ?_
    obtain ⟨k, hk, h0⟩ := List.any_eq_true.1 h
    exact lang0 (by simpa using h0) t (h' k hk)
  · rename_i hno
    have hn0 : ∀ k ∈ fl, k.op ≠ 0 := fun k hk h0 => hno (List.any_eq_true.2 ⟨k, hk, by simp [h0]⟩)
    have hcl : met fl = true → ((∀ k ∈ fl, k.op = 2 → k.lang t) ↔ ∃ x, t = [x] ∧ (andSet fl).getLsbD x = true) := by
      intro hm
      obtain ⟨m, hm1, hm2⟩ := List.any_eq_true.1 hm
      have hm2 : m.op = 2 := by simpa using hm2
      constructor
      · intro h
        obtain ⟨x, rfl, hx⟩ := (lang2 hm2 t).1 (h m hm1 hm2)
        refine ⟨x, rfl, ?_⟩
        rw [hb x (bit_lt hx), List.all_eq_true]
        intro k hk
        by_cases h2 : k.op = 2
        · obtain ⟨y, e, hy⟩ := (lang2 h2 _).1 (h k hk h2)
          have : x = y := by simpa using e
          subst this
          simp [hy]
        · simp [h2]
      · rintro ⟨x, rfl, hx⟩ k hk h2
        rw [hb x (bit_lt hx), List.all_eq_true] at hx
        have := hx k hk
        exact (lang2 h2 _).2 ⟨x, rfl, by simpa [h2] using this⟩
    have hnm : met fl = false → ∀ k ∈ fl, k.op ≠ 2 := fun hm k hk h2 => by
      have : met fl = true := List.any_eq_true.2 ⟨k, hk, by simp [h2]⟩
      rw [hm] at this; cases this
    have hks : (∀ k ∈ orKeep fl ++ (if met fl = true then [rOne (andSet fl)] else []), k.lang t) ↔ ∀ k ∈ fl, k.lang t := by
      constructor
      · intro h k hk
        by_cases h2 : k.op = 2
        · have hm : met fl = true := List.any_eq_true.2 ⟨k, hk, by simp [h2]⟩
          refine (hcl hm).2 ((lang_one _ t).1 (h _ (List.mem_append.2 (.inr ?_)))) k hk h2
          rw [if_pos hm]; simp
        · exact h k (List.mem_append.2 (.inl (List.mem_filter.2 ⟨hk, by simp [h2, hn0 k hk]⟩)))
      · intro h k hk
        rcases List.mem_append.1 hk with hk | hk
        · exact h k (List.mem_filter.1 hk).1
        · split at hk
          · rename_i hm
            rw [List.mem_singleton] at hk; subst hk
            exact (lang_one _ t).2 ((hcl hm).1 fun k hk _ => h k hk)
          · simp at hk
    have hwk : ∀ y ∈ orKeep fl ++ (if met fl = true then [rOne (andSet fl)] else []), WfK y := fun y hy => by
      rcases List.mem_append.1 hy with hy | hy
      · exact (hwf y (List.mem_filter.1 hy).1).k
      · split at hy
        · rw [List.mem_singleton] at hy; subst hy; exact (wf_one _).k
        · simp at hy
    split
    · rename_i h0
      refine iff_of_false (lang_nothing t) fun h => ?_
      by_cases hm : met fl = true
      · obtain ⟨x, -, hx⟩ := (hcl hm).1 fun k hk _ => h k hk
        rw [h0] at hx; simp at hx
      · have hm : met fl = false := by simpa using hm
        have h1 := hb 0 (by omega)
        rw [h0] at h1
        have h2 : (fl.all fun r => !(r.op == 2) || r.set.getLsbD 0) = true := List.all_eq_true.2 fun k hk => by simp [hnm hm k hk]
        rw [h2] at h1; simp at h1
    · generalize hkk : orKeep fl ++ (if met fl = true then [rOne (andSet fl)] else []) = ks at hks hwk ⊢
      split
      · rename_i hk0
        rw [← hks, hk0, lang_many]
        exact iff_of_true (lang_all t ht) fun k hk => by simp at hk
      · rw [join_and, ← hks]
        constructor
        · intro h k hk; exact h k ((mem_ordL hwk k).2 hk)
        · intro h k hk; exact h k ((mem_ordL hwk k).1 hk)
theorem lang_but {a b : RE} (ha : Wf a) (hb : Wf b) (t : List Nat) : (rBut a b).lang t ↔ a.lang t ∧ ¬ b.lang t := by
  unfold rBut
  split
  · rename_i h
    rcases h with h | h
    · exact iff_of_false (lang0 h t) fun h' => lang0 h t h'.1
    · exact ⟨fun h' => ⟨h', lang0 h t⟩, fun h' => h'.1⟩
  · split
    · rename_i h
      rw [lang_one, lang2 h.1, lang2 h.2]
      constructor
      · rintro ⟨x, rfl, hx⟩
        have hlt := bit_lt hx
        rw [BitVec.getLsbD_and, BitVec.getLsbD_not, Bool.and_eq_true] at hx
        refine ⟨⟨x, rfl, hx.1⟩, ?_⟩
        rintro ⟨y, e, hy⟩
        have : x = y := by simpa using e
        subst this
        simp [hy] at hx
      · rintro ⟨⟨x, rfl, hx⟩, h2⟩
        refine ⟨x, rfl, ?_⟩
        have hlt := bit_lt hx
        have hn : b.set.getLsbD x = false := Bool.eq_false_iff.2 fun hy => h2 ⟨x, rfl, hy⟩
        rw [BitVec.getLsbD_and, BitVec.getLsbD_not, hx, hn]
        simp [hlt]
    · split
      · rename_i h
        have e := key_inj ha.k hb.k (lexN_zero _ _ h)
        subst e
        exact iff_of_false (lang_nothing t) fun h' => h'.2 h'.1
      · rw [lang7 (r := .mk 7 0#256 [a, b]) rfl]
        constructor
        · rintro ⟨x, y, e, h⟩
          have e : [a.lang, b.lang] = [x, y] := e
          injection e with e1 e2
          injection e2 with e2 _
          rw [e1, e2]; exact h
        · intro h; exact ⟨_, _, rfl, h⟩
theorem lang_word (w t : List Nat) (hw : By w) : (rWord w).lang t ↔ t = w := by
  unfold rWord
  rw [lang_then, List.map_map]
  induction w generalizing t with
  | nil => exact Iff.rfl
  | cons c w ih =>
    have hl : ∀ u, (rLetter c).lang u ↔ u = [c] := fun u => by
      unfold rLetter
      rw [lang_one]
      constructor
      · rintro ⟨x, rfl, hx⟩
        rw [setOf_has _ _ (bit_lt hx)] at hx
        have : x = c := by simpa using hx
        rw [this]
      · rintro rfl
        exact ⟨c, rfl, by rw [setOf_has _ _ (hw c (by simp))]; simp⟩
    rw [List.map_cons]
    constructor
    · rintro ⟨u, v, rfl, h1, h2⟩
      rw [(hl u).1 h1, (ih v (fun x hx => hw x (by simp [hx]))).1 h2]; rfl
    · rintro rfl
      exact ⟨[c], w, rfl, (hl _).2 rfl, (ih w (fun x hx => hw x (by simp [hx]))).2 rfl⟩
end Go.Proofs.YtjcfnmjjkadaeaaGreatDoor
/- The texts of a shape are those of its expression; the text of no bytes; the number of parts. -/
namespace Go.Proofs.YtjcfnmjjkadaeaaGreatDoor
set_option maxRecDepth 100000
set_option linter.unusedSimpArgs false
set_option linter.unusedVariables false

def inG (k a b : Nat) (w : List Nat) (ls : List Lg) : Lg := fun t =>
  if k = 0 then False else if k = 1 then t = [] else if k = 2 then ∃ x, t = [x] ∧ a ≤ x ∧ x ≤ b else if k = 3 then catG ls t else if k = 4 then ∃ l ∈ ls, l t
  else if k = 5 then t = [] ∨ ∃ l, ls[0]? = some l ∧ starG l t else if k = 6 then ∀ l ∈ ls, l t else if k = 7 then (∃ l, ls[0]? = some l ∧ l t) ∧ ¬ ∃ l, ls[1]? = some l ∧ l t else t = w
/-- The texts of a shape, by the page. -/
def SHP.lang : SHP → Lg
  | .mk o l u t ks => inG (SHP.mk o l u t []).k (97 + l % 4) (97 + u % 4) (bytesN t) (ks.map fun k => k.lang)
theorem SHP.lang_mk (o : Int) (l u : Nat) (t : ByteArray) (ks : List SHP) : (SHP.mk o l u t ks).lang = inG (SHP.mk o l u t ks).k (97 + l % 4) (97 + u % 4) (bytesN t) (ks.map SHP.lang) := by rw [SHP.lang]; rfl
theorem catG_nil (ls : List Lg) : catG ls [] ↔ ∀ l ∈ ls, l [] := by
  induction ls with
  | nil => simp [catG]
  | cons l ls ih =>
    constructor
    · rintro ⟨u, v, e, h1, h2⟩
      have e2 := List.append_eq_nil_iff.1 e.symm
      rw [e2.1] at h1; rw [e2.2] at h2
      intro m hm
      rcases List.mem_cons.1 hm with rfl | hm
      · exact h1
      · exact ih.1 h2 m hm
    · intro h
      exact ⟨[], [], rfl, h l (by simp), ih.2 fun m hm => h m (by simp [hm])⟩
theorem null_lang (r : RE) : Wf r → (r.null = true ↔ r.lang []) := by
  refine RE.ind (P := fun r => Wf r → (r.null = true ↔ r.lang [])) ?_ r
  intro o s ks ih hw
  have hk : ∀ k ∈ ks, (k.null = true ↔ k.lang []) := fun k hk => ih k hk (by cases hw with | mk _ _ _ h _ => exact h k hk)
  have hs := hw.shp
  simp only [RE.op, RE.set, RE.kids] at hs
  rw [RE.null_mk, RE.lang_mk]
  unfold opG
  have hop := hs.op
  by_cases h1 : o = 1
  · subst h1; simp
  by_cases h2 : o = 2
  · subst h2; simp
  by_cases h3 : o = 3
  · subst h3
    simp only [Nat.reduceEqDiff, if_false, if_true, or_self, or_false, false_or, or_true, true_or, catG_nil]
    simp [List.all_eq_true]
    exact ⟨fun h k hk' => (hk k hk').1 (h k hk'), fun h k hk' => (hk k hk').2 (h k hk')⟩
  by_cases h4 : o = 4
  · subst h4
    simp [List.any_eq_true]
    constructor
    · rintro ⟨k, hk', h⟩; exact ⟨_, ⟨k, hk', rfl⟩, (hk k hk').1 h⟩
    · rintro ⟨l, ⟨k, hk', rfl⟩, h⟩; exact ⟨k, hk', (hk k hk').2 h⟩
  by_cases h5 : o = 5
  · subst h5; simp
  by_cases h6 : o = 6
  · subst h6
    simp [List.all_eq_true]
    exact ⟨fun h k hk' => (hk k hk').1 (h k hk'), fun h k hk' => (hk k hk').2 (h k hk')⟩
  by_cases h7 : o = 7
  · subst h7
    obtain ⟨a, b, rfl, -⟩ := hs.minus rfl
    have ha := hk a (by simp)
    have hb := hk b (by simp)
    simp only [Nat.reduceEqDiff, if_false, if_true, or_self, List.map_cons, List.map_nil]
    rw [Bool.and_eq_true, show ([a.null, b.null].getD 0 false) = a.null from rfl, show ([a.null, b.null].getD 1 false) = b.null from rfl, Bool.not_eq_true', ha]
    constructor
    · rintro ⟨x, y⟩
      exact ⟨_, _, rfl, x, fun hb' => by rw [hb.2 hb'] at y; cases y⟩
    · rintro ⟨x, y, e, h, h'⟩
      injection e with e1 e2
      injection e2 with e2 _
      subst e1 e2
      exact ⟨h, Bool.eq_false_iff.2 fun h2 => h' (hb.1 h2)⟩
  have h0 : o = 0 := by omega
  subst h0
  simp
end Go.Proofs.YtjcfnmjjkadaeaaGreatDoor
/- What stands behind a byte: just those texts. -/
namespace Go.Proofs.YtjcfnmjjkadaeaaGreatDoor
set_option maxRecDepth 100000
set_option linter.unusedSimpArgs false
set_option linter.unusedVariables false
open Go.RowKit

theorem lang_two (x y : RE) (t : List Nat) : (rThen [x, y]).lang t ↔ ∃ u v, t = u ++ v ∧ x.lang u ∧ y.lang v := by
  rw [lang_then]
  simp only [List.map_cons, List.map_nil, catG]
  constructor
  · rintro ⟨u, v, rfl, h1, w, z, rfl, h2, rfl⟩
    exact ⟨u, w, by simp, h1, h2⟩
  · rintro ⟨u, v, rfl, h1, h2⟩
    exact ⟨u, v, rfl, h1, v, [], by simp, h2, rfl⟩
/-- Behind a byte, in a row. -/
theorem lang_cons (b : Nat) (k : RE) (ks : List RE) (hk : Wf k) (hb : b < 256) (ih : ∀ t, By t → ((rBy b k).lang t ↔ k.lang (b :: t))) (t : List Nat) (ht : By t) :
    catG ((k :: ks).map RE.lang) (b :: t) ↔ (rThen [rBy b k, rThen ks]).lang t ∨ (k.null = true ∧ catG (ks.map RE.lang) (b :: t)) := by
  rw [lang_two, List.map_cons, catG, null_lang k hk]
  constructor
  · rintro ⟨u, v, e, h1, h2⟩
    cases u with
    | nil =>
      rw [List.nil_append] at e; subst e
      exact .inr ⟨h1, h2⟩
    | cons c u =>
      rw [List.cons_append] at e
      injection e with e1 e2
      subst e1 e2
      exact .inl ⟨u, v, rfl, (ih u ht.left).2 h1, (lang_then ks v).2 h2⟩
  · rintro (⟨u, v, rfl, h1, h2⟩ | ⟨h1, h2⟩)
    · exact ⟨b :: u, v, rfl, (ih u ht.left).1 h1, (lang_then ks v).1 h2⟩
    · exact ⟨[], b :: t, rfl, h1, h2⟩
theorem wf_byRow (b : Nat) {l : List RE} (h : ∀ r ∈ l, Wf r) : Wf (byOf (behRow b l)) := wf_byOf (wf_behRow b h)
theorem lang_row (b : Nat) (hb : b < 256) : ∀ (l : List RE), (∀ r ∈ l, Wf r) → (∀ k ∈ l, ∀ t, By t → ((rBy b k).lang t ↔ k.lang (b :: t))) → ∀ t, By t → ((byOf (behRow b l)).lang t ↔ catG (l.map RE.lang) (b :: t))
  | [], _, _, t, _ => by
    rw [byRow_nil]
    exact iff_of_false (lang_nothing t) (by simp [catG])
  | k :: ks, hw, hi, t, ht => by
    have hk := hw k (by simp)
    have hks : ∀ r ∈ ks, Wf r := fun r hr => hw r (by simp [hr])
    have ih := lang_row b hb ks hks (fun k h => hi k (by simp [h])) t ht
    rw [lang_cons b k ks hk hb (hi k (by simp)) t ht, by_cons b hk hks, ← ih]
    by_cases hn : k.null = true
    · rw [if_pos hn, lang_any]
      · constructor
        · rintro ⟨r, hr, h⟩
          rcases List.mem_cons.1 hr with rfl | hr
          · exact .inl h
          · rw [List.mem_singleton] at hr; subst hr
            exact .inr ⟨hn, h⟩
        · rintro (h | ⟨-, h⟩)
          · exact ⟨_, by simp, h⟩
          · exact ⟨byOf (behRow b ks), by simp, h⟩
      · intro r hr
        rcases List.mem_cons.1 hr with rfl | hr
        · refine wf_then fun x hx => ?_
          rcases List.mem_cons.1 hx with rfl | hx
          · exact wf_by b hk
          · rw [List.mem_singleton] at hx; subst hx; exact wf_then hks
        · rw [List.mem_singleton] at hr; subst hr; exact wf_byRow b hks
    · rw [if_neg hn]
      exact ⟨.inl, fun h => h.elim id fun h => absurd h.1 hn⟩
theorem star_cons {l : Lg} {b : Nat} {t : List Nat} : starG l (b :: t) ↔ ∃ u v, t = u ++ v ∧ l (b :: u) ∧ starG l v := by
  constructor
  · intro h
    generalize e : b :: t = x at h
    cases h with
    | nil => cases e
    | cons u v h0 h1 h2 =>
      cases u with
      | nil => exact absurd rfl h0
      | cons c u =>
        rw [List.cons_append] at e
        injection e with e1 e2
        subst e1
        exact ⟨u, v, e2, h1, h2⟩
  · rintro ⟨u, v, rfl, h1, h2⟩
    exact .cons (b :: u) v (by simp) h1 h2
theorem lang_5 (s : BitVec 256) (k : RE) (t : List Nat) : (RE.mk 5 s [k]).lang t ↔ starG k.lang t := by
  rw [lang5 (r := RE.mk 5 s [k]) rfl]
  constructor
  · rintro (rfl | ⟨l, e, h⟩)
    · exact .nil
    · simp only [RE.kids, List.map_cons, List.map_nil] at e
      injection e with e1 _
      subst e1; exact h
  · intro h
    exact .inr ⟨_, rfl, h⟩
/-- By: just the texts behind the byte. -/
theorem lang_by (b : Nat) (hb : b < 256) (r : RE) : Wf r → ∀ t, By t → ((rBy b r).lang t ↔ r.lang (b :: t)) := by
  induction r using RE.ind with
  | h o s ks ih =>
    intro hw t ht
    have hk : ∀ k ∈ ks, Wf k := hw.kid
    have hsh : Shp o s ks := hw.shp
    have ho := hsh.op
    have ihk : ∀ k ∈ ks, ∀ t, By t → ((rBy b k).lang t ↔ k.lang (b :: t)) := fun k h => ih k h (hk k h)
    have hmap : ∀ x ∈ ks.map (rBy b), Wf x := fun x hx => by
      obtain ⟨k, h, rfl⟩ := List.mem_map.1 hx
      exact wf_by b (hk k h)
    by_cases h2 : o = 2
    · subst h2
      rw [by_2, lang2 (r := RE.mk 2 s ks) rfl]
      simp only [RE.set]
      split
      · rename_i h
        rw [lang_empty]
        constructor
        · rintro rfl; exact ⟨b, rfl, h⟩
        · rintro ⟨x, e, -⟩; injection e
      · rename_i h
        refine iff_of_false (lang_nothing t) ?_
        rintro ⟨x, e, h'⟩
        injection e with e1 e2
        subst e1; exact h h'
    · by_cases h3 : o = 3
      · subst h3
        rw [rBy, beh3, lang_row b hb ks hk ihk t ht, lang3 (r := RE.mk 3 s ks) rfl]; rfl
      · by_cases h5 : o = 5
        · subst h5
          obtain ⟨k, rfl, -⟩ := hsh.star rfl
          rw [by_5 b hw, lang_two, lang_5, star_cons]
          constructor
          · rintro ⟨u, v, rfl, h1, h2⟩
            exact ⟨u, v, rfl, (ihk k (by simp) u ht.left).1 h1, (lang_5 s k v).1 h2⟩
          · rintro ⟨u, v, rfl, h1, h2⟩
            exact ⟨u, v, rfl, (ihk k (by simp) u ht.left).2 h1, (lang_5 s k v).2 h2⟩
        · by_cases h4 : o = 4
          · subst h4
            rw [by_467 b 4 (by omega) hw, lang4 (r := RE.mk 4 s ks) rfl]
            have e : rWith (.mk 4 s ks) (ks.map (rBy b)) = rAny (ks.map (rBy b)) := by simp [rWith, RE.op]
            rw [e, lang_any hmap]
            simp only [RE.kids, List.mem_map]
            constructor
            · rintro ⟨r, ⟨k, hkk, rfl⟩, h⟩
              exact ⟨k, hkk, (ihk k hkk t ht).1 h⟩
            · rintro ⟨k, hkk, h⟩
              exact ⟨_, ⟨k, hkk, rfl⟩, (ihk k hkk t ht).2 h⟩
          · by_cases h6 : o = 6
            · subst h6
              rw [by_467 b 6 (by omega) hw, lang6 (r := RE.mk 6 s ks) rfl]
              have e : rWith (.mk 6 s ks) (ks.map (rBy b)) = rBoth (ks.map (rBy b)) := by simp [rWith, RE.op]
              rw [e, lang_both hmap t ht]
              simp only [RE.kids, List.mem_map]
              constructor
              · intro h k hkk
                exact (ihk k hkk t ht).1 (h _ ⟨k, hkk, rfl⟩)
              · rintro h r ⟨k, hkk, rfl⟩
                exact (ihk k hkk t ht).2 (h k hkk)
            · by_cases h7 : o = 7
              · subst h7
                obtain ⟨x, y, rfl, -⟩ := hsh.minus rfl
                rw [by_467 b 7 (by omega) hw, lang7 (r := RE.mk 7 s [x, y]) rfl]
                have e : rWith (.mk 7 s [x, y]) ([x, y].map (rBy b)) = rBut (rBy b x) (rBy b y) := by simp [rWith, RE.op]
                rw [e, lang_but (wf_by b (hk x (by simp))) (wf_by b (hk y (by simp))), ihk x (by simp) t ht, ihk y (by simp) t ht]
                simp only [RE.kids, List.map_cons, List.map_nil]
                constructor
                · rintro ⟨h1, h2⟩; exact ⟨_, _, rfl, h1, h2⟩
                · rintro ⟨a, c, e, h1, h2⟩
                  injection e with e1 e; injection e with e2 _
                  subst e1 e2
                  exact ⟨h1, h2⟩
              · rw [by_01 b o s ks (by omega)]
                refine iff_of_false (lang_nothing t) ?_
                intro h
                rw [RE.lang_mk] at h
                unfold opG at h
                rw [if_neg h2, if_neg h3, if_neg h4, if_neg h5, if_neg h6, if_neg h7] at h
                split at h
                · cases h
                · exact h
end Go.Proofs.YtjcfnmjjkadaeaaGreatDoor
/- The states lead where they should: Step, Run, Match as functions. -/
namespace Go.Proofs.YtjcfnmjjkadaeaaGreatDoor
set_option maxRecDepth 100000
set_option linter.unusedSimpArgs false
set_option linter.unusedVariables false
open Go.RowKit

/-! ## What holds of all states -/
theorem fnd_all {P : RE → Prop} {g : Int} {s s1 : Bs} {x : RE} {o : Option Nat} (hS : ∀ y ∈ s.S, P y) (hx : P x) (h : fnd g s x = (s1, o)) : ∀ y ∈ s1.S, P y := by
  unfold fnd at h
  split at h
  · cases h; exact hS
  · split at h
    · cases h; exact hS
    · simp only [Prod.mk.injEq] at h
      obtain ⟨rfl, -⟩ := h
      intro y hy
      rcases List.mem_append.1 hy with h' | h'
      · exact hS y h'
      · simp at h'; subst h'; exact hx
theorem rowA_all {P : RE → Prop} {g : Int} {x : RE} (hP : ∀ b, P (rBy b x)) : ∀ (hs : List Nat) (s s1 : Bs) (acc : List Nat) (o : Option (List Nat)), (∀ y ∈ s.S, P y) → rowA g x hs s acc = (s1, o) → ∀ y ∈ s1.S, P y
  | [], s, s1, acc, o, hS, h => by cases h; exact hS
  | b :: hs, s, s1, acc, o, hS, h => by
    rw [rowA] at h
    split at h
    · rename_i s2 hf
      cases h; exact fnd_all hS (hP b) hf
    · rename_i s2 q hf
      exact rowA_all hP hs s2 s1 _ o (fnd_all hS (hP b) hf) h
theorem bldA_all {P : RE → Prop} {g : Int} {hs : List Nat} (hP : ∀ b x, P x → P (rBy b x)) (h0 : P rNothing) : ∀ (n : Nat) (s s1 : Bs) (rows : List (List Nat)) (o : Option (List (List Nat))), (∀ y ∈ s.S, P y) → bldA g hs n s rows = (s1, o) → ∀ y ∈ s1.S, P y
  | 0, s, s1, rows, o, hS, h => by cases h; exact hS
  | n + 1, s, s1, rows, o, hS, h => by
    have hp : P (s.S.getD rows.length rNothing) := by
      by_cases hq : rows.length < s.S.length
      · rw [List.getD_eq_getElem?_getD, List.getElem?_eq_getElem hq]
        exact hS _ (List.getElem_mem hq)
      · rw [List.getD_eq_getElem?_getD, List.getElem?_eq_none (by omega)]
        exact h0
    rw [bldA] at h
    split at h
    · split at h
      · rename_i s2 hr
        cases h; exact rowA_all (fun b => hP b _ hp) hs s s1 [] _ hS hr
      · rename_i s2 row hr
        exact bldA_all hP h0 n s2 s1 _ o (rowA_all (fun b => hP b _ hp) hs s s2 [] _ hS hr) h
    · cases h; exact hS
theorem bldF_all {P : RE → Prop} {g t : Int} {hs : List Nat} {r : RE} (hP : ∀ b x, P x → P (rBy b x)) (h0 : P rNothing) (hr : P r) {s : Bs} {o : Option (List (List Nat))} (h : bldF g hs r t = (s, o)) : ∀ y ∈ s.S, P y := by
  unfold bldF at h
  split at h
  · rename_i s0 hf
    cases h; exact fnd_all (by simp) hr hf
  · rename_i s0 q hf
    exact bldA_all hP h0 _ s0 s [] o (fnd_all (by simp) hr hf) h

/-! ## Heads -/
theorem idxF_has {pl : List (BitVec 256)} {b : Nat} : ∀ n, n ≤ pl.length → (∃ i, i < n ∧ (pl.getD i 0).getLsbD b = true) → idxF pl n b < n ∧ (pl.getD (idxF pl n b) 0).getLsbD b = true
  | 0, _, ⟨i, hi, _⟩ => by omega
  | n + 1, hn, ⟨i, hi, hb⟩ => by
    rw [idxF]
    split
    · rename_i h
      exact ⟨by omega, h⟩
    · rename_i h
      have hin : i ≠ n := fun e => h (e ▸ hb)
      obtain ⟨h1, h2⟩ := idxF_has n (by omega) ⟨i, by omega, hb⟩
      exact ⟨by omega, h2⟩
/-- The head that stands for a byte is told apart from it by no set. -/
theorem head_of {l pl : List (BitVec 256)} (h : IsPart l pl) {b : Nat} (hb : b < 256) :
    idxF pl pl.length b < pl.length ∧ (pl.map least).getD (idxF pl pl.length b) 0 < 256 ∧ cls l b ((pl.map least).getD (idxF pl pl.length b) 0) := by
  obtain ⟨p, hp, hpb⟩ := h.cov b hb
  obtain ⟨i, hi, rfl⟩ := List.mem_iff_getElem.1 hp
  obtain ⟨h1, h2⟩ := idxF_has (pl := pl) (b := b) pl.length (Nat.le_refl _) ⟨i, hi, by rw [List.getD_eq_getElem?_getD, List.getElem?_eq_getElem hi]; exact hpb⟩
  refine ⟨h1, ?_⟩
  generalize idxF pl pl.length b = k at *
  rw [List.getD_eq_getElem?_getD, List.getElem?_eq_getElem h1] at h2
  have hk : pl[k] ∈ pl := List.getElem_mem h1
  have hne := (h.mem _ hk).1
  have e : (pl.map least).getD k 0 = least pl[k] := by simp [List.getD_eq_getElem?_getD, h1]
  rw [e]
  refine ⟨least_lt _, ?_⟩
  exact ((h.mem _ hk).2 b hb h2 (least pl[k]) (least_lt _)).1 (least_mem hne).1

/-! ## Step and Run -/
def stepN (rows : List (List Nat)) (hd : Nat → Nat) (q : Int) (b : Nat) : Int :=
  if 0 ≤ q ∧ q < rows.length then ((rows.getD q.toNat []).getD (hd b) 0 : Nat) else -1
def runN (rows : List (List Nat)) (hd : Nat → Nat) (q : Int) (t : List Nat) : Int := t.foldl (stepN rows hd) q
theorem runN_append (rows : List (List Nat)) (hd : Nat → Nat) (q : Int) (t u : List Nat) : runN rows hd q (t ++ u) = runN rows hd (runN rows hd q t) u := by
  unfold runN; rw [List.foldl_append]
def yesN (S : List RE) (q : Int) : Bool := decide (0 ≤ q ∧ q < S.length) && (S.getD q.toNat rNothing).null
/-- All that is known of what Build has made. -/
structure DfaOk (r : RE) (pl : List (BitVec 256)) (S : List RE) (rows : List (List Nat)) : Prop where
  part : IsPart (r.sts false) pl
  len : rows.length = S.length
  rows : RowsOk (pl.map least) S rows
  first : S.getD 0 rNothing = r
  pos : 0 < S.length
  wf : ∀ x ∈ S, Wf x
  low : ∀ x ∈ S, x.size ≤ 20000
  bl : ∀ x ∈ S, ∀ a b, a < 256 → b < 256 → cls (r.sts false) a b → Bl a b x
theorem dfaOk {g : Int} {r : RE} {pl : List (BitVec 256)} {s : Bs} {rows : List (List Nat)} (hr : Wf r) (hg : 0 ≤ g) (hp : IsPart (r.sts false) pl) (h : bldF g (pl.map least) r 0 = (s, some rows)) : DfaOk r pl s.S rows := by
  obtain ⟨h1, h2, h3, h4, h5⟩ := bldF_ok hr hg h
  refine ⟨hp, h3, h2, h4, h5, h1.wf, h1.low, ?_⟩
  have := bldF_all (P := fun x => Wf x ∧ ∀ a b, a < 256 → b < 256 → cls (r.sts false) a b → Bl a b x)
    (fun b x hx => ⟨wf_by b hx.1, fun a c ha hc hh => bl_by ha hc b hx.1 (hx.2 a c ha hc hh)⟩) ⟨wf_nothing, fun a c _ _ _ => bl_nothing a c⟩ ⟨hr, fun a c _ _ hh => hh⟩ h
  exact fun x hx => (this x hx).2
theorem DfaOk.get {r : RE} {pl : List (BitVec 256)} {S : List RE} {rows : List (List Nat)} (h : DfaOk r pl S rows) {q : Nat} (hq : q < S.length) : S.getD q rNothing ∈ S := by
  rw [List.getD_eq_getElem?_getD, List.getElem?_eq_getElem hq]
  exact List.getElem_mem hq
/-- A byte leads from a state to that of what stands behind it. -/
theorem DfaOk.step {r : RE} {pl : List (BitVec 256)} {S : List RE} {rows : List (List Nat)} (h : DfaOk r pl S rows) {q b : Nat} (hq : q < S.length) (hb : b < 256) :
    ∃ q', stepN rows (idxF pl pl.length) q b = (q' : Nat) ∧ q' < S.length ∧ S.getD q' rNothing = rBy b (S.getD q rNothing) := by
  obtain ⟨h1, h2, h3⟩ := head_of h.part hb
  have hl := h.len
  refine ⟨(rows.getD q []).getD (idxF pl pl.length b) 0, ?_, ?_⟩
  · unfold stepN
    rw [if_pos (by omega)]
    simp
  · have hrow := (h.rows.2 q (by omega)).at' (idxF pl pl.length b) (by simpa using h1)
    refine ⟨hrow.1, hrow.2.1.trans ?_⟩
    exact (bl_same (h.bl _ (h.get hq) b _ hb h2 h3)).symm
theorem DfaOk.run {r : RE} {pl : List (BitVec 256)} {S : List RE} {rows : List (List Nat)} (h : DfaOk r pl S rows) : ∀ (t : List Nat) (q : Nat), q < S.length → By t →
    ∃ q', runN rows (idxF pl pl.length) q t = (q' : Nat) ∧ q' < S.length ∧ ∀ u, By u → ((S.getD q' rNothing).lang u ↔ (S.getD q rNothing).lang (t ++ u))
  | [], q, hq, ht => ⟨q, rfl, hq, fun u _ => Iff.rfl⟩
  | b :: t, q, hq, ht => by
    have hb : b < 256 := ht b (by simp)
    have ht' : By t := fun x hx => ht x (by simp [hx])
    obtain ⟨q1, e1, h1, h2⟩ := h.step hq hb
    obtain ⟨q2, e2, h3, h4⟩ := DfaOk.run h t q1 h1 ht'
    refine ⟨q2, ?_, h3, fun u hu => ?_⟩
    · rw [← e2, ← e1]; rfl
    · rw [h4 u hu, h2]
      exact lang_by b hb _ (h.wf _ (h.get hq)) (t ++ u) (fun x hx => (List.mem_append.1 hx).elim (ht' x) (hu x))
/-- Match: just the texts of the expression. -/
theorem DfaOk.match {r : RE} {pl : List (BitVec 256)} {S : List RE} {rows : List (List Nat)} (h : DfaOk r pl S rows) {t : List Nat} (ht : By t) : yesN S (runN rows (idxF pl pl.length) 0 t) = true ↔ r.lang t := by
  obtain ⟨q, e, hq, hl⟩ := h.run t 0 h.pos ht
  have e : runN rows (idxF pl pl.length) 0 t = (q : Nat) := e
  rw [e, yesN, decide_eq_true (by omega), Bool.true_and, Int.toNat_natCast, null_lang _ (h.wf _ (h.get hq)), hl [] (by simp [By]), h.first, List.append_nil]
end Go.Proofs.YtjcfnmjjkadaeaaGreatDoor
/- One state asked for, in its three ways; the first state; the map of the states' keys. -/
namespace Go.Proofs.YtjcfnmjjkadaeaaGreatDoor
set_option maxRecDepth 100000
set_option linter.unusedSimpArgs false
set_option linter.unusedVariables false
open Go.RowKit

/-- The three ways. -/
theorem fnd_ways {g : Int} {s : Bs} {x : RE} (h : BsOk g s) (hx : Wf x) :
    (∃ q, posL x s.S = some q ∧ q < s.S.length ∧ s.S.getD q rNothing = x ∧ x.size ≤ 20000 ∧ fnd g s x = (s, some q)) ∨
    (posL x s.S = none ∧ (g < s.S.length + 1 ∨ 20000 < x.size) ∧ (fnd g s x).2 = none) ∨
    (posL x s.S = none ∧ (s.S.length + 1 : Int) ≤ g ∧ x.size ≤ 20000 ∧ fnd g s x = (⟨s.S ++ [x], s.t + 1⟩, some s.S.length)) := by
  have ht := h.t
  have hta : aft g s.t 1 = if g - s.t < 1 then (-s.t - 1, false) else (s.t + 1, true) := by
    unfold aft; rw [if_neg (by omega), if_neg (by omega)]
  cases hp : posL x s.S with
  | some q =>
    obtain ⟨hq, hk⟩ := posL_some hp
    have he : s.S[q] = x := key_inj (h.wf _ (List.getElem_mem hq)).k hx.k hk
    have hs : x.size ≤ 20000 := by rw [← he]; exact h.low _ (List.getElem_mem hq)
    refine .inl ⟨q, rfl, hq, by rw [List.getD_eq_getElem?_getD, List.getElem?_eq_getElem hq]; exact he, hs, ?_⟩
    unfold fnd
    rw [if_neg (by omega), hp]
  | none =>
    refine .inr ?_
    by_cases hs : 20000 < x.size
    · exact .inl ⟨rfl, .inr hs, by unfold fnd; rw [if_pos hs]⟩
    · by_cases hg : g < s.S.length + 1
      · refine .inl ⟨rfl, .inl hg, ?_⟩
        unfold fnd
        rw [if_neg hs, hp, hta, if_pos (by omega)]
        simp
      · refine .inr ⟨rfl, by omega, by omega, ?_⟩
        unfold fnd
        rw [if_neg hs, hp, hta, if_neg (by omega)]
        simp
theorem bs_start {g : Int} {r : RE} (hr : Wf r) (hs : r.size ≤ 20000) (hg : 1 ≤ g) : fnd g ⟨[], 0⟩ r = (⟨[r], 1⟩, some 0) ∧ BsOk g ⟨[r], 1⟩ := by
  have h0 : BsOk g ⟨[], 0⟩ := ⟨by simp, by simp, by simp, rfl, by show (0 : Int) ≤ g; omega⟩
  rcases fnd_ways h0 hr with ⟨q, hp, -⟩ | ⟨-, hh, -⟩ | ⟨-, -, -, he⟩
  · cases hp
  · rcases hh with hh | hh
    · simp at hh; omega
    · omega
  · exact ⟨he, (fnd_ok h0 hr he).1⟩
/-- The place of an expression among those that lie apart: any with its key. -/
theorem posL_is {S : List RE} (hap : S.Pairwise fun x y => x.key ≠ y.key) {q : Nat} (hq : q < S.length) {x : RE} (h : S[q].key = x.key) : posL x S = some q := by
  unfold posL
  rw [List.findIdx?_eq_some_iff_getElem]
  refine ⟨hq, by simpa using h, fun j hj => ?_⟩
  have := (List.pairwise_iff_getElem.1 hap) j q (by omega) hq hj
  rw [h] at this
  simpa using this
end Go.Proofs.YtjcfnmjjkadaeaaGreatDoor
/- Which states are live: a search against the steps, and one along them. -/
namespace Go.Proofs.YtjcfnmjjkadaeaaGreatDoor
set_option maxRecDepth 100000
set_option linter.unusedSimpArgs false
set_option linter.unusedVariables false
open Go.RowKit

inductive LiveN (rows : List (List Nat)) (Y : Nat → Bool) : Nat → Prop where
  | here (q : Nat) : Y q = true → LiveN rows Y q
  | step (p q : Nat) : q ∈ rows.getD p [] → LiveN rows Y q → LiveN rows Y p
/-- While the states are gone through from which one leads to q: those that are still to be looked at are rem. -/
structure Back (rows : List (List Nat)) (Y : Nat → Bool) (L : List Bool) (todo : List Nat) (q : Nat) (rem : List Nat) : Prop where
  len : L.length = rows.length
  sound : ∀ x, L.getD x false = true → LiveN rows Y x
  yes : ∀ x, x < rows.length → Y x = true → L.getD x false = true
  todo' : ∀ x ∈ todo, L.getD x false = true ∧ x < rows.length
  back : ∀ p x, p < rows.length → x ∈ rows.getD p [] → L.getD x false = true → L.getD p false = true ∨ x ∈ todo ∨ (x = q ∧ p ∈ rem)
theorem Back.start {rows : List (List Nat)} {Y : Nat → Bool} {L : List Bool} {todo : List Nat} {q q0 : Nat} {from' : List Nat} (h : Back rows Y L (todo ++ [q]) q0 []) (hf : ∀ p, p < rows.length → q ∈ rows.getD p [] → p ∈ from') :
    Back rows Y L todo q from' :=
  ⟨h.len, h.sound, h.yes, fun x hx => h.todo' x (by simp [hx]), fun p x hp hx hl => by
    rcases h.back p x hp hx hl with h1 | h1 | h1
    · exact .inl h1
    · rcases List.mem_append.1 h1 with h1 | h1
      · exact .inr (.inl h1)
      · simp at h1; subst h1
        exact .inr (.inr ⟨rfl, hf p hp hx⟩)
    · simp at h1⟩
theorem Back.known {rows : List (List Nat)} {Y : Nat → Bool} {L : List Bool} {todo : List Nat} {q p : Nat} {rem : List Nat} (h : Back rows Y L todo q (p :: rem)) (hp : L.getD p false = true) : Back rows Y L todo q rem :=
  ⟨h.len, h.sound, h.yes, h.todo', fun p' x hp' hx hl => by
    rcases h.back p' x hp' hx hl with h1 | h1 | ⟨h1, h2⟩
    · exact .inl h1
    · exact .inr (.inl h1)
    · rcases List.mem_cons.1 h2 with rfl | h2
      · exact .inl hp
      · exact .inr (.inr ⟨h1, h2⟩)⟩
theorem getD_set {L : List Bool} {p x : Nat} (hp : p < L.length) : (L.set p true).getD x false = if x = p then true else L.getD x false := by
  rw [List.getD_eq_getElem?_getD, List.getElem?_set]
  by_cases e : p = x
  · rw [if_pos e, if_pos e.symm, if_pos hp]; rfl
  · rw [if_neg e, if_neg (fun e' => e e'.symm), List.getD_eq_getElem?_getD]
theorem Back.new {rows : List (List Nat)} {Y : Nat → Bool} {L : List Bool} {todo : List Nat} {q p : Nat} {rem : List Nat} (h : Back rows Y L todo q (p :: rem)) (hp : p < rows.length) (he : q ∈ rows.getD p []) (hq : LiveN rows Y q) :
    Back rows Y (L.set p true) (todo ++ [p]) q rem := by
  have hpl : p < L.length := by rw [h.len]; exact hp
  have hs : ∀ x, (L.set p true).getD x false = if x = p then true else L.getD x false := fun x => getD_set hpl
  refine ⟨by simp [h.len], fun x hx => ?_, fun x hx hy => ?_, fun x hx => ?_, fun p' x hp' hx hl => ?_⟩
  · rw [hs] at hx
    split at hx
    · rename_i e; subst e; exact .step x q he hq
    · exact h.sound x hx
  · rw [hs]; split
    · rfl
    · exact h.yes x hx hy
  · rw [hs]
    rcases List.mem_append.1 hx with hx | hx
    · refine ⟨?_, (h.todo' x hx).2⟩
      split
      · rfl
      · exact (h.todo' x hx).1
    · simp at hx; subst hx
      exact ⟨by simp, hp⟩
  · rw [hs] at hl ⊢
    by_cases e : p' = p
    · exact .inl (by rw [if_pos e])
    · rw [if_neg e]
      by_cases e2 : x = p
      · exact .inr (.inl (by simp [e2]))
      · rw [if_neg e2] at hl
        rcases h.back p' x hp' hx hl with h1 | h1 | ⟨h1, h2⟩
        · exact .inl h1
        · exact .inr (.inl (by simp [h1]))
        · rcases List.mem_cons.1 h2 with rfl | h2
          · exact absurd rfl e
          · exact .inr (.inr ⟨h1, h2⟩)
theorem Back.last {rows : List (List Nat)} {Y : Nat → Bool} {L : List Bool} {todo : List Nat} {q q' : Nat} (h : Back rows Y L todo q []) : Back rows Y L todo q' [] :=
  ⟨h.len, h.sound, h.yes, h.todo', fun p x hp hx hl => by
    rcases h.back p x hp hx hl with h1 | h1 | ⟨h1, h2⟩
    · exact .inl h1
    · exact .inr (.inl h1)
    · simp at h2⟩
/-- Where none is left to be looked at, all are found. -/
theorem Back.done {rows : List (List Nat)} {Y : Nat → Bool} {L : List Bool} {q : Nat} (h : Back rows Y L [] q []) {x : Nat} (hx : x < rows.length) (hY : ∀ x, Y x = true → x < rows.length) (hr : ∀ p, p < rows.length → ∀ x ∈ rows.getD p [], x < rows.length) :
    L.getD x false = true ↔ LiveN rows Y x := by
  refine ⟨h.sound x, fun hl => ?_⟩
  induction hl with
  | here q hq => exact h.yes q hx hq
  | step p q hq _ ih =>
    rcases h.back p q hx hq (ih (hr p hx q hq)) with h1 | h1 | ⟨-, h1⟩
    · exact h1
    · simp at h1
    · simp at h1
/-- How much is left to be done. -/
def leftN (L : List Bool) (todo : List Nat) : Nat := 2 * (L.filter (! ·)).length + todo.length
/-! ## Along the steps -/
structure Fwd (rows : List (List Nat)) (Y : Nat → Bool) (q0 : Nat) (l : List Nat) : Prop where
  first : q0 ∈ l
  from' : ∀ x ∈ l, LiveN rows Y x → LiveN rows Y q0
theorem Fwd.start (rows : List (List Nat)) (Y : Nat → Bool) (q0 : Nat) : Fwd rows Y q0 [q0] := ⟨by simp, fun x hx h => by simp at hx; subst hx; exact h⟩
theorem Fwd.snoc {rows : List (List Nat)} {Y : Nat → Bool} {q0 p x : Nat} {l : List Nat} (h : Fwd rows Y q0 l) (hp : p ∈ l) (hx : x ∈ rows.getD p []) : Fwd rows Y q0 (l ++ [x]) :=
  ⟨by simp [h.first], fun y hy hl => by
    rcases List.mem_append.1 hy with hy | hy
    · exact h.from' y hy hl
    · simp at hy; subst hy
      exact h.from' p hp (.step p _ hx hl)⟩
theorem Fwd.found {rows : List (List Nat)} {Y : Nat → Bool} {q0 : Nat} {l : List Nat} (h : Fwd rows Y q0 l) (hc : ∀ p ∈ l, ∀ x ∈ rows.getD p [], x ∈ l) : (l.any Y = true) ↔ LiveN rows Y q0 := by
  constructor
  · intro ha
    obtain ⟨x, hx, hy⟩ := List.any_eq_true.1 ha
    exact h.from' x hx (.here x hy)
  · intro hl
    have key : ∀ x, LiveN rows Y x → x ∈ l → l.any Y = true := fun x hx => by
      induction hx with
      | here q hq => intro hm; exact List.any_eq_true.2 ⟨q, hm, hq⟩
      | step p q hq _ ih => intro hm; exact ih (hc p hm q hq)
    exact key q0 hl h.first
end Go.Proofs.YtjcfnmjjkadaeaaGreatDoor
