/- The mathematics of parts: which part a byte lies in. -/
import Derived.Test.YtfoamihjmmgnlaaDoorMathPart
import Derived.Test.YtfoamihjmmgnlaaDoorPartA
namespace Go.Proofs.YtfoamihjmmgnlaaDoor
set_option maxRecDepth 100000
open Go.RowKit

theorem idxF_none {pl : List (BitVec 256)} {b : Nat} : ∀ (k : Nat), (∀ i, i < k → (pl.getD i 0).getLsbD b = false) → idxF pl k b = 0
  | 0, _ => rfl
  | k + 1, h => by
    show (if (pl.getD k 0).getLsbD b then k else idxF pl k b) = 0
    rw [h k (by omega), if_neg (by simp)]
    exact idxF_none k fun i hi => h i (by omega)
/-- The one set that has it. -/
theorem idxF_one {pl : List (BitVec 256)} {b i : Nat} (hi : (pl.getD i 0).getLsbD b = true) : ∀ (k : Nat), i < k → (∀ j, j < k → (pl.getD j 0).getLsbD b = true → j = i) → idxF pl k b = i
  | 0, h, _ => by omega
  | k + 1, h, hu => by
    show (if (pl.getD k 0).getLsbD b then k else idxF pl k b) = i
    by_cases e : (pl.getD k 0).getLsbD b = true
    · rw [if_pos e]; exact hu k (by omega) e
    · rw [if_neg e]
      refine idxF_one hi k ?_ fun j hj => hu j (by omega)
      rcases Nat.lt_or_ge i k with h1 | h1
      · exact h1
      · obtain rfl : i = k := by omega
        exact absurd hi e

theorem IsPart.at_most {l pl : List (BitVec 256)} (h : IsPart l pl) {i j b : Nat} (hi : i < pl.length) (hj : j < pl.length) (h1 : (pl.getD i 0).getLsbD b = true) (h2 : (pl.getD j 0).getLsbD b = true) : i = j := by
  have hap := List.pairwise_iff_getElem.1 h.apart
  simp only [List.getD_eq_getElem?_getD, List.getElem?_eq_getElem hi, List.getElem?_eq_getElem hj, Option.getD_some] at h1 h2
  rcases Nat.lt_trichotomy i j with e | e | e
  · have := hap i j hi hj e b h1; rw [h2] at this; cases this
  · exact e
  · have := hap j i hj hi e b h2; rw [h1] at this; cases this
theorem IsPart.some_at {l pl : List (BitVec 256)} (h : IsPart l pl) {b : Nat} (hb : b < 256) : ∃ i, i < pl.length ∧ (pl.getD i 0).getLsbD b = true := by
  obtain ⟨p, hp, hpb⟩ := h.cov b hb
  obtain ⟨i, hi, rfl⟩ := List.getElem_of_mem hp
  exact ⟨i, hi, by simpa [List.getD_eq_getElem?_getD, hi] using hpb⟩
/-- Index tells in which part a byte lies. -/
theorem IsPart.idx {l pl : List (BitVec 256)} (h : IsPart l pl) {b i : Nat} (hb : b < 256) (hi : i < pl.length) : idxF pl pl.length b = i ↔ (pl.getD i 0).getLsbD b = true := by
  obtain ⟨j, hj, hjb⟩ := h.some_at hb
  have e : idxF pl pl.length b = j := idxF_one hjb _ hj fun k hk hkb => h.at_most hk hj hkb hjb
  rw [e]
  constructor
  · rintro rfl; exact hjb
  · intro hib; exact h.at_most hj hi hjb hib
/-- Two bytes have one number just where no set parts them. -/
theorem IsPart.idx_cls {l pl : List (BitVec 256)} (h : IsPart l pl) {a b : Nat} (ha : a < 256) (hb : b < 256) : idxF pl pl.length a = idxF pl pl.length b ↔ cls l a b := by
  obtain ⟨i, hi, hia⟩ := h.some_at ha
  have e := (h.idx ha hi).2 hia
  have hm : pl.getD i 0 ∈ pl := by simp [List.getD_eq_getElem?_getD, hi]
  rw [e]
  constructor
  · intro h1
    exact ((h.mem _ hm).2 a ha hia b hb).1 ((h.idx hb hi).1 h1.symm)
  · intro h1
    exact ((h.idx hb hi).2 (((h.mem _ hm).2 a ha hia b hb).2 h1)).symm
/-- There are no more parts than bytes. -/
theorem IsPart.length_le {l pl : List (BitVec 256)} (h : IsPart l pl) : pl.length ≤ 256 := by
  have hn : (pl.map least).Nodup := by
    refine List.pairwise_map.2 (h.apart.imp_of_mem ?_)
    intro p q hp hq hpq e
    have := hpq _ (least_mem (h.mem p hp).1).1
    rw [e, (least_mem (h.mem q hq).1).1] at this
    cases this
  have hsub : ∀ x ∈ pl.map least, x ∈ List.range 256 := fun x hx => by
    obtain ⟨p, -, rfl⟩ := List.mem_map.1 hx
    exact List.mem_range.2 (least_lt p)
  have := List.Nodup.length_le_of_subset hn (fun x hx => hsub x hx)
  simpa using this
/-- All of some sets. -/
def orL (l : List (BitVec 256)) : BitVec 256 := l.foldl (· ||| ·) 0#256
theorem orL_bit (l : List (BitVec 256)) (b : Nat) : ∀ a : BitVec 256, (l.foldl (· ||| ·) a).getLsbD b = true ↔ a.getLsbD b = true ∨ ∃ p ∈ l, p.getLsbD b = true := by
  induction l with
  | nil => intro a; simp
  | cons x r ih =>
    intro a
    rw [List.foldl_cons, ih, BitVec.getLsbD_or]
    simp [or_assoc]
theorem IsPart.all {l pl : List (BitVec 256)} (h : IsPart l pl) : orL pl = allB := by
  refine BitVec.eq_of_getLsbD_eq fun i hi => ?_
  have h1 : allB.getLsbD i = true := by rw [show allB = ~~~0#256 from rfl, BitVec.getLsbD_not, BitVec.getLsbD_zero]; simp [hi]
  rw [h1]
  exact (orL_bit pl i _).2 (.inr (h.cov i hi))
theorem IsPart.next {l pl : List (BitVec 256)} (h : IsPart l pl) {k : Nat} (hk : k < pl.length) : orL (pl.take k) &&& pl.getD k 0 = 0#256 := by
  refine BitVec.eq_of_getLsbD_eq fun i hi => ?_
  rw [BitVec.getLsbD_and, BitVec.getLsbD_zero]
  cases e : (orL (pl.take k)).getLsbD i with
  | false => simp
  | true =>
    rcases (orL_bit _ _ _).1 e with h0 | ⟨p, hp, hpi⟩
    · simp at h0
    · obtain ⟨j, hj, rfl⟩ := List.getElem_of_mem hp
      have hj1 : j < k := by simp at hj; omega
      have hj2 : j < pl.length := by omega
      cases e2 : (pl.getD k 0).getLsbD i with
      | false => simp
      | true =>
        have := h.at_most hj2 hk (b := i) (by simpa [List.getD_eq_getElem?_getD, hj2] using hpi) e2
        omega
theorem IsPart.rising {l pl : List (BitVec 256)} (h : IsPart l pl) (hs : pl.Pairwise fun x y => least x ≤ least y) : pl.Pairwise fun x y => least x < least y := by
  refine (hs.and h.apart).imp_of_mem ?_
  rintro p q hp hq ⟨h1, h2⟩
  rcases Nat.lt_or_ge (least p) (least q) with h3 | h3
  · exact h3
  · have e : least p = least q := by omega
    have := h2 _ (least_mem (h.mem p hp).1).1
    rw [e, (least_mem (h.mem q hq).1).1] at this
    cases this
end Go.Proofs.YtfoamihjmmgnlaaDoor
