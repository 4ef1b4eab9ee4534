/- The mathematics of parts. -/
import Derived.Test.YtfoamihjmmgnlaaDoorPartC
import Derived.Test.YtfoamihjmmgnlaaDoorMathNext
namespace Go.Proofs.YtfoamihjmmgnlaaDoor
set_option maxRecDepth 100000
open Go.RowKit

/-- No set of the list parts these two bytes. -/
def cls (l : List (BitVec 256)) (a b : Nat) : Prop := ∀ s ∈ l, s.getLsbD a = s.getLsbD b
theorem cls_refl (l : List (BitVec 256)) (a : Nat) : cls l a a := fun _ _ => rfl
theorem cls_symm {l : List (BitVec 256)} {a b : Nat} (h : cls l a b) : cls l b a := fun s hs => (h s hs).symm
theorem cls_trans {l : List (BitVec 256)} {a b c : Nat} (h : cls l a b) (k : cls l b c) : cls l a c := fun s hs => (h s hs).trans (k s hs)
theorem cls_snoc (l : List (BitVec 256)) (s : BitVec 256) (a b : Nat) : cls (l ++ [s]) a b ↔ cls l a b ∧ s.getLsbD a = s.getLsbD b := by
  constructor
  · intro h; exact ⟨fun t ht => h t (by simp [ht]), h s (by simp)⟩
  · rintro ⟨h1, h2⟩ t ht
    rcases List.mem_append.1 ht with h | h
    · exact h1 t h
    · obtain rfl : t = s := by simpa using h
      exact h2
theorem has_byte {p : BitVec 256} (h : p ≠ 0#256) : ∃ a, a < 256 ∧ p.getLsbD a = true := by
  by_cases hex : ∃ a, a < 256 ∧ p.getLsbD a = true
  · exact hex
  · refine absurd (BitVec.eq_of_getLsbD_eq fun i hi => ?_) h
    rw [BitVec.getLsbD_zero]
    cases hb : p.getLsbD i with
    | false => rfl
    | true => exact absurd ⟨i, hi, hb⟩ hex

/-- The parts of a list of sets. -/
structure IsPart (l pl : List (BitVec 256)) : Prop where
  mem : ∀ p ∈ pl, p ≠ 0#256 ∧ ∀ a, a < 256 → p.getLsbD a = true → ∀ b, b < 256 → (p.getLsbD b = true ↔ cls l a b)
  cov : Covers pl
  apart : pl.Pairwise fun p q => ∀ b, p.getLsbD b = true → q.getLsbD b = false

theorem isPart_all : IsPart [] [allB] := by
  refine ⟨fun p hp => ?_, covers_all, by simp⟩
  obtain rfl : p = allB := by simpa using hp
  have hall : ∀ i, i < 256 → allB.getLsbD i = true := fun i hi => by rw [show allB = ~~~0#256 from rfl, BitVec.getLsbD_not, BitVec.getLsbD_zero]; simp [hi]
  refine ⟨fun e => ?_, fun a _ _ b hb => ⟨fun _ s hs => by simp at hs, fun _ => hall b hb⟩⟩
  have := hall 0 (by omega)
  rw [e] at this; simp at this

theorem mem_halves {p s h : BitVec 256} : h ∈ halves p s ↔ (h = p &&& s ∨ h = p &&& ~~~s) ∧ h ≠ 0#256 := by
  simp [halves]
theorem half_bit {p s h : BitVec 256} (hh : h ∈ halves p s) : h ≠ 0#256 ∧ ∃ v : Bool, ∀ b, b < 256 → (h.getLsbD b = true ↔ p.getLsbD b = true ∧ s.getLsbD b = v) := by
  obtain ⟨h1, h2⟩ := mem_halves.1 hh
  refine ⟨h2, ?_⟩
  rcases h1 with rfl | rfl
  · exact ⟨true, fun b _ => by rw [BitVec.getLsbD_and]; simp⟩
  · refine ⟨false, fun b hb => ?_⟩
    rw [BitVec.getLsbD_and, BitVec.getLsbD_not]
    cases p.getLsbD b <;> cases s.getLsbD b <;> simp [hb]

theorem IsPart.cut {l pl : List (BitVec 256)} (h : IsPart l pl) (s : BitVec 256) : IsPart (l ++ [s]) (cutL pl s) := by
  refine ⟨fun q hq => ?_, h.cov.cut s, ?_⟩
  · obtain ⟨p, hp, hqp⟩ := List.mem_flatMap.1 hq
    obtain ⟨hne, v, hv⟩ := half_bit hqp
    refine ⟨hne, fun a ha hqa b hb => ?_⟩
    obtain ⟨pa, sa⟩ := (hv a ha).1 hqa
    rw [hv b hb, cls_snoc, (h.mem p hp).2 a ha pa b hb, sa]
    constructor
    · rintro ⟨h1, h2⟩; exact ⟨h1, h2.symm⟩
    · rintro ⟨h1, h2⟩; exact ⟨h1, h2.symm⟩
  · unfold cutL
    rw [List.pairwise_flatMap]
    refine ⟨fun p hp => ?_, h.apart.imp fun {p q} hpq x hx y hy b hb => ?_⟩
    · refine List.Pairwise.filter _ ?_
      rw [List.pairwise_cons]
      refine ⟨fun y hy b hb => ?_, by simp⟩
      obtain rfl : y = p &&& ~~~s := by simpa using hy
      rw [BitVec.getLsbD_and] at hb
      rw [BitVec.getLsbD_and, BitVec.getLsbD_not]
      simp at hb
      simp [hb.2]
    · have h256 : b < 256 := by
        rcases Nat.lt_or_ge b 256 with h | h
        · exact h
        · rw [BitVec.getLsbD_of_ge _ _ h] at hb; cases hb
      obtain ⟨-, v, hv⟩ := half_bit hx
      obtain ⟨-, u, hu⟩ := half_bit hy
      have hpb := ((hv b h256).1 hb).1
      have hqb := hpq b hpb
      cases e : y.getLsbD b with
      | false => rfl
      | true => have := ((hu b h256).1 e).1; rw [hqb] at this; cases this
theorem isPart_fold (l : List (BitVec 256)) : ∀ l0 pl, IsPart l0 pl → IsPart (l0 ++ l) (l.foldl cutL pl) := by
  induction l with
  | nil => intro l0 pl h; simpa using h
  | cons x r ih => intro l0 pl h; have := ih (l0 ++ [x]) _ (h.cut x); simpa using this
theorem isPart_ref (l : List (BitVec 256)) : IsPart l (refL l) := by
  have := isPart_fold l [] _ isPart_all
  rwa [List.nil_append] at this

theorem IsPart.perm {l l' pl : List (BitVec 256)} (h : IsPart l pl) (hp : l'.Perm pl) : IsPart l l' := by
  refine ⟨fun p hm => h.mem p (hp.subset hm), fun b hb => ?_, ?_⟩
  · obtain ⟨p, h1, h2⟩ := h.cov b hb
    exact ⟨p, hp.symm.subset h1, h2⟩
  · refine (hp.pairwise_iff ?_).2 h.apart
    intro p q hpq b hb
    cases e : p.getLsbD b with
    | false => rfl
    | true => rw [hpq b e] at hb; cases hb
/-- One byte lies in one part. -/
theorem IsPart.same {l pl : List (BitVec 256)} (h : IsPart l pl) {p q : BitVec 256} (hp : p ∈ pl) (hq : q ∈ pl) {b : Nat} (hb : b < 256) (h1 : p.getLsbD b = true) (h2 : q.getLsbD b = true) : p = q := by
  refine BitVec.eq_of_getLsbD_eq fun i hi => ?_
  have e1 := (h.mem p hp).2 b hb h1 i hi
  have e2 := (h.mem q hq).2 b hb h2 i hi
  have : p.getLsbD i = true ↔ q.getLsbD i = true := e1.trans e2.symm
  cases hpi : p.getLsbD i <;> cases hqi : q.getLsbD i <;> simp_all
theorem least_mem {p : BitVec 256} (h : p ≠ 0#256) : p.getLsbD (least p) = true ∧ ∀ b, b < 256 → p.getLsbD b = true → least p ≤ b := by
  obtain ⟨a, ha, hpa⟩ := has_byte h
  have hup := bytesOf_up p
  have hm := (mem_bytes p a).2 ⟨ha, hpa⟩
  unfold least
  cases e : bytesOf p with
  | nil => rw [e] at hm; simp at hm
  | cons x r =>
    rw [e] at hup
    refine ⟨((mem_bytes p x).1 (by rw [e]; simp)).2, fun b hb hpb => ?_⟩
    have hmb := (mem_bytes p b).2 ⟨hb, hpb⟩
    rw [e] at hmb
    rcases List.mem_cons.1 hmb with rfl | hr
    · simp
    · have := (List.pairwise_cons.1 hup).1 b hr
      simp; omega
theorem IsPart.least_inj {l pl : List (BitVec 256)} (h : IsPart l pl) {p q : BitVec 256} (hp : p ∈ pl) (hq : q ∈ pl) (he : least p = least q) : p = q :=
  h.same hp hq (least_lt p) (least_mem (h.mem p hp).1).1 (he ▸ (least_mem (h.mem q hq).1).1)
theorem IsPart.nodup {l pl : List (BitVec 256)} (h : IsPart l pl) : pl.Nodup := by
  refine (h.apart.imp_of_mem ?_)
  intro p q hp hq hpq e
  obtain ⟨a, ha, hpa⟩ := has_byte (h.mem p hp).1
  have := hpq a hpa
  rw [← e, hpa] at this
  cases this
/-- Two lists of sets that part the same bytes have the same parts. -/
theorem IsPart.unique {l l2 pl pl2 : List (BitVec 256)} (h : IsPart l pl) (h2 : IsPart l2 pl2) (hc : ∀ a b, a < 256 → b < 256 → (cls l a b ↔ cls l2 a b)) : pl.Perm pl2 := by
  have key : ∀ {l l2 pl pl2 : List (BitVec 256)}, IsPart l pl → IsPart l2 pl2 → (∀ a b, a < 256 → b < 256 → (cls l a b ↔ cls l2 a b)) → ∀ p ∈ pl, p ∈ pl2 := by
    intro l l2 pl pl2 h h2 hc p hp
    obtain ⟨a, ha, hpa⟩ := has_byte (h.mem p hp).1
    obtain ⟨q, hq, hqa⟩ := h2.cov a ha
    have : p = q := BitVec.eq_of_getLsbD_eq fun i hi => by
      have e1 := (h.mem p hp).2 a ha hpa i hi
      have e2 := (h2.mem q hq).2 a ha hqa i hi
      have e3 : p.getLsbD i = true ↔ q.getLsbD i = true := e1.trans ((hc a i ha hi).trans e2.symm)
      cases hpi : p.getLsbD i <;> cases hqi : q.getLsbD i <;> simp_all
    rw [this]; exact hq
  refine (List.perm_ext_iff_of_nodup h.nodup h2.nodup).2 fun p => ⟨key h h2 hc p, key h2 h (fun a b ha hb => (hc a b ha hb).symm) p⟩
/-- Sorted by their least bytes they are one list. -/
theorem parts_one {l l2 a b : List (BitVec 256)} (ha : a.Perm (refL l)) (hb : b.Perm (refL l2)) (hc : ∀ x y, x < 256 → y < 256 → (cls l x y ↔ cls l2 x y)) (sa : a.Pairwise fun x y => least x ≤ least y) (sb : b.Pairwise fun x y => least x ≤ least y) : a = b := by
  have hA := (isPart_ref l).perm ha
  have hB := (isPart_ref l2).perm hb
  have hp := hA.unique hB hc
  refine List.Perm.eq_of_pairwise (le := fun x y => least x ≤ least y) ?_ sa sb hp
  intro x y hx hy h1 h2
  exact hA.least_inj hx (hp.symm.subset hy) (Nat.le_antisymm h1 h2)
/-- The sets turned, with one that is there and its rest behind, part the same bytes. -/
theorem cls_turned (l : List (BitVec 256)) (t : Nat) (s : BitVec 256) (hs : s ∈ l) (a b : Nat) (ha : a < 256) (hb : b < 256) : cls l a b ↔ cls (l.drop t ++ l.take t ++ [s, ~~~s]) a b := by
  have hm : ∀ x, x ∈ l.drop t ++ l.take t ↔ x ∈ l := fun x => by
    rw [List.mem_append, or_comm, ← List.mem_append, List.take_append_drop]
  constructor
  · intro h x hx
    rcases List.mem_append.1 hx with h1 | h1
    · exact h x ((hm x).1 h1)
    · simp at h1
      rcases h1 with rfl | rfl
      · exact h _ hs
      · rw [BitVec.getLsbD_not, BitVec.getLsbD_not, h s hs]
        simp [ha, hb]
  · intro h x hx
    exact h x (List.mem_append.2 (.inl ((hm x).2 hx)))
/-- So Refine gives the same parts. -/
theorem parts_turned {l a b : List (BitVec 256)} (t : Nat) {s : BitVec 256} (hs : s ∈ l) (ha : a.Perm (refL l)) (hb : b.Perm (refL (l.drop t ++ l.take t ++ [s, ~~~s]))) (sa : a.Pairwise fun x y => least x ≤ least y) (sb : b.Pairwise fun x y => least x ≤ least y) : a = b :=
  parts_one ha hb (cls_turned l t s hs) sa sb
end Go.Proofs.YtfoamihjmmgnlaaDoor
