/- DerivParts answers true for every shape: the parts are as the page says, all bytes together, and bytes of one part have the same behind them. Conditions: the table of math/bits holds what its initialiser lays (the card ties that to the program's text). -/
/- Texts of this claim put together: MathPart, MathDv4, PartE, DvI, LawDerivParts, ProofDerivParts. -/
import Derived.Test.YthemadegffhmfaaGreatDoorJoinPartC
import Derived.Test.YthemadegffhmfaaGreatDoorJoinGen
import Derived.Test.YthemadegffhmfaaGreatDoorJoinLawHead5
import Derived.Test.YthemadegffhmfaaGreatDoorJoinOpenS
import Derived.Test.YthemadegffhmfaaGreatDoorCards
import Derived.Test.YthemadegffhmfaaGreatDoorTie
/- The mathematics of parts. -/
namespace Go.Proofs.YthemadegffhmfaaGreatDoor
set_option maxRecDepth 100000
open Go.RowKit

/-- No set of the list parts these two bytes. -/
def cls (l : List (BitVec 256)) (a b : Nat) : Prop := ∀ s ∈ l, s.getLsbD a = s.getLsbD b
theorem cls_refl (l : List (BitVec 256)) (a : Nat) : cls l a a := fun _ _ => rfl
theorem cls_symm {l : List (BitVec 256)} {a b : Nat} (h : cls l a b) : cls l b a := fun s hs => (h s hs).symm
theorem cls_trans {l : List (BitVec 256)} {a b c : Nat} (h : cls l a b) (k : cls l b c) : cls l a c := fun s hs => (h s hs).trans (k s hs)
theorem cls_snoc (l : List (BitVec 256)) (s : BitVec 256) (a b : Nat) : cls (l ++ [s]) a b ↔ cls l a b ∧ s.getLsbD a = s.getLsbD b := by
  constructor
  · intro h; exact ⟨fun t ht => h t (by simp [ht]), h s (by simp)⟩
  · rintro ⟨h1, h2⟩ t ht
    rcases List.mem_append.1 ht with h | h
    · exact h1 t h
    · obtain rfl : t = s := by simpa using h
      exact h2
theorem has_byte {p : BitVec 256} (h : p ≠ 0#256) : ∃ a, a < 256 ∧ p.getLsbD a = true := by
  by_cases hex : ∃ a, a < 256 ∧ p.getLsbD a = true
  · exact hex
  · refine absurd (BitVec.eq_of_getLsbD_eq fun i hi => ?_) h
    rw [BitVec.getLsbD_zero]
    cases hb : p.getLsbD i with
    | false => rfl
    | true => exact absurd ⟨i, hi, hb⟩ hex

/-- The parts of a list of sets. -/
structure IsPart (l pl : List (BitVec 256)) : Prop where
  mem : ∀ p ∈ pl, p ≠ 0#256 ∧ ∀ a, a < 256 → p.getLsbD a = true → ∀ b, b < 256 → (p.getLsbD b = true ↔ cls l a b)
  cov : Covers pl
  apart : pl.Pairwise fun p q => ∀ b, p.getLsbD b = true → q.getLsbD b = false

theorem isPart_all : IsPart [] [allB] := by
  refine ⟨fun p hp => ?_, covers_all, by simp⟩
  obtain rfl : p = allB := by simpa using hp
  have hall : ∀ i, i < 256 → allB.getLsbD i = true := fun i hi => by rw [show allB = ~~~0#256 from rfl, BitVec.getLsbD_not, BitVec.getLsbD_zero]; simp [hi]
  refine ⟨fun e => ?_, fun a _ _ b hb => ⟨fun _ s hs => by simp at hs, fun _ => hall b hb⟩⟩
  have := hall 0 (by omega)
  rw [e] at this; simp at this

theorem mem_halves {p s h : BitVec 256} : h ∈ halves p s ↔ (h = p &&& s ∨ h = p &&& ~~~s) ∧ h ≠ 0#256 := by
  simp [halves]
theorem half_bit {p s h : BitVec 256} (hh : h ∈ halves p s) : h ≠ 0#256 ∧ ∃ v : Bool, ∀ b, b < 256 → (h.getLsbD b = true ↔ p.getLsbD b = true ∧ s.getLsbD b = v) := by
  obtain ⟨h1, h2⟩ := mem_halves.1 hh
  refine ⟨h2, ?_⟩
  rcases h1 with rfl | rfl
  · exact ⟨true, fun b _ => by rw [BitVec.getLsbD_and]; simp⟩
  · refine ⟨false, fun b hb => ?_⟩
    rw [BitVec.getLsbD_and, BitVec.getLsbD_not]
    cases p.getLsbD b <;> cases s.getLsbD b <;> simp [hb]

theorem IsPart.cut {l pl : List (BitVec 256)} (h : IsPart l pl) (s : BitVec 256) : IsPart (l ++ [s]) (cutL pl s) := by
  refine ⟨fun q hq => ?_, h.cov.cut s, ?_⟩
  · obtain ⟨p, hp, hqp⟩ := List.mem_flatMap.1 hq
    obtain ⟨hne, v, hv⟩ := half_bit hqp
    refine ⟨hne, fun a ha hqa b hb => ?_⟩
    obtain ⟨pa, sa⟩ := (hv a ha).1 hqa
    rw [hv b hb, cls_snoc, (h.mem p hp).2 a ha pa b hb, sa]
    constructor
    · rintro ⟨h1, h2⟩; exact ⟨h1, h2.symm⟩
    · rintro ⟨h1, h2⟩; exact ⟨h1, h2.symm⟩
  · unfold cutL
    rw [List.pairwise_flatMap]
    refine ⟨fun p hp => ?_, h.apart.imp fun {p q} hpq x hx y hy b hb => ?_⟩
    · refine List.Pairwise.filter _ ?_
      rw [List.pairwise_cons]
      refine ⟨fun y hy b hb => ?_, by simp⟩
      obtain rfl : y = p &&& ~~~s := by simpa using hy
      rw [BitVec.getLsbD_and] at hb
      rw [BitVec.getLsbD_and, BitVec.getLsbD_not]
      simp at hb
      simp [hb.2]
    · have h256 : b < 256 := by
        rcases Nat.lt_or_ge b 256 with h | h
        · exact h
        · rw [BitVec.getLsbD_of_ge _ _ h] at hb; cases hb
      obtain ⟨-, v, hv⟩ := half_bit hx
      obtain ⟨-, u, hu⟩ := half_bit hy
      have hpb := ((hv b h256).1 hb).1
      have hqb := hpq b hpb
      cases e : y.getLsbD b with
      | false => rfl
      | true => have := ((hu b h256).1 e).1; rw [hqb] at this; cases this
theorem isPart_fold (l : List (BitVec 256)) : ∀ l0 pl, IsPart l0 pl → IsPart (l0 ++ l) (l.foldl cutL pl) := by
  induction l with
  | nil => intro l0 pl h; simpa using h
  | cons x r ih => intro l0 pl h; have := ih (l0 ++ [x]) _ (h.cut x); simpa using this
theorem isPart_ref (l : List (BitVec 256)) : IsPart l (refL l) := by
  have := isPart_fold l [] _ isPart_all
  rwa [List.nil_append] at this

theorem IsPart.perm {l l' pl : List (BitVec 256)} (h : IsPart l pl) (hp : l'.Perm pl) : IsPart l l' := by
  refine ⟨fun p hm => h.mem p (hp.subset hm), fun b hb => ?_, ?_⟩
  · obtain ⟨p, h1, h2⟩ := h.cov b hb
    exact ⟨p, hp.symm.subset h1, h2⟩
  · refine (hp.pairwise_iff ?_).2 h.apart
    intro p q hpq b hb
    cases e : p.getLsbD b with
    | false => rfl
    | true => rw [hpq b e] at hb; cases hb
/-- One byte lies in one part. -/
theorem IsPart.same {l pl : List (BitVec 256)} (h : IsPart l pl) {p q : BitVec 256} (hp : p ∈ pl) (hq : q ∈ pl) {b : Nat} (hb : b < 256) (h1 : p.getLsbD b = true) (h2 : q.getLsbD b = true) : p = q := by
  refine BitVec.eq_of_getLsbD_eq fun i hi => ?_
  have e1 := (h.mem p hp).2 b hb h1 i hi
  have e2 := (h.mem q hq).2 b hb h2 i hi
  have : p.getLsbD i = true ↔ q.getLsbD i = true := e1.trans e2.symm
  cases hpi : p.getLsbD i <;> cases hqi : q.getLsbD i <;> simp_all
theorem least_mem {p : BitVec 256} (h : p ≠ 0#256) : p.getLsbD (least p) = true ∧ ∀ b, b < 256 → p.getLsbD b = true → least p ≤ b := by
  obtain ⟨a, ha, hpa⟩ := has_byte h
  have hup := bytesOf_up p
  have hm := (mem_bytes p a).2 ⟨ha, hpa⟩
  unfold least
  cases e : bytesOf p with
  | nil => rw [e] at hm; simp at hm
  | cons x r =>
    rw [e] at hup
    refine ⟨((mem_bytes p x).1 (by rw [e]; simp)).2, fun b hb hpb => ?_⟩
    have hmb := (mem_bytes p b).2 ⟨hb, hpb⟩
    rw [e] at hmb
    rcases List.mem_cons.1 hmb with rfl | hr
    · simp
    · have := (List.pairwise_cons.1 hup).1 b hr
      simp; omega
theorem IsPart.least_inj {l pl : List (BitVec 256)} (h : IsPart l pl) {p q : BitVec 256} (hp : p ∈ pl) (hq : q ∈ pl) (he : least p = least q) : p = q :=
  h.same hp hq (least_lt p) (least_mem (h.mem p hp).1).1 (he ▸ (least_mem (h.mem q hq).1).1)
theorem IsPart.nodup {l pl : List (BitVec 256)} (h : IsPart l pl) : pl.Nodup := by
  refine (h.apart.imp_of_mem ?_)
  intro p q hp hq hpq e
  obtain ⟨a, ha, hpa⟩ := has_byte (h.mem p hp).1
  have := hpq a hpa
  rw [← e, hpa] at this
  cases this
/-- Two lists of sets that part the same bytes have the same parts. -/
theorem IsPart.unique {l l2 pl pl2 : List (BitVec 256)} (h : IsPart l pl) (h2 : IsPart l2 pl2) (hc : ∀ a b, a < 256 → b < 256 → (cls l a b ↔ cls l2 a b)) : pl.Perm pl2 := by
  have key : ∀ {l l2 pl pl2 : List (BitVec 256)}, IsPart l pl → IsPart l2 pl2 → (∀ a b, a < 256 → b < 256 → (cls l a b ↔ cls l2 a b)) → ∀ p ∈ pl, p ∈ pl2 := by
    intro l l2 pl pl2 h h2 hc p hp
    obtain ⟨a, ha, hpa⟩ := has_byte (h.mem p hp).1
    obtain ⟨q, hq, hqa⟩ := h2.cov a ha
    have : p = q := BitVec.eq_of_getLsbD_eq fun i hi => by
      have e1 := (h.mem p hp).2 a ha hpa i hi
      have e2 := (h2.mem q hq).2 a ha hqa i hi
      have e3 : p.getLsbD i = true ↔ q.getLsbD i = true := e1.trans ((hc a i ha hi).trans e2.symm)
      cases hpi : p.getLsbD i <;> cases hqi : q.getLsbD i <;> simp_all
    rw [this]; exact hq
  refine (List.perm_ext_iff_of_nodup h.nodup h2.nodup).2 fun p => ⟨key h h2 hc p, key h2 h (fun a b ha hb => (hc a b ha hb).symm) p⟩
/-- Sorted by their least bytes they are one list. -/
theorem parts_one {l l2 a b : List (BitVec 256)} (ha : a.Perm (refL l)) (hb : b.Perm (refL l2)) (hc : ∀ x y, x < 256 → y < 256 → (cls l x y ↔ cls l2 x y)) (sa : a.Pairwise fun x y => least x ≤ least y) (sb : b.Pairwise fun x y => least x ≤ least y) : a = b := by
  have hA := (isPart_ref l).perm ha
  have hB := (isPart_ref l2).perm hb
  have hp := hA.unique hB hc
  refine List.Perm.eq_of_pairwise (le := fun x y => least x ≤ least y) ?_ sa sb hp
  intro x y hx hy h1 h2
  exact hA.least_inj hx (hp.symm.subset hy) (Nat.le_antisymm h1 h2)
/-- The sets turned, with one that is there and its rest behind, part the same bytes. -/
theorem cls_turned (l : List (BitVec 256)) (t : Nat) (s : BitVec 256) (hs : s ∈ l) (a b : Nat) (ha : a < 256) (hb : b < 256) : cls l a b ↔ cls (l.drop t ++ l.take t ++ [s, ~~~s]) a b := by
  have hm : ∀ x, x ∈ l.drop t ++ l.take t ↔ x ∈ l := fun x => by
    rw [List.mem_append, or_comm, ← List.mem_append, List.take_append_drop]
  constructor
  · intro h x hx
    rcases List.mem_append.1 hx with h1 | h1
    · exact h x ((hm x).1 h1)
    · simp at h1
      rcases h1 with rfl | rfl
      · exact h _ hs
      · rw [BitVec.getLsbD_not, BitVec.getLsbD_not, h s hs]
        simp [ha, hb]
  · intro h x hx
    exact h x (List.mem_append.2 (.inl ((hm x).2 hx)))
/-- So Refine gives the same parts. -/
theorem parts_turned {l a b : List (BitVec 256)} (t : Nat) {s : BitVec 256} (hs : s ∈ l) (ha : a.Perm (refL l)) (hb : b.Perm (refL (l.drop t ++ l.take t ++ [s, ~~~s]))) (sa : a.Pairwise fun x y => least x ≤ least y) (sb : b.Pairwise fun x y => least x ≤ least y) : a = b :=
  parts_one ha hb (cls_turned l t s hs) sa sb
end Go.Proofs.YthemadegffhmfaaGreatDoor
/- On which sets By hangs. -/
namespace Go.Proofs.YthemadegffhmfaaGreatDoor
set_option maxRecDepth 100000
set_option linter.unusedSimpArgs false
set_option linter.unusedVariables false
open Go.RowKit

theorem wayL_same (a b : Nat) : ∀ l : List RE, (∀ k ∈ l.take (leadN l), k.beh a = k.beh b) → wayL l (l.map (RE.beh a)) = wayL l (l.map (RE.beh b))
  | [], _ => rfl
  | k :: l, h => by
    have h0 : k.beh a = k.beh b := h k (by
      rw [leadN]
      split
      · rw [Nat.add_comm, List.take_succ_cons]; simp
      · simp)
    rw [List.map_cons, List.map_cons, wayL, wayL, h0]
    by_cases hn : k.null = true
    · rw [if_pos hn, if_pos hn, wayL_same a b l fun x hx => h x (by
        rw [leadN, if_pos hn, Nat.add_comm, List.take_succ_cons]
        exact List.mem_cons_of_mem _ hx)]
    · rw [if_neg hn, if_neg hn]
theorem mem_sts {f : Bool} {o : Nat} {s : BitVec 256} {ks : List RE} (h2 : o ≠ 2) {k : RE} (hk : k ∈ ks.take (pickN f o ks)) {x : BitVec 256} (hx : x ∈ k.sts f) : x ∈ (RE.mk o s ks).sts f := by
  rw [RE.sts_mk, if_neg h2, ← List.map_take, List.mem_flatten]
  exact ⟨_, List.mem_map.2 ⟨k, hk, rfl⟩, hx⟩
/-- Bytes that no set on which By hangs tells apart have the same behind them. -/
theorem beh_same (a b : Nat) (r : RE) : (∀ s ∈ r.sts true, s.getLsbD a = s.getLsbD b) → r.beh a = r.beh b := by
  induction r using RE.ind with
  | h o s ks ih =>
    intro h
    by_cases h2 : o = 2
    · subst h2
      rw [beh2, beh2, h s (by rw [RE.sts_mk, if_pos rfl]; simp)]
    · have hk : ∀ k ∈ ks.take (pickN true o ks), k.beh a = k.beh b := fun k hk => ih k (List.mem_of_mem_take hk) fun x hx => h x (mem_sts h2 hk hx)
      by_cases h3 : o = 3
      · subst h3
        rw [beh3, beh3]
        unfold behRow
        rw [wayL_same a b ks (by simpa [pickN] using hk)]
      · have hp : pickN true o ks = ks.length := by simp [pickN, h3]
        rw [hp, List.take_length] at hk
        have hm : ks.map (RE.beh a) = ks.map (RE.beh b) := List.map_congr_left hk
        rw [RE.beh_mk, RE.beh_mk, hm]
        simp only [if_neg h2]
theorem by_same (a b : Nat) (r : RE) (h : ∀ s ∈ r.sts true, s.getLsbD a = s.getLsbD b) : rBy a r = rBy b r := by
  unfold rBy
  rw [beh_same a b r h]

theorem leadN_stop : ∀ (l : List RE) (k : Nat) (h : k < l.length), k < leadN l → (l[k]).null = false → leadN l = k + 1
  | x :: l, 0, _, _, hn => by
    simp only [List.getElem_cons_zero] at hn
    rw [leadN, hn]; rfl
  | x :: l, k + 1, h, hk, hn => by
    simp only [List.getElem_cons_succ] at hn
    rw [leadN] at hk ⊢
    by_cases hx : x.null = true
    · rw [if_pos hx] at hk ⊢
      have := leadN_stop l k (by simpa using h) (by omega) hn
      omega
    · rw [if_neg hx] at hk; omega
theorem leadN_on : ∀ (l : List RE) (k : Nat) (h : k < l.length), k < leadN l → (l[k]).null = true → k + 1 < l.length → k + 1 < leadN l
  | x :: l, 0, _, _, hn, h1 => by
    simp only [List.getElem_cons_zero] at hn
    rw [leadN, if_pos hn]
    have := leadN_pos (l := l) (by simpa using h1)
    omega
  | x :: l, k + 1, h, hk, hn, h1 => by
    simp only [List.getElem_cons_succ] at hn
    rw [leadN] at hk ⊢
    by_cases hx : x.null = true
    · rw [if_pos hx] at hk ⊢
      have := leadN_on l k (by simpa using h) (by omega) hn (by simpa using h1)
      omega
    · rw [if_neg hx] at hk; omega
theorem leadN_end : ∀ (l : List RE) (k : Nat) (h : k < l.length), k < leadN l → (l[k]).null = true → k + 1 = l.length → leadN l = k + 1
  | x :: l, 0, _, _, hn, h1 => by
    simp only [List.getElem_cons_zero] at hn
    have : l = [] := List.length_eq_zero_iff.1 (by simpa using h1.symm)
    subst this
    rw [leadN, if_pos hn]; rfl
  | x :: l, k + 1, h, hk, hn, h1 => by
    simp only [List.getElem_cons_succ] at hn
    rw [leadN] at hk ⊢
    by_cases hx : x.null = true
    · rw [if_pos hx] at hk ⊢
      have := leadN_end l k (by simpa using h) (by omega) hn (by simpa using h1)
      omega
    · rw [if_neg hx] at hk; omega

/-! ## Parts: how many, and how many bytes -/
def cntTo (p : BitVec 256) (n : Nat) : Nat := ((List.range n).filter fun b => p.getLsbD b).length
theorem cntTo_succ (p : BitVec 256) (n : Nat) : cntTo p (n + 1) = cntTo p n + (if p.getLsbD n then 1 else 0) := by
  unfold cntTo
  rw [List.range_succ, List.filter_append, List.length_append]
  by_cases h : p.getLsbD n = true <;> simp [h]
def cntS (pl : List (BitVec 256)) (n : Nat) : Nat := (pl.map fun p => cntTo p n).sum
theorem cntS_succ : ∀ (pl : List (BitVec 256)) (n : Nat), cntS pl (n + 1) = cntS pl n + (pl.filter fun p => p.getLsbD n).length
  | [], n => rfl
  | p :: pl, n => by
    have ih := cntS_succ pl n
    unfold cntS at ih ⊢
    rw [List.map_cons, List.sum_cons, ih, cntTo_succ, List.map_cons, List.sum_cons, List.filter_cons]
    by_cases h : p.getLsbD n = true
    · rw [if_pos h, if_pos h, List.length_cons]; omega
    · rw [if_neg h, if_neg h]; omega
theorem apart_one : ∀ (pl : List (BitVec 256)) (b : Nat), (pl.Pairwise fun p q => ∀ b, p.getLsbD b = true → q.getLsbD b = false) → (∃ p ∈ pl, p.getLsbD b = true) → (pl.filter fun p => p.getLsbD b).length = 1
  | [], _, _, h => by obtain ⟨p, hp, -⟩ := h; simp at hp
  | p :: pl, b, hp, h => by
    obtain ⟨h1, h2⟩ := List.pairwise_cons.1 hp
    rw [List.filter_cons]
    by_cases hb : p.getLsbD b = true
    · rw [if_pos hb]
      have : pl.filter (fun p => p.getLsbD b) = [] := List.filter_eq_nil_iff.2 fun q hq => by rw [h1 q hq b hb]; simp
      rw [this]; rfl
    · rw [if_neg hb]
      obtain ⟨q, hq, hqb⟩ := h
      rcases List.mem_cons.1 hq with rfl | hq
      · exact absurd hqb hb
      · exact apart_one pl b h2 ⟨q, hq, hqb⟩
theorem parts_sum {l pl : List (BitVec 256)} (h : IsPart l pl) : ∀ n, n ≤ 256 → cntS pl n = n
  | 0, _ => by
    clear h
    induction pl with
    | nil => rfl
    | cons p pl ih =>
      unfold cntS at ih ⊢
      rw [List.map_cons, List.sum_cons, ih]
      rfl
  | n + 1, hn => by
    rw [cntS_succ, parts_sum h n (by omega), apart_one pl n h.apart (h.cov n (by omega))]
theorem cntTo_pos {p : BitVec 256} (h : p ≠ 0#256) : 1 ≤ cntTo p 256 := by
  obtain ⟨a, ha, hb⟩ := has_byte h
  unfold cntTo
  have : a ∈ (List.range 256).filter fun b => p.getLsbD b := List.mem_filter.2 ⟨List.mem_range.2 ha, hb⟩
  exact List.length_pos_of_mem this
theorem len_sum : ∀ (pl : List (BitVec 256)), (∀ p ∈ pl, p ≠ 0#256) → pl.length ≤ cntS pl 256
  | [], _ => by simp
  | p :: pl, h => by
    have ih := len_sum pl (fun q hq => h q (by simp [hq]))
    have := cntTo_pos (h p (by simp))
    unfold cntS at ih ⊢
    rw [List.map_cons, List.sum_cons, List.length_cons]
    omega
theorem parts_256 {l pl : List (BitVec 256)} (h : IsPart l pl) : pl.length ≤ 256 := by
  have h1 := len_sum pl (fun p hp => (h.mem p hp).1)
  rw [parts_sum h 256 (Nat.le_refl _)] at h1
  exact h1
theorem cntS_take_succ (pl : List (BitVec 256)) (k : Nat) (h : k < pl.length) : cntS (pl.take (k + 1)) 256 = cntS (pl.take k) 256 + cntTo (pl.getD k 0) 256 := by
  unfold cntS
  rw [List.take_succ_eq_append_getElem h, List.map_append, List.sum_append, List.getD_eq_getElem?_getD, List.getElem?_eq_getElem h]
  simp
end Go.Proofs.YthemadegffhmfaaGreatDoor
/- Refine, of however many sets. -/
namespace Go.Proofs.YthemadegffhmfaaGreatDoor
set_option maxRecDepth 100000
set_option linter.unusedSimpArgs false
set_option linter.unusedVariables false
open Go.RowKit

set_option maxRecDepth 100000 in
set_option maxHeartbeats 1000000 in
theorem refine_big (l : List (BitVec 256)) (v : Value) (w : World) (hv : SetsRow w v l) (hl : l.length ≤ 1099511627776) (hT : TabAt w) :
    Calls Tryz.prog 12 #[v] w fun e w' => ∃ v' l', e = .returned v' ∧ l'.Perm (refL l) ∧ l'.Pairwise (fun x y => least x ≤ least y) ∧ SetsRow w' v' l' ∧ Below w.heap.size w w' := by
  have HV := hide hv
  have HT := hide hT
  have hG : 0 < w.heap.size := World.block_lt_of_cell? _ _ (hT 0 (by omega))
  obtain ⟨hlen, ad, cap, rfl, -⟩ := hv
  clear hT
  go_enter Tryz.func12, Tryz.ntmps12
  go_wp2_with fail
  refine (all_any _).mono ?_
  rintro e w1 ⟨rfl, hb⟩
  have HB := hide hb
  clear hb
  go_wp2
  generalize hB : w.heap.size = B at *
  go_loopw [3, 10] (fun parts i wr => ∃ k : Nat, k ≤ l.length ∧ i = .int .i64 k ∧ wr.ownsRow B 32 4 parts (refL (l.take k)).length (flat (refL (l.take k))) ∧ Below B w wr) (fun _ i _ => l.length - (intOf i).toNat)
  case atStart =>
    have := HB.out.size
    refine ⟨0, by omega, rfl, ⟨by simp [flat, refL, encS], .inr ⟨w1.heap.size, 1, WS allB, rfl, by omega, Blk.newAt rfl _ _, by simp [refL], by unfold maxLen; omega, by simp, by simp [refL, flat, encS]⟩⟩, HB.out.alloc (by omega) _⟩
  case round =>
    obtain ⟨k, hk, rfl, hown, hbel⟩ := hrel
    have hcov := refL_covers (l.take k)
    have hlenk : (refL (l.take k)).length ≤ 1024 := Nat.le_trans (parts_256 (isPart_ref _)) (by omega)
    obtain ⟨g, cap2, rfl, hg, hin⟩ := own_in hown rfl hcov.pos
    have hrow : SetsRow wr (.slice (some ⟨g, 0, none⟩) (refL (l.take k)).length cap2) (refL (l.take k)) := in_row hin (by omega)
    by_cases hlt : k < l.length
    · obtain ⟨-, ad', cap', hv', hc⟩ := HV.out.below (hB ▸ hbel)
      obtain ⟨rfl, rfl⟩ : ad = ad' ∧ cap = cap' := by cases hv'; exact ⟨rfl, rfl⟩
      obtain ⟨bb, off, rfl, hbb, hc⟩ := hc k hlt
      obtain ⟨p, hp⟩ : ∃ p, p = l.getD k 0 := ⟨_, rfl⟩
      rw [← hp] at hc
      have HP := hide hp
      have c0 := hc 0 (by omega); have c1 := hc 1 (by omega); have c2 := hc 2 (by omega); have c3 := hc 3 (by omega)
      rw [Nat.add_zero] at c0
      clear hv' hp hc
      have hkI : (k : Int) < l.length := by omega
      have hkd : decide (k < l.length) = true := by simp [hlt]
      have HROW := hide hrow
      have HBE := hide hbel
      have hsz := hbel.size
      clear hrow hbel hown hin
      generalize hrl : (refL (l.take k)).length = rl at *
      go_wp2_with fail
      refine (cut_any (refL (l.take k)) _ p _ (HROW.out.below ((Below.refl _ _).alloc (Nat.le_refl _) _)) (by omega)).mono ?_
      rintro e w2 ⟨v', rfl, ho2, hb2⟩
      have HO2 := hide ho2
      have HB2 := hide hb2
      clear ho2 hb2 c0 c1 c2 c3
      go_wp2
      refine ⟨⟨k + 1, by omega, by go_num, ?_, HBE.out.trans ?_⟩, by simp [intOf]; omega⟩
      · have e : refL (l.take (k + 1)) = cutL (refL (l.take k)) p := by
          have hpl : p = l[k] := by rw [HP.out]; simp [List.getD_eq_getElem?_getD, hlt]
          unfold refL
          rw [List.take_succ_eq_append_getElem hlt, List.foldl_append, hpl]
          rfl
        rw [e]
        exact own_mono HO2.out (by simp; omega)
      · exact ((Below.refl B wr).alloc (by omega) _).trans (HB2.out.mono (by simp; omega))
    · obtain rfl : k = l.length := by omega
      rw [List.take_length] at *
      go_wp2_with fail
      have hgne : g ≠ 0 := by omega
      refine (sort_any g cap2 (refL l) wr (HT.out.agree (Agree.of_all (K := fun _ => True) (hB ▸ hbel)) trivial) hgne (by omega) hin).mono ?_
      rintro e w2 ⟨rfl, l', hperm, hpw, hin2, hos, htp, hou, hsz2, hblk⟩
      have hsz := hbel.size
      have HB2 := hide (hbel.trans ⟨hos, htp, hou, hsz2, fun k hk => hblk k (by omega) (by omega)⟩)
      have HP2 := hide hperm
      have HPW := hide hpw
      have HIN := hide hin2
      clear hos htp hou hsz2 hblk hperm hpw hin2 hin hrow hown
      go_wp2
      go_ret
      refine ⟨_, l', rfl, HP2.out, HPW.out, ?_, by rw [hB]; exact HB2.out⟩
      have hll := HP2.out.length_eq
      rw [← hll]
      exact in_row HIN.out (by omega)
end Go.Proofs.YthemadegffhmfaaGreatDoor
/- package deriv: Parts; the statements' own way to the sets on which By hangs. -/
namespace Go.Proofs.YthemadegffhmfaaGreatDoor
set_option maxRecDepth 100000
set_option linter.unusedSimpArgs false
set_option linter.unusedVariables false
open Go.RowKit

theorem leading_fix (ad : Option Addr) (cap : Nat) (qs : List (Nat × RE)) (w : World) (h : RowAt w (.slice ad qs.length cap) qs) (hr : ∀ p ∈ qs, ReAt w p.1 p.2) :
    Calls Tryz.prog 53 #[.slice ad qs.length cap] w fun e w' => e = .returned (.slice ad (leadN (qs.map Prod.snd)) cap) ∧ w' = w := by
  have HRes := hide (h.res hr)
  obtain ⟨⟨h0, h1⟩, -⟩ := h
  have hcap : qs.length ≤ cap := h1 _ _ _ rfl
  clear h1 hr
  have hix := indexFunc_at 46 (enters_of Tryz.func46 (by kernel_rfl) rfl) (fun r => !r.null) _ _ w HRes.out (fun b r hb => needsByte_any b r w hb)
  have HL := hide (show ∀ i : Int, ((i = -1 ∧ (qs.map Prod.snd).any (fun r => !r.null) = false) ∨ ∃ k : Nat, ∃ hk : k < (qs.map Prod.snd).length, i = k ∧ ((qs.map Prod.snd).take k).any (fun r => !r.null) = false ∧ (!(qs.map Prod.snd)[k].null) = true) →
      (i = -1 ∧ leadN (qs.map Prod.snd) = qs.length) ∨ ∃ k : Nat, k < qs.length ∧ i = k ∧ leadN (qs.map Prod.snd) = k + 1 from by
    rintro i (⟨h1, h2⟩ | ⟨k, h1, h2, h3, h4⟩)
    · exact .inl ⟨h1, by rw [leadN_all _ h2]; simp⟩
    · exact .inr ⟨k, by simpa using h1, h2, leadN_at _ k h1 h3 h4⟩)
  obtain ⟨n, hn⟩ : ∃ n, n = qs.length := ⟨_, rfl⟩
  rw [← hn] at HL h0 hcap hix ⊢
  clear hn HRes
  generalize leadN (qs.map Prod.snd) = m at *
  go_enter Tryz.func53, Tryz.ntmps53
  go_wp2_with fail
  refine hix.mono ?_
  rintro e w1 ⟨i, rfl, rfl, hi⟩
  rcases HL.out i hi with ⟨rfl, hm⟩ | ⟨k, hk, rfl, hm⟩
  · have HM := hide hm
    clear hm hi
    go_wp2
    go_ret
    rw [HM.out]
    exact ⟨rfl, rfl⟩
  · have HM := hide hm
    clear hm hi
    have hkd : decide ((0 : Int) ≤ (k : Int)) = true := by simp
    go_wp2
    go_ret
    rw [HM.out]
    exact ⟨rfl, rfl⟩

theorem firstKids_pick (r : RE) (p : Nat) (W : World) (h : ReAt W p r) : ∃ v, ResRow W v (r.kids.take (pickN true r.op r.kids)) ∧ ∀ W', Below W.heap.size W W' → Calls Tryz.prog 29 #[PT p] W' fun e w' => e = .returned v ∧ w' = W' := by
  obtain ⟨v, c5, hrow⟩ := cellK h
  have c0 := h.cell0
  have hplt := h.lt
  obtain ⟨qs, hqs, hqe, hqr⟩ := hrow.pairs
  by_cases h3 : r.op = 3
  · have hp : pickN true r.op r.kids = leadN r.kids := by simp [pickN, h3]
    obtain ⟨-, ad, cap, rfl, -⟩ := hrow.at
    -- where the leading ones lie
    have hm : leadN r.kids ≤ qs.length := by rw [← List.length_map (f := Prod.snd), hqs]; exact leadN_le _
    refine ⟨.slice ad (leadN r.kids) cap, ?_, fun W' hb => ?_⟩
    · rw [hp]
      have h1 := (hqr.take hm).res (fun p hp => hqe p (List.mem_of_mem_take hp))
      rw [List.map_take, hqs] at h1
      exact h1
    · have c5' : W'.cell? ⟨p, 5, none⟩ = some (.slice ad r.kids.length cap) := by rw [← c5]; exact World.cell?_of_block (w := W) (hb.block p hplt)
      have c0' : W'.cell? ⟨p, 0, none⟩ = some (.int .i64 r.op) := by rw [← c0]; exact World.cell?_of_block (w := W) (hb.block p hplt)
      have hd : ((r.op : Int) == 3) = true := by simp [h3]
      have hlq : qs.length = r.kids.length := by rw [← hqs]; simp
      have hlead := leading_fix ad cap qs W' (by rw [hlq]; exact hqr.below hb) (fun p hp => (hqe p hp).keep hb)
      rw [hqs, hlq] at hlead
      clear hlq
      have HL := hide hlead
      clear c5 c0 hrow hqs hqe hqr h3 hp hm hlead
      unfold PT
      go_enter Tryz.func29, Tryz.ntmps29
      go_wp2_with fail
      refine HL.out.mono ?_
      rintro e w1 ⟨rfl, rfl⟩
      go_wp2
      go_ret
      exact ⟨rfl, rfl⟩
  · have hp : pickN true r.op r.kids = r.kids.length := by simp [pickN, h3]
    refine ⟨v, ?_, fun W' hb => ?_⟩
    · rw [hp, List.take_length]; exact hrow
    · have c5' : W'.cell? ⟨p, 5, none⟩ = some v := by rw [← c5]; exact World.cell?_of_block (w := W) (hb.block p hplt)
      have c0' : W'.cell? ⟨p, 0, none⟩ = some (.int .i64 r.op) := by rw [← c0]; exact World.cell?_of_block (w := W) (hb.block p hplt)
      have hd : ((r.op : Int) == 3) = false := beq_eq_false_iff_ne.2 (by omega)
      obtain ⟨-, ad, cap, rfl, -⟩ := hrow.at
      clear c5 c0 hrow hqs hqe hqr h3 hp
      unfold PT
      go_enter Tryz.func29, Tryz.ntmps29
      go_wp2
      go_ret
      exact ⟨rfl, rfl⟩

theorem Parts_any (r : RE) (p : Nat) (w : World) (h : ReAt w p r) (hl : (r.sts true).length ≤ 1099511627776) (hT : TabAt w) :
    Calls Tryz.prog 7 #[PT p] w fun e w' => ∃ v' l', e = .returned v' ∧ l'.Perm (refL (r.sts true)) ∧ l'.Pairwise (fun x y => least x ≤ least y) ∧ SetsRow w' v' l' ∧ Below w.heap.size w w' := by
  have HC := hide (appendSets_any true 29 (enters_of Tryz.func29 (by kernel_rfl) rfl) firstKids_pick r p (.slice none 0 0) [] w w w.heap.size h rfl (Below.refl _ _) (.nil _ _) (by simpa using hl))
  rw [List.nil_append] at HC
  have HT := hide hT
  clear h hT
  go_enter Tryz.func7, Tryz.ntmps7
  go_wp2_with fail
  refine HC.out.mono ?_
  rintro e w1 ⟨v, rfl, ho, hb⟩
  have HB := hide hb
  have HR := hide (refine_big (r.sts true) v w1 (ho.row (by omega)) hl (HT.out.agree (Agree.of_all (K := fun _ => True) hb) trivial))
  obtain ⟨a, c, rfl, -⟩ := ho.slice
  clear ho hb HC
  go_wp2_with fail
  refine HR.out.mono ?_
  rintro e w2 ⟨v', l', rfl, h1, h2, h3, h4⟩
  obtain ⟨-, a', c', rfl, -⟩ := id h3
  have H1 := hide h1
  have H2 := hide h2
  have H3 := hide h3
  have H4 := hide h4
  clear h1 h2 h3 h4 HR
  go_wp2
  go_ret
  exact ⟨_, l', rfl, H1.out, H2.out, H3.out, HB.out.trans (H4.out.mono HB.out.size)⟩

set_option maxHeartbeats 1000000 in
theorem lawFirsts_any (r : RE) : ∀ (p : Nat) (w : World), ReAt w p r → (r.sts true).length ≤ 1099511627776 →
    Calls Tryz.prog 13 #[PT p] w fun e w' => ∃ v', e = .returned v' ∧ Own4 w' w.heap.size v' (r.sts true) ∧ Below w.heap.size w w' := by
  induction r using RE.ind with
  | h o s ks ih =>
    intro p w h hl
    have HIH := hide ih
    have HS := hide h.cellS
    have c0 := h.cell0
    have hplt := h.lt
    obtain ⟨kv, c5, hrow⟩ := cellK h
    have HROW := hide hrow
    simp only [RE.op, RE.set, RE.kids] at c0 HS HROW hrow
    obtain ⟨hk0, ad, cap, rfl, -⟩ := hrow.at
    obtain ⟨B, hB⟩ : ∃ B, B = w.heap.size := ⟨_, rfl⟩
    have HB0 := hide hB
    have HL := hide hl
    clear ih h hrow hl
    have hb0 : Below B w (w.alloc (.cells #[] 32)) := (Below.refl _ _).alloc (by omega) _
    have c0' : (w.alloc (.cells #[] 32)).cell? ⟨p, 0, none⟩ = some (.int .i64 o) := by rw [← c0]; exact World.cell?_of_block (w := w) (hb0.block p (by rw [hB]; exact hplt))
    have c5' : (w.alloc (.cells #[] 32)).cell? ⟨p, 5, none⟩ = some (.slice ad ks.length cap) := by rw [← c5]; exact World.cell?_of_block (w := w) (hb0.block p (by rw [hB]; exact hplt))
    unfold PT
    go_enter Tryz.func13, Tryz.ntmps13
    by_cases h2 : o = 2
    · have d2 : ((o : Int) == 2) = true := by simp [h2]
      have hs' : ∀ j, j < 4 → (w.alloc (.cells #[] 32)).cell? ⟨p, 1 + j, none⟩ = some (.int .u64 (wd s j)) := fun j hj => by rw [← HS.out j hj]; exact World.cell?_of_block (w := w) (hb0.block p (by rw [hB]; exact hplt))
      have s0 := hs' 0 (by omega); have s1 := hs' 1 (by omega); have s2 := hs' 2 (by omega); have s3 := hs' 3 (by omega)
      simp only [Nat.add_zero, Nat.reduceAdd] at s0 s1 s2 s3
      have HE : Hid ((RE.mk o s ks).sts true = [s]) := by show _ = _; rw [RE.sts_mk, if_pos h2]
      have HBB := hide hb0
      clear h2 hs' hb0
      go_wp2
      go_ret
      rw [HE.out]
      refine ⟨_, rfl, own4_new s (Blk.newAt (w := w.alloc (.cells #[] 32)) (by simp) (WS s) _) (by simp), ?_⟩
      rw [← HB0.out]
      exact HBB.out.alloc (by simp; omega) _
    · have d2 : ((o : Int) == 2) = false := beq_eq_false_iff_ne.2 (by omega)
      obtain ⟨m, hm⟩ : ∃ m, m = pickN true o ks := ⟨_, rfl⟩
      have hmk : m ≤ ks.length := by rw [hm]; exact pickN_le true o ks
      have HE : Hid ((RE.mk o s ks).sts true = stsN true ks m) := by show _ = _; rw [RE.sts_mk, if_neg h2, hm]; rfl
      have hO0 : Own4 (w.alloc (.cells #[] 32)) B (.slice (some ⟨w.heap.size, 0, none⟩) 0 0) (stsN true ks 0) := own4_empty (Blk.newAt rfl _ _) (by omega)
      have h0m : 0 < ks.length → 0 < m := fun h => by
        rw [hm]
        unfold pickN
        split
        · exact leadN_pos h
        · exact h
      have HM := hide hm
      have HC0 := hide c0
      clear h2 hB hm c0
      go_wp2
      go_loopw [3, 22] (fun out c wr => ∃ (k : Nat), k ≤ ks.length ∧ c = .int .i64 k ∧ Hid (k ≤ m) ∧ Hid (k < ks.length → k < m) ∧ Hid (Own4 wr B out (stsN true ks k)) ∧ Hid (Below B w wr)) (fun _ c _ => ks.length - (intOf c).toNat)
      case atStart => exact ⟨0, by omega, rfl, Nat.zero_le _, h0m, hO0, hb0⟩
      case round =>
        clear hO0 hb0 h0m
        obtain ⟨k, hk, rfl, HKM, HLT, HO, HB⟩ := hrel
        obtain ⟨ao, co, ho, -⟩ := HO.out.slice
        subst ho
        by_cases hlt : k < ks.length
        · have hkd : decide (k < ks.length) = true := by simp [hlt]
          have hkm : k < m := HLT.out hlt
          have hbw : Below w.heap.size w wr := HB0.out ▸ HB.out
          obtain ⟨-, a1, c1, e1, g1⟩ := HROW.out.at
          obtain ⟨rfl, rfl⟩ : ad = a1 ∧ cap = c1 := by injection e1 with x1 x2 x3; exact ⟨x1, x3⟩
          obtain ⟨b1, o1, bk, rfl, hb1, d0, r0⟩ := g1 k hlt
          have d1 : wr.cell? ⟨b1, o1 + k, none⟩ = some (PT bk) := by rw [← d0]; exact World.cell?_of_block (w := w) (hbw.block b1 hb1)
          have r1 := r0.keep hbw
          have HR0 := hide r0
          have HSU := hide (stsN_succ true ks k hlt)
          have hle : (stsN true ks k).length + ((ks[k]).sts true).length ≤ 1099511627776 := by
            have h1 := HL.out
            rw [HE.out] at h1
            obtain ⟨t, ht⟩ : ∃ t, stsN true ks m = stsN true ks (k + 1) ++ t := by
              refine ⟨(((ks.map (RE.sts true)).take m).drop (k + 1)).flatten, ?_⟩
              unfold stsN
              rw [← List.flatten_append]
              congr 1
              rw [show (ks.map (RE.sts true)).take (k + 1) = ((ks.map (RE.sts true)).take m).take (k + 1) from by rw [List.take_take]; congr 1; omega, List.take_append_drop]
            rw [ht, List.length_append, HSU.out, List.length_append] at h1
            omega
          have HC := hide (HIH.out ks[k] (List.getElem_mem hlt) bk wr r1 (by omega))
          have HLE := hide hle
          have hBs : B ≤ wr.heap.size := by rw [HB0.out]; exact hbw.size
          obtain ⟨xk, hxk⟩ : ∃ xk, xk = stsN true ks k := ⟨_, rfl⟩
          rw [← hxk] at HO HLE ⊢
          have HXK := hide hxk
          have HSTOP := hide (show o = 3 → (ks[k]).null = false → m = k + 1 from fun h3 hn => by
            rw [HM.out] at hkm ⊢
            have hp : pickN true o ks = leadN ks := by simp [pickN, h3]
            rw [hp] at hkm ⊢
            exact leadN_stop ks k hlt hkm hn)
          have HON := hide (show (o = 3 → (ks[k]).null = true) → (k + 1 ≤ m) ∧ (k + 1 < ks.length → k + 1 < m) from fun h => by
            refine ⟨hkm, fun h1 => ?_⟩
            rw [HM.out] at hkm ⊢
            by_cases h3 : o = 3
            · have hp : pickN true o ks = leadN ks := by simp [pickN, h3]
              rw [hp] at hkm ⊢
              exact leadN_on ks k hlt hkm (h h3) h1
            · have hp : pickN true o ks = ks.length := by simp [pickN, h3]
              rw [hp]; exact h1)
          generalize ks[k] = x at *
          clear g1 e1 r1 r0 d0 hb1 hle hbw hxk
          unfold PT at d1 HC
          go_wp2_with fail
          refine HC.out.mono ?_
          rintro e w2 ⟨v2, rfl, ho2, hb2⟩
          have hs2 := hb2.size
          obtain ⟨v', W', hr, ho', hb'⟩ := run_append4 (HO.out.keep hb2) (ho2.row (by have := HLE.out; omega)) 28 HLE.out (by omega)
          obtain ⟨a2, c2, rfl, -⟩ := ho2.slice
          obtain ⟨a3, c3, rfl, -⟩ := ho'.slice
          rw [List.length_append] at hr ho'
          have HO3 := hide ho'
          have HB3 := hide (hb' w B (Nat.le_refl _) (by rw [HB0.out]; exact Nat.le_refl _) (HB.out.trans (hb2.mono hBs)))
          have c0w : W'.cell? ⟨p, 0, none⟩ = some (.int .i64 o) := by rw [← HC0.out]; exact World.cell?_of_block (w := w) (HB3.out.block p (by rw [HB0.out]; exact hplt))
          have HN := hide (null_any bk x W' (HR0.out.keep (HB0.out ▸ HB3.out)))
          have HFX : Hid (Own4 W' B (.slice a3 (xk.length + (x.sts true).length) c3) (stsN true ks (k + 1))) := by
            show Own4 _ _ _ _
            rw [HSU.out, ← HXK.out]
            exact HO3.out
          have hk63 : k < 4611686018427387904 := by omega
          clear ho2 hb2 hs2 ho' hb' HC HSU HO3 HO
          unfold PT at HN
          by_cases h3 : o = 3
          · have d3 : ((o : Int) == 3) = true := by simp [h3]
            cases hn : x.null with
            | false =>
              have HX : Hid ((RE.mk o s ks).sts true = stsN true ks (k + 1)) := by show _ = _; rw [HE.out, HSTOP.out h3 hn]
              rw [hn] at HN
              clear h3 hn HSTOP HON
              go_wp2_with (first | refine wpList_append_run rfl _ _ _ rfl _ _ _ rfl rfl hr ?_ | fail)
              refine HN.out.mono ?_
              rintro e w4 ⟨rfl, rfl⟩
              go_wp2
              go_ret
              rw [HX.out, ← HB0.out]
              exact ⟨_, rfl, HFX.out, HB3.out⟩
            | true =>
              have hon := HON.out fun _ => hn
              have HO1 := hide hon.1
              have HO2 := hide hon.2
              rw [hn] at HN
              clear h3 hn HSTOP HON hon
              go_wp2_with (first | refine wpList_append_run rfl _ _ _ rfl _ _ _ rfl rfl hr ?_ | fail)
              refine HN.out.mono ?_
              rintro e w4 ⟨rfl, rfl⟩
              go_wp2
              exact ⟨⟨k + 1, by omega, by go_num, HO1.out, HO2.out, HFX.out, HB3.out⟩, by simp [intOf]; omega⟩
          · have d3 : ((o : Int) == 3) = false := beq_eq_false_iff_ne.2 (by omega)
            have hon := HON.out fun h => absurd h h3
            have HO1 := hide hon.1
            have HO2 := hide hon.2
            clear h3 HSTOP HON hon HN
            go_wp2_with (refine wpList_append_run rfl _ _ _ rfl _ _ _ rfl rfl hr ?_)
            exact ⟨⟨k + 1, by omega, by go_num, HO1.out, HO2.out, HFX.out, HB3.out⟩, by simp [intOf]; omega⟩
        · obtain rfl : k = ks.length := by omega
          have hmm : m = ks.length := by have := HKM.out; omega
          have HX : Hid ((RE.mk o s ks).sts true = stsN true ks ks.length) := by show _ = _; rw [HE.out, hmm]
          clear hmm
          obtain ⟨xz, hxz⟩ : ∃ xz, xz = stsN true ks ks.length := ⟨_, rfl⟩
          rw [← hxz] at HX HO ⊢
          clear hxz
          go_wp2
          go_ret
          rw [HX.out, ← HB0.out]
          exact ⟨_, rfl, HO.out, HB.out⟩
end Go.Proofs.YthemadegffhmfaaGreatDoor
/- DerivParts, walked. -/
namespace Go.Proofs.YthemadegffhmfaaGreatDoor
set_option maxRecDepth 100000
set_option linter.unusedSimpArgs false
set_option linter.unusedVariables false
open Go.RowKit

set_option maxHeartbeats 4000000 in
theorem derivParts_any (cs : List Value) (s : SHP) (w : World) (hs : ShC w cs s) (hT : TabAt w) :
    Calls Tryz.prog 3 #[ShVal cs] w fun e w' => e = .returned (.bool true) ∧ Below w.heap.size w w' := by
  have HC := hide hs
  have HT := hide hT
  obtain ⟨kv, rfl, hrow, -⟩ := hs.open
  obtain ⟨-, a, cap, rfl, -⟩ := hrow.at
  clear hs hT hrow
  obtain ⟨B, hB⟩ : ∃ B, B = w.heap.size := ⟨_, rfl⟩
  unfold ShVal
  go_enter Tryz.func3, Tryz.ntmps3
  go_wp2_with fail
  have hb0 : Below B w (w.alloc (.cells #[.int .i64 s.op, .int .u8 s.lo, .int .u8 s.hi, .string s.text, .slice a s.kids.length cap] 24)) := (Below.refl _ _).alloc (Nat.le_of_eq hB) _
  have hbx : Blk (w.alloc (.cells #[.int .i64 s.op, .int .u8 s.lo, .int .u8 s.hi, .string s.text, .slice a s.kids.length cap] 24)) B #[.int .i64 s.op, .int .u8 s.lo, .int .u8 s.hi, .string s.text, .slice a s.kids.length cap] 24 := Blk.newAt hB _ _
  refine (head5_any _ (HT.out.agree (Agree.of_all (K := fun _ => True) (hB ▸ hb0)) trivial)).mono ?_
  rintro e w1 ⟨rfl, hb1⟩
  have hbx1 := hbx.below hb1 hbx.lt
  have HX1 := hide hbx1
  have HB1 := hide (hb0.trans (hb1.mono (by simp; omega)))
  have HB := hide hB
  rw [← hB]
  clear hb0 hbx hb1 hB
  have xB := hbx1
  have x0 := xB.cell 0; have x1 := xB.cell 1; have x2 := xB.cell 2; have x3 := xB.cell 3; have x4 := xB.cell 4
  simp only [List.getElem?_toArray, List.getElem?_cons_zero, List.getElem?_cons_succ] at x0 x1 x2 x3 x4
  clear xB
  clear hbx1
  have hfew := few_any s _ w1 (HC.out.keep (HB.out ▸ HB1.out))
  have HFEW := hide hfew
  clear hfew
  unfold ShVal at HFEW
  go_wp2_with fail
  refine HFEW.out.mono ?_
  rintro e w2 ⟨few, rfl, hfw, hb2⟩
  have hsB1 : B ≤ w1.heap.size := by have := HX1.out.lt; omega
  have HB2 := hide (HB1.out.trans (hb2.mono hsB1))
  have hbx2 := HX1.out.below hb2 HX1.out.lt
  have HX2 := hide hbx2
  have HFW := hide hfw
  clear hb2 hfw HFEW x0 x1 x2 x3 x4 HX1 HB1
  cases few
  · clear hbx2
    go_wp2
    go_ret
    exact ⟨rfl, HB.out ▸ HB2.out⟩
  obtain ⟨htx, hnd⟩ := HFW.out rfl
  clear HFW
  have xB := hbx2
  have x0 := xB.cell 0; have x1 := xB.cell 1; have x2 := xB.cell 2; have x3 := xB.cell 3; have x4 := xB.cell 4
  simp only [List.getElem?_toArray, List.getElem?_cons_zero, List.getElem?_cons_succ] at x0 x1 x2 x3 x4
  clear xB
  clear hbx2
  have hsB2 : B ≤ w2.heap.size := by have := HX2.out.lt; omega
  have hmk := make_any s _ w2 (HC.out.keep (HB.out ▸ HB2.out)) htx hnd (HT.out.agree (Agree.of_all (K := fun _ => True) (HB.out ▸ HB2.out)) trivial)
  have HMK := hide hmk
  clear hmk
  unfold ShVal at HMK
  go_wp2_with fail
  refine HMK.out.mono ?_
  rintro e w3 ⟨rb, rfl, hr3, hb3⟩
  have HB3 := hide (HB2.out.trans (hb3.mono hsB2))
  have HR3 := hide hr3
  have hsB3 : B ≤ w3.heap.size := by have := hb3.size; omega
  have HT3 := hide (HT.out.agree (Agree.of_all (K := fun _ => True) (HB.out ▸ HB3.out)) trivial)
  have hwf := s.wf
  have hcnt : s.re.cnt ≤ 660 := by have := s.cnt htx; omega
  clear x0 x1 x2 x3 x4 HX2 HB2 HMK hsB2 hsB1 hb3 hr3
  generalize hre : s.re = r at *
  clear hre htx hnd
  have HWF := hide hwf
  clear hwf
  have hsl : (r.sts true).length ≤ 660 := by have := sts_le true r; omega
  have HCNT := hide hcnt
  have HPT := hide (Parts_any r rb w3 HR3.out (by omega) HT3.out)
  clear hcnt
  unfold PT at HPT
  try unfold PT
  go_wp2_with fail
  refine HPT.out.mono ?_
  rintro e w4 ⟨v1, pl, rfl, hperm, hsort, hrow1, hb4⟩
  have hip := (isPart_ref (r.sts true)).perm hperm
  have hplen : pl.length ≤ 256 := parts_256 hip
  have HPM := hide hperm
  have HPS := hide hsort
  have HIP := hide hip
  have HROW1 := hide hrow1
  have HB4 := hide hb4
  have HR4 := hide (HR3.out.keep hb4)
  have HT4 := hide (HT3.out.agree (Agree.of_all (K := fun _ => True) hb4) trivial)
  obtain ⟨-, a1, cap1, rfl, -⟩ := hrow1
  clear hperm hsort hip hb4 HPT
  have hc0 : cntS (pl.take 0) 256 = 0 := rfl
  go_wp2
  go_loopw [5, 25] (fun nv c wr => ∃ k : Nat, k ≤ pl.length ∧ c = .int .i64 k ∧ nv = .int .i64 (cntS (pl.take k) 256) ∧ Hid (Below w4.heap.size w4 wr)) (fun _ c _ => pl.length - (intOf c).toNat)
  case atStart => exact ⟨0, by omega, rfl, by rw [hc0]; rfl, Below.refl _ _⟩
  case round =>
    obtain ⟨k, hk, rfl, rfl, HBW⟩ := hrel
    by_cases hlt : k < pl.length
    · have hkd : decide (k < pl.length) = true := by simp [hlt]
      obtain ⟨-, a2, c2, e2, hc⟩ := HROW1.out.below HBW.out
      obtain ⟨bb, off, rfl, hbb, hcc⟩ := hc k hlt
      obtain ⟨rfl, rfl⟩ : a1 = some ⟨bb, off, none⟩ ∧ cap1 = c2 := by injection e2 with x1 x2 x3; exact ⟨x1, x3⟩
      obtain ⟨p, hp⟩ : ∃ p, p = pl.getD k 0 := ⟨_, rfl⟩
      rw [← hp] at hcc
      have hmem : p ∈ pl := by rw [hp]; simp [List.getD_eq_getElem?_getD, hlt]
      have hne := (HIP.out.mem p hmem).1
      have HCS := hide (show cntS (pl.take (k + 1)) 256 = cntS (pl.take k) 256 + cntTo p 256 from by rw [hp]; exact cntS_take_succ pl k hlt)
      have HSAME := hide (show ∀ b, b < 256 → p.getLsbD b = true → rBy b r = rBy (least p) r from fun b hb hpb => by
        refine by_same b (least p) r fun s hs => ?_
        have h1 := ((HIP.out.mem p hmem).2 (least p) (least_lt p) (least_mem hne).1 b hb).1 hpb
        exact (h1 s hs).symm)
      have hbe : (!(bytesOf p).isEmpty) = true := by
        obtain ⟨a, ha, hpa⟩ := has_byte hne
        have := (mem_bytes p a).2 ⟨ha, hpa⟩
        cases e : bytesOf p with
        | nil => rw [e] at this; simp at this
        | cons x r => rfl
      have HBE := hide hbe
      have hsum : cntS (pl.take k) 256 ≤ 256 := by
        have h1 := parts_sum HIP.out 256 (Nat.le_refl _)
        have h2 : cntS pl 256 = cntS (pl.take k) 256 + cntS (pl.drop k) 256 := by
          unfold cntS
          rw [← List.sum_append, ← List.map_append, List.take_append_drop]
        omega
      have c0 := hcc 0 (by omega); have c1 := hcc 1 (by omega); have c2 := hcc 2 (by omega); have c3 := hcc 3 (by omega)
      rw [Nat.add_zero] at c0
      obtain ⟨n0, hn0⟩ : ∃ n0, n0 = cntS (pl.take k) 256 := ⟨_, rfl⟩
      rw [← hn0] at hsum HCS ⊢
      have HN0 := hide hn0
      have hple : least p < 256 := least_lt p
      clear hc e2 hp hmem hne hbe hcc hn0
      go_wp2_with fail
      have hb5 := (Below.refl wr.heap.size wr).alloc (Nat.le_refl _) (.cells (WS p) 32)
      have hbp := Blk.newAt (w := wr) rfl (WS p) 32
      refine (least_any p _ (HT4.out.agree (Agree.of_all (K := fun _ => True) (HBW.out.trans (hb5.mono HBW.out.size))) trivial)).mono ?_
      rintro e w6 ⟨rfl, hb6⟩
      have HB6 := hide ((HBW.out.trans (hb5.mono HBW.out.size)).trans (hb6.mono (by have := HBW.out.size; simp; omega)))
      have HBP := hide (hbp.below hb6 hbp.lt)
      obtain ⟨pb, hpb⟩ : ∃ pb, pb = wr.heap.size := ⟨_, rfl⟩
      rw [← hpb] at HBP ⊢
      rw [show leastV (bytesOf p) = .tuple #[.int .u8 (least p), .bool (!(bytesOf p).isEmpty)] from rfl, HBE.out]
      have HBY := hide (By_any (least p) hple r rb w6 HWF.out (fits_cnt _ r HWF.out (by have := HCNT.out; omega)) (HR4.out.keep HB6.out) (HT4.out.agree (Agree.of_all (K := fun _ => True) HB6.out) trivial))
      have HLW := hide (wf_by (least p) HWF.out)
      clear hb5 hbp hb6 hpb c0 c1 c2 c3
      generalize hld : rBy (least p) r = d at *
      generalize least p = lp at *
      clear hld
      unfold PT at HBY
      go_wp2_with fail
      refine HBY.out.mono ?_
      rintro e w7 ⟨db, rfl, h7, hb7⟩
      have HD7 := hide h7
      have HBP7 := hide (HBP.out.below hb7 HBP.out.lt)
      have HB7 := hide (HB6.out.trans (hb7.mono HB6.out.size))
      clear h7 hb7 HBY
      try unfold PT
      obtain ⟨w8, hw8⟩ : ∃ x, x = wr := ⟨_, rfl⟩
      subst hw8
      have hct0 : cntTo p 0 = 0 := rfl
      go_wp2
      go_loopw [5, 11] (fun nv c wr => ∃ j : Nat, j ≤ 256 ∧ c = .int .i64 j ∧ nv = .int .i64 (n0 + cntTo p j : Nat) ∧ Hid (Below w7.heap.size w7 wr)) (fun _ c _ => 256 - (intOf c).toNat)
      case atStart => exact ⟨0, by omega, rfl, by rw [hct0]; rfl, Below.refl _ _⟩
      case round =>
        obtain ⟨j, hj, rfl, rfl, HBJ⟩ := hrel
        have hcj : cntTo p j ≤ j := by
          unfold cntTo
          exact Nat.le_trans (List.length_filter_le _ _) (by simp)
        by_cases hjl : j < 256
        · have hjd : decide ((j : Int) < 256) = true := decide_eq_true (by omega)
          have hjd' : decide (j < 256) = true := decide_eq_true hjl
          have hbpx := HBP7.out.below HBJ.out HBP7.out.lt
          have x0 := hbpx.cell 0; have x1 := hbpx.cell 1; have x2 := hbpx.cell 2; have x3 := hbpx.cell 3
          simp only [WS, List.getElem?_toArray, List.getElem?_cons_zero, List.getElem?_cons_succ] at x0 x1 x2 x3
          have hwj : IntKind.u8.wrap (j : Int) = (j : Int) := by simp [IntKind.wrap, IntKind.signed, IntKind.bits]; omega
          have hh := has_any p j (by omega) (by omega) wr
          rw [Int.toNat_natCast] at hh
          have HSU := hide (cntTo_succ p j)
          have HSJ := hide (HSAME.out j hjl)
          obtain ⟨cj, hcjd⟩ : ∃ cj, cj = cntTo p j := ⟨_, rfl⟩
          rw [← hcjd] at hcj HSU ⊢
          have HH := hide hh
          clear hbpx hh hcjd
          generalize p.getLsbD j = bit at *
          unfold SV at HH
          go_wp2_with fail
          refine HH.out.mono ?_
          rintro e w9 ⟨rfl, hb9⟩
          have HB9 := hide (HBJ.out.trans (hb9.mono HBJ.out.size))
          clear hb9 HH x0 x1 x2 x3
          cases bit with
          | false =>
            have HX : Hid (cntTo p (j + 1) = cj) := by show _ = _; rw [HSU.out]; simp
            clear HSU HSJ
            go_wp2
            exact ⟨⟨j + 1, by omega, by go_num, congrArg (Value.int .i64) (by rw [HX.out]; omega), HB9.out⟩, by simp [intOf]; omega⟩
          | true =>
            have HX : Hid (cntTo p (j + 1) = cj + 1) := by show _ = _; rw [HSU.out]; simp
            have hn63 : n0 + cj ≤ 1000 := by omega
            by_cases h5 : j % 5 = 0
            · have hr5 : Int.tmod (j : Int) 5 = 0 := by
                rw [show (5 : Int) = ((5 : Nat) : Int) from rfl, ← Int.ofNat_tmod]
                simp [h5]
              have HSE := hide (HSJ.out rfl)
              have HBY2 := hide (By_any j hjl r rb w9 HWF.out (fits_cnt _ r HWF.out (by have := HCNT.out; omega)) ((HR4.out.keep HB7.out).keep HB9.out) (HT4.out.agree (Agree.of_all (K := fun _ => True) (HB7.out.trans (HB9.out.mono HB7.out.size))) trivial))
              rw [HSE.out] at HBY2
              clear HSU HSJ h5
              unfold PT at HBY2
              go_wp2_with fail
              refine HBY2.out.mono ?_
              rintro e w10 ⟨eb, rfl, h10, hb10⟩
              have HB10 := hide (HB9.out.trans (hb10.mono HB9.out.size))
              have hsm := same_re d d eb db w10 HLW.out.k HLW.out.k h10 ((HD7.out.keep HB9.out).keep hb10) (HT4.out.agree (Agree.of_all (K := fun _ => True) (HB7.out.trans (HB10.out.mono HB7.out.size))) trivial)
              rw [lexN_self] at hsm
              have HSM := hide hsm
              clear h10 hb10 hsm HBY2
              unfold PT at HSM
              go_wp2_with fail
              refine HSM.out.mono ?_
              rintro e w11 ⟨rfl, hm11⟩
              have HB11 := hide (HB10.out.trans (hm11.below.mono HB10.out.size))
              clear hm11 HSM
              go_wp2
              exact ⟨⟨j + 1, by omega, by go_num, congrArg (Value.int .i64) (by rw [HX.out]; omega), HB11.out⟩, by simp [intOf]; omega⟩
            · obtain ⟨r5, hr5, hrn⟩ : ∃ r5 : Nat, Int.tmod (j : Int) 5 = (r5 : Int) ∧ r5 ≠ 0 := ⟨j % 5, by
                rw [show (5 : Int) = ((5 : Nat) : Int) from rfl, ← Int.ofNat_tmod], h5⟩
              have hrb5 : ((r5 : Int) == 0) = false := beq_eq_false_iff_ne.2 (by omega)
              clear HSU HSJ h5
              go_wp2
              exact ⟨⟨j + 1, by omega, by go_num, congrArg (Value.int .i64) (by rw [HX.out]; omega), HB9.out⟩, by simp [intOf]; omega⟩
        · obtain rfl : j = 256 := by omega
          have HX := hide HCS.out
          have HBZ := hide (HB7.out.trans (HBJ.out.mono HB7.out.size))
          generalize cntTo p 256 = cz at *
          go_wp2
          exact ⟨⟨k + 1, by omega, by go_num, congrArg (Value.int .i64) (by rw [HX.out]; try omega), HBZ.out⟩, by simp [intOf]; omega⟩
    · obtain rfl : k = pl.length := by omega
      have hns := parts_sum HIP.out 256 (Nat.le_refl _)
      rw [List.take_length, hns]
      have HFI := hide (lawFirsts_any r rb wr (HR4.out.keep HBW.out) (by omega))
      clear hns
      unfold PT at HFI
      go_wp2_with fail
      refine HFI.out.mono ?_
      rintro e w5 ⟨v2, rfl, ho2, hb5⟩
      have HB5 := hide (HBW.out.trans (hb5.mono HBW.out.size))
      have HRF := hide (refine_big (r.sts true) v2 w5 (ho2.row (by omega)) (by omega) (HT4.out.agree (Agree.of_all (K := fun _ => True) HB5.out) trivial))
      obtain ⟨a3, c3, rfl, -⟩ := ho2.slice
      clear ho2 hb5 HFI
      go_wp2_with fail
      refine HRF.out.mono ?_
      rintro e w6 ⟨v3, pl2, rfl, hperm2, hsort2, hrow2, hb6⟩
      have hone : pl2 = pl := parts_one hperm2 HPM.out (fun _ _ _ _ => Iff.rfl) hsort2 HPS.out
      subst hone
      have HB6 := hide (HB5.out.trans (hb6.mono HB5.out.size))
      have HRA := hide hrow2
      have HRB := hide (HROW1.out.below HB6.out)
      obtain ⟨-, aA, cA, rfl, -⟩ := hrow2
      clear hperm2 hsort2 hb6 HRF
      obtain ⟨n1, hn1⟩ : ∃ n1, n1 = pl2.length := ⟨_, rfl⟩
      rw [← hn1] at HRA HRB hplen ⊢
      have HN1 := hide hn1
      clear hn1
      have hbne : ((n1 : Int) != n1) = false := by simp
      obtain ⟨C, hCd⟩ : ∃ C : World → Prop, C = fun W => Below w6.heap.size w6 W := ⟨_, rfl⟩
      have hCb : ∀ W, C W → Below w6.heap.size w6 W := fun W h => by rw [hCd] at h; exact h
      have hbC : ∀ W, Below w6.heap.size w6 W → C W := fun W h => by rw [hCd]; exact h
      have hCd2 : ∀ W, C W → C { W with drawn := W.drawn + 1 } := fun W h => hbC _ ⟨(hCb W h).os, (hCb W h).tape, (hCb W h).output, (hCb W h).size, (hCb W h).block⟩
      have HC7 := hide (hbC w6 (Below.refl _ _))
      have HCB := hide hCb
      clear hCd hbC hCb
      obtain ⟨w8, hw8⟩ : ∃ x, x = wr := ⟨_, rfl⟩
      subst hw8
      go_wp2
      go_loopw [76] (fun c wr => ∃ k : Nat, k ≤ n1 ∧ c = .int .i64 k ∧ C wr) (fun c _ => n1 - (intOf c).toNat)
      case atStart => exact ⟨0, by omega, rfl, HC7.out⟩
      case round =>
        obtain ⟨k, hk, rfl, hC⟩ := hrel
        by_cases hlt : k < n1
        · have hkd : decide (k < n1) = true := by simp [hlt]
          obtain ⟨-, a1', c1, e1, hcA⟩ := HRA.out
          obtain ⟨ba, oa, rfl, -, hA⟩ := hcA k (by rw [← HN1.out]; exact hlt)
          obtain ⟨rfl, rfl⟩ : aA = some ⟨ba, oa, none⟩ ∧ cA = c1 := by injection e1 with x1 x2 x3; exact ⟨x1, x3⟩
          obtain ⟨-, a2, c2, e2, hcB⟩ := HRB.out
          obtain ⟨bb, ob, rfl, -, hBc⟩ := hcB k (by rw [← HN1.out]; exact hlt)
          obtain ⟨rfl, rfl⟩ : a1 = some ⟨bb, ob, none⟩ ∧ cap1 = c2 := by injection e2 with x1 x2 x3; exact ⟨x1, x3⟩
          have HA : Hid (∀ W, C W → ∀ j, j < 4 → W.cell? ⟨ba, oa + k * 4 + j, none⟩ = some (.int .u64 (wd (pl2.getD k 0) j))) := by
            show ∀ W, _
            intro W hW j hj
            rw [← hA j hj]
            exact World.cell?_of_block (w := w6) ((HCB.out W hW).block _ (World.block_lt_of_cell? _ _ (hA j hj)))
          have HBB : Hid (∀ W, C W → ∀ j, j < 4 → W.cell? ⟨bb, ob + k * 4 + j, none⟩ = some (.int .u64 (wd (pl2.getD k 0) j))) := by
            show ∀ W, _
            intro W hW j hj
            rw [← hBc j hj]
            exact World.cell?_of_block (w := w6) ((HCB.out W hW).block _ (World.block_lt_of_cell? _ _ (hBc j hj)))
          generalize pl2.getD k 0 = p at *
          clear e1 e2 hcA hcB hA hBc
          go_wp2
          refine w_lit (C := C) (by kernel_rfl) (by kernel_rfl) (hCd2 _ hC) ?_
          refine w_value (.slice (some ⟨ba, oa, none⟩) n1 cA) (by kernel_rfl) (fun w hw => x_move _ _ _ _ _ _ _ _ rfl w) ?_
          simp only [Act.put, List.setIfInBounds_toArray, List.set_cons_succ, List.set_cons_zero]
          refine w_value (.int .i64 k) (by kernel_rfl) (fun w hw => x_move _ _ _ _ _ _ _ _ rfl w) ?_
          simp only [Act.put, List.setIfInBounds_toArray, List.set_cons_succ, List.set_cons_zero]
          refine w_value (.pointer (some ⟨ba, oa + k * 4, none⟩)) (by kernel_rfl) (fun w hw => x_idxS _ _ _ _ _ _ _ _ ba oa n1 cA k rfl rfl hlt w) ?_
          simp only [Act.put, List.setIfInBounds_toArray, List.set_cons_succ, List.set_cons_zero]
          refine w_value (SV p) (by kernel_rfl) (fun w hw => x_loadAt _ _ _ _ _ _ _ ba _ p rfl w (fun j hj => HA.out w hw j hj)) ?_
          simp only [Act.put, List.setIfInBounds_toArray, List.set_cons_succ, List.set_cons_zero]
          refine w_value (.slice (some ⟨bb, ob, none⟩) n1 cap1) (by kernel_rfl) (fun w hw => x_move _ _ _ _ _ _ _ _ rfl w) ?_
          simp only [Act.put, List.setIfInBounds_toArray, List.set_cons_succ, List.set_cons_zero]
          refine w_value (.int .i64 k) (by kernel_rfl) (fun w hw => x_move _ _ _ _ _ _ _ _ rfl w) ?_
          simp only [Act.put, List.setIfInBounds_toArray, List.set_cons_succ, List.set_cons_zero]
          refine w_value (.pointer (some ⟨bb, ob + k * 4, none⟩)) (by kernel_rfl) (fun w hw => x_idxS _ _ _ _ _ _ _ _ bb ob n1 cap1 k rfl rfl hlt w) ?_
          simp only [Act.put, List.setIfInBounds_toArray, List.set_cons_succ, List.set_cons_zero]
          refine w_value (SV p) (by kernel_rfl) (fun w hw => x_loadAt _ _ _ _ _ _ _ bb _ p rfl w (fun j hj => HBB.out w hw j hj)) ?_
          simp only [Act.put, List.setIfInBounds_toArray, List.set_cons_succ, List.set_cons_zero]
          refine w_value (.bool (p != p)) (by kernel_rfl) (fun w hw => x_neqS _ _ _ _ _ _ _ _ _ _ rfl rfl w) ?_
          simp only [Act.put, List.setIfInBounds_toArray, List.set_cons_succ, List.set_cons_zero]
          refine w_nil ?_
          clear hC
          intro w9 hC
          rw [show (p != p) = false from by simp]
          go_wp2
          exact ⟨⟨k + 1, by omega, by go_num, hC⟩, by simp [intOf]; omega⟩
        · obtain rfl : k = n1 := by omega
          have HBZ := hide (HB6.out.trans ((HCB.out _ hC).mono HB6.out.size))
          clear hC
          go_wp2
          go_ret
          exact ⟨rfl, HB.out ▸ (HB3.out.trans ((HB4.out.trans (HBZ.out.mono HB4.out.size)).mono hsB3))⟩
theorem derivParts_all (v : Value) (s : SHP) (w : World) (hv : ∃ cs, v = ShVal cs ∧ ShC w cs s) (hT : TabAt w) :
    Calls Tryz.prog 3 #[v] w fun e w' => e = .returned (.bool true) ∧ Below w.heap.size w w' := by
  obtain ⟨cs, rfl, hs⟩ := hv
  exact derivParts_any cs s w hs hT
end Go.Proofs.YthemadegffhmfaaGreatDoor
/- DerivParts answers true for every shape: the parts are as the page says, all bytes together, and bytes of one part have the same behind them. Conditions: the table of math/bits holds what its initialiser lays (the card ties that to the program's text). -/
namespace Go.Proofs.YthemadegffhmfaaGreatDoor
set_option maxRecDepth 100000
open Go.ChangeShapes Go.WideShapes Go.ChangeAt Go.WideMaps Go.WideElems Go.RowKit

set_option maxRecDepth 100000 in
theorem derivParts_lifted (os : Os) (started : os.Started) (H : Type) (enc : TypeId × Value → H) :
    ReturnsInHanded {} Tryz.checked os 3 .any (fun w args => (Rows.derivPartsSpec.pre enc Tryz.prog Tryz.f3 [] false w args ∧ laidMetH Tryz.prog [("math/bits.deBruijn64tab", Rows.laid_math_bits_deBruijn64tab)] w) ∧ sizedMet enc Tryz.prog Tryz.f3 (OpenSpec.ofChange Rows.derivPartsSpec) false w args)
      (Rows.derivPartsSpec.post enc Tryz.prog Tryz.f3 false true false false) := by
  refine returnsInHanded_of_change_and (C := Tryz.checked) (X := fun w _ => laidMetH Tryz.prog [("math/bits.deBruijn64tab", Rows.laid_math_bits_deBruijn64tab)] w) (fun _ _ _ hh h => h.of_heap hh) own started (by kernel_rfl) Tryz.func3
    (ChangeSpec.witness_shaped (enc := enc) (C := Tryz.checked) (os := os) (X := fun w _ => laidMetH Tryz.prog [("math/bits.deBruijn64tab", Rows.laid_math_bits_deBruijn64tab)] w) false (World.doorLaid Tryz.prog 400 os)
      #[.agg #[.int .i64 0, .int .u8 0, .int .u8 0, .string ⟨#[]⟩, .slice none 0 0]] 8 rfl (World.shaped_of_RefB (by kernel_rfl) (by kernel_rfl)) (by kernel_rfl) (by kernel_rfl) (by kernel_rfl) (door_met os _)) ?_
  intro W base args ds gs before hval0 hW _ _ hL _
  have hval : ∀ (j : Nat) t v, Tryz.f3.params[j]? = some t → args[j]? = some v → Value.okWide Tryz.prog W .any base t v := hval0
  have hW' := hW
  obtain ⟨p, q, hA0, hV, rfl, hfz, hnd⟩ := hW
  have hA : DataW.TrodAll enc Tryz.prog W 0 (fun _ => true) true Tryz.f3.params.toList args.toList ds p := hA0
  rw [Tryz.params3] at hA hval
  obtain ⟨v0, d0, rfl, rfl, h0⟩ := trodAll_one hA
  obtain ⟨rfl, rfl⟩ := trodVars_none hV
  have k0 := h0
  have lt0 : ∀ x ∈ p, x.block < W.heap.size := by obtain ⟨m, hm⟩ := k0; exact DataW.trod_lt m _ _ _ hm
  obtain ⟨z0, hz0⟩ := open_shape (hval 0 24 v0 rfl rfl) h0
  have hT := tab_of_laid hL
  clear hA0 hval0
  refine (derivParts_all v0 z0 W hz0 hT).mono fun e W' ⟨he, hb⟩ => ?_
  subst he
  exact ⟨_, rfl, _, _, _, [], _, [], hW', trodAll_mk1 (shut_bool Tryz.underlying4 _), trodAll_mk1 (Below.trod laidOut (by kernel_rfl) (of_decide_eq_true (by kernel_rfl)) k0 hb lt0), rfl, hb.frame _, fun h => by cases h⟩

theorem derivParts_said : Rows.DerivPartsSaid :=
  OpenClaim.holds_of_wide 3 Tryz.f3 rfl rfl rfl rfl rfl rfl rfl ⟨rfl, rfl, rfl, rfl, rfl⟩ rfl rfl rfl rfl rfl (by kernel_rfl) Tryz.func3 (by kernel_rfl)
    (of_decide_eq_true (by kernel_rfl)) (by unfold Func.isWrapper; first | (rw [if_pos (by decide +kernel)]; kernel_rfl) | (rw [if_neg (by decide +kernel)]; exact ⟨rfl, rfl⟩))
    (fun os started H enc _ => derivParts_lifted os started H enc)

theorem derivParts_card : Rows.DerivPartsCardSaid :=
  Claim7.holds_tied_plain_at .later [] [.data] true Rows.derivPartsCard.stood.harness false
    derivParts_said (fun _ h => by cases h) (by kernel_rfl) (fun _ h => by cases h) derivParts_row_tie rfl ⟨rfl, rfl⟩ (by kernel_rfl) rfl
    (fun f fn hf hfn => by
      obtain rfl : f = 3 := Option.some.inj ((show Tryz.prog.funcNamed "periscope/periscopelaw05.DerivParts" = some 3 by kernel_rfl).symm.trans hf) |>.symm
      obtain rfl : fn = Tryz.f3 := (Option.some.inj (Tryz.func3.symm.trans hfn)).symm
      exact ⟨by kernel_rfl, fun j t ht => by
        rw [Tryz.params3] at ht
        have hm : t ∈ [24] := by simpa using Array.mem_of_getElem? ht
        have hall : ([24].all fun u => !Tryz.prog.wantsStandIn u) = true := by kernel_rfl
        exact (show Tryz.prog.wantsStandIn t = false by simpa using List.all_eq_true.1 hall t hm)⟩)
    (by kernel_rfl)
#print axioms derivParts_card
end Go.Proofs.YthemadegffhmfaaGreatDoor
