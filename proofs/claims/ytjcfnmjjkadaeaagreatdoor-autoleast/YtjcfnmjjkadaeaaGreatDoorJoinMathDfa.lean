/- Texts of this claim put together: MathPart, MathDv4, MathBlind, MathDfa. -/
import Derived.Test.YtjcfnmjjkadaeaaGreatDoorJoinPartC
import Derived.Test.YtjcfnmjjkadaeaaGreatDoorJoinReB
import Derived.Test.YtjcfnmjjkadaeaaGreatDoorJoinDvG
/- The mathematics of parts. -/
namespace Go.Proofs.YtjcfnmjjkadaeaaGreatDoor
set_option maxRecDepth 100000
open Go.RowKit

/-- No set of the list parts these two bytes. -/
def cls (l : List (BitVec 256)) (a b : Nat) : Prop := ∀ s ∈ l, s.getLsbD a = s.getLsbD b
theorem cls_snoc (l : List (BitVec 256)) (s : BitVec 256) (a b : Nat) : cls (l ++ [s]) a b ↔ cls l a b ∧ s.getLsbD a = s.getLsbD b := by
  constructor
  · intro h; exact ⟨fun t ht => h t (by simp [ht]), h s (by simp)⟩
  · rintro ⟨h1, h2⟩ t ht
    rcases List.mem_append.1 ht with h | h
    · exact h1 t h
    · obtain rfl : t = s := by simpa using h
      exact h2
theorem has_byte {p : BitVec 256} (h : p ≠ 0#256) : ∃ a, a < 256 ∧ p.getLsbD a = true := by
  by_cases hex : ∃ a, a < 256 ∧ p.getLsbD a = true
  · exact hex
  · refine absurd (BitVec.eq_of_getLsbD_eq fun i hi => ?_) h
    rw [BitVec.getLsbD_zero]
    cases hb : p.getLsbD i with
    | false => rfl
    | true => exact absurd ⟨i, hi, hb⟩ hex

/-- The parts of a list of sets. -/
structure IsPart (l pl : List (BitVec 256)) : Prop where
  mem : ∀ p ∈ pl, p ≠ 0#256 ∧ ∀ a, a < 256 → p.getLsbD a = true → ∀ b, b < 256 → (p.getLsbD b = true ↔ cls l a b)
  cov : Covers pl
  apart : pl.Pairwise fun p q => ∀ b, p.getLsbD b = true → q.getLsbD b = false

theorem isPart_all : IsPart [] [allB] := by
  refine ⟨fun p hp => ?_, covers_all, by simp⟩
  obtain rfl : p = allB := by simpa using hp
  have hall : ∀ i, i < 256 → allB.getLsbD i = true := fun i hi => by rw [show allB = ~~~0#256 from rfl, BitVec.getLsbD_not, BitVec.getLsbD_zero]; simp [hi]
  refine ⟨fun e => ?_, fun a _ _ b hb => ⟨fun _ s hs => by simp at hs, fun _ => hall b hb⟩⟩
  have := hall 0 (by omega)
  rw [e] at this; simp at this

theorem mem_halves {p s h : BitVec 256} : h ∈ halves p s ↔ (h = p &&& s ∨ h = p &&& ~~~s) ∧ h ≠ 0#256 := by
  simp [halves]
theorem half_bit {p s h : BitVec 256} (hh : h ∈ halves p s) : h ≠ 0#256 ∧ ∃ v : Bool, ∀ b, b < 256 → (h.getLsbD b = true ↔ p.getLsbD b = true ∧ s.getLsbD b = v) := by
  obtain ⟨h1, h2⟩ := mem_halves.1 hh
  refine ⟨h2, ?_⟩
  rcases h1 with rfl | rfl
  · exact ⟨true, fun b _ => by rw [BitVec.getLsbD_and]; simp⟩
  · refine ⟨false, fun b hb => ?_⟩
    rw [BitVec.getLsbD_and, BitVec.getLsbD_not]
    cases p.getLsbD b <;> cases s.getLsbD b <;> simp [hb]

theorem IsPart.cut {l pl : List (BitVec 256)} (h : IsPart l pl) (s : BitVec 256) : IsPart (l ++ [s]) (cutL pl s) := by
  refine ⟨fun q hq => ?_, h.cov.cut s, ?_⟩
  · obtain ⟨p, hp, hqp⟩ := List.mem_flatMap.1 hq
    obtain ⟨hne, v, hv⟩ := half_bit hqp
    refine ⟨hne, fun a ha hqa b hb => ?_⟩
    obtain ⟨pa, sa⟩ := (hv a ha).1 hqa
    rw [hv b hb, cls_snoc, (h.mem p hp).2 a ha pa b hb, sa]
    constructor
    · rintro ⟨h1, h2⟩; exact ⟨h1, h2.symm⟩
    · rintro ⟨h1, h2⟩; exact ⟨h1, h2.symm⟩
  · unfold cutL
    rw [List.pairwise_flatMap]
    refine ⟨fun p hp => ?_, h.apart.imp fun {p q} hpq x hx y hy b hb => ?_⟩
    · refine List.Pairwise.filter _ ?_
      rw [List.pairwise_cons]
      refine ⟨fun y hy b hb => ?_, by simp⟩
      obtain rfl : y = p &&& ~~~s := by simpa using hy
      rw [BitVec.getLsbD_and] at hb
      rw [BitVec.getLsbD_and, BitVec.getLsbD_not]
      simp at hb
      simp [hb.2]
    · have h256 : b < 256 := by
        rcases Nat.lt_or_ge b 256 with h | h
        · exact h
        · rw [BitVec.getLsbD_of_ge _ _ h] at hb; cases hb
      obtain ⟨-, v, hv⟩ := half_bit hx
      obtain ⟨-, u, hu⟩ := half_bit hy
      have hpb := ((hv b h256).1 hb).1
      have hqb := hpq b hpb
      cases e : y.getLsbD b with
      | false => rfl
      | true => have := ((hu b h256).1 e).1; rw [hqb] at this; cases this
theorem isPart_fold (l : List (BitVec 256)) : ∀ l0 pl, IsPart l0 pl → IsPart (l0 ++ l) (l.foldl cutL pl) := by
  induction l with
  | nil => intro l0 pl h; simpa using h
  | cons x r ih => intro l0 pl h; have := ih (l0 ++ [x]) _ (h.cut x); simpa using this
theorem isPart_ref (l : List (BitVec 256)) : IsPart l (refL l) := by
  have := isPart_fold l [] _ isPart_all
  rwa [List.nil_append] at this

theorem IsPart.perm {l l' pl : List (BitVec 256)} (h : IsPart l pl) (hp : l'.Perm pl) : IsPart l l' := by
  refine ⟨fun p hm => h.mem p (hp.subset hm), fun b hb => ?_, ?_⟩
  · obtain ⟨p, h1, h2⟩ := h.cov b hb
    exact ⟨p, hp.symm.subset h1, h2⟩
  · refine (hp.pairwise_iff ?_).2 h.apart
    intro p q hpq b hb
    cases e : p.getLsbD b with
    | false => rfl
    | true => rw [hpq b e] at hb; cases hb
/-- One byte lies in one part. -/
theorem IsPart.same {l pl : List (BitVec 256)} (h : IsPart l pl) {p q : BitVec 256} (hp : p ∈ pl) (hq : q ∈ pl) {b : Nat} (hb : b < 256) (h1 : p.getLsbD b = true) (h2 : q.getLsbD b = true) : p = q := by
  refine BitVec.eq_of_getLsbD_eq fun i hi => ?_
  have e1 := (h.mem p hp).2 b hb h1 i hi
  have e2 := (h.mem q hq).2 b hb h2 i hi
  have : p.getLsbD i = true ↔ q.getLsbD i = true := e1.trans e2.symm
  cases hpi : p.getLsbD i <;> cases hqi : q.getLsbD i <;> simp_all
theorem least_mem {p : BitVec 256} (h : p ≠ 0#256) : p.getLsbD (least p) = true ∧ ∀ b, b < 256 → p.getLsbD b = true → least p ≤ b := by
  obtain ⟨a, ha, hpa⟩ := has_byte h
  have hup := bytesOf_up p
  have hm := (mem_bytes p a).2 ⟨ha, hpa⟩
  unfold least
  cases e : bytesOf p with
  | nil => rw [e] at hm; simp at hm
  | cons x r =>
    rw [e] at hup
    refine ⟨((mem_bytes p x).1 (by rw [e]; simp)).2, fun b hb hpb => ?_⟩
    have hmb := (mem_bytes p b).2 ⟨hb, hpb⟩
    rw [e] at hmb
    rcases List.mem_cons.1 hmb with rfl | hr
    · simp
    · have := (List.pairwise_cons.1 hup).1 b hr
      simp; omega
theorem IsPart.least_inj {l pl : List (BitVec 256)} (h : IsPart l pl) {p q : BitVec 256} (hp : p ∈ pl) (hq : q ∈ pl) (he : least p = least q) : p = q :=
  h.same hp hq (least_lt p) (least_mem (h.mem p hp).1).1 (he ▸ (least_mem (h.mem q hq).1).1)
theorem IsPart.nodup {l pl : List (BitVec 256)} (h : IsPart l pl) : pl.Nodup := by
  refine (h.apart.imp_of_mem ?_)
  intro p q hp hq hpq e
  obtain ⟨a, ha, hpa⟩ := has_byte (h.mem p hp).1
  have := hpq a hpa
  rw [← e, hpa] at this
  cases this
end Go.Proofs.YtjcfnmjjkadaeaaGreatDoor
/- On which sets By hangs. -/
namespace Go.Proofs.YtjcfnmjjkadaeaaGreatDoor
set_option maxRecDepth 100000
set_option linter.unusedSimpArgs false
set_option linter.unusedVariables false
open Go.RowKit

theorem wayL_same (a b : Nat) : ∀ l : List RE, (∀ k ∈ l.take (leadN l), k.beh a = k.beh b) → wayL l (l.map (RE.beh a)) = wayL l (l.map (RE.beh b))
  | [], _ => rfl
  | k :: l, h => by
    have h0 : k.beh a = k.beh b := h k (by
      rw [leadN]
      split
      · rw [Nat.add_comm, List.take_succ_cons]; simp
      · simp)
    rw [List.map_cons, List.map_cons, wayL, wayL, h0]
    by_cases hn : k.null = true
    · rw [if_pos hn, if_pos hn, wayL_same a b l fun x hx => h x (by
        rw [leadN, if_pos hn, Nat.add_comm, List.take_succ_cons]
        exact List.mem_cons_of_mem _ hx)]
    · rw [if_neg hn, if_neg hn]
theorem mem_sts {f : Bool} {o : Nat} {s : BitVec 256} {ks : List RE} (h2 : o ≠ 2) {k : RE} (hk : k ∈ ks.take (pickN f o ks)) {x : BitVec 256} (hx : x ∈ k.sts f) : x ∈ (RE.mk o s ks).sts f := by
  rw [RE.sts_mk, if_neg h2, ← List.map_take, List.mem_flatten]
  exact ⟨_, List.mem_map.2 ⟨k, hk, rfl⟩, hx⟩
/-- Bytes that no set on which By hangs tells apart have the same behind them. -/
theorem beh_same (a b : Nat) (r : RE) : (∀ s ∈ r.sts true, s.getLsbD a = s.getLsbD b) → r.beh a = r.beh b := by
  induction r using RE.ind with
  | h o s ks ih =>
    intro h
    by_cases h2 : o = 2
    · subst h2
      rw [beh2, beh2, h s (by rw [RE.sts_mk, if_pos rfl]; simp)]
    · have hk : ∀ k ∈ ks.take (pickN true o ks), k.beh a = k.beh b := fun k hk => ih k (List.mem_of_mem_take hk) fun x hx => h x (mem_sts h2 hk hx)
      by_cases h3 : o = 3
      · subst h3
        rw [beh3, beh3]
        unfold behRow
        rw [wayL_same a b ks (by simpa [pickN] using hk)]
      · have hp : pickN true o ks = ks.length := by simp [pickN, h3]
        rw [hp, List.take_length] at hk
        have hm : ks.map (RE.beh a) = ks.map (RE.beh b) := List.map_congr_left hk
        rw [RE.beh_mk, RE.beh_mk, hm]
        simp only [if_neg h2]
theorem by_same (a b : Nat) (r : RE) (h : ∀ s ∈ r.sts true, s.getLsbD a = s.getLsbD b) : rBy a r = rBy b r := by
  unfold rBy
  rw [beh_same a b r h]

/-! ## Parts: how many, and how many bytes -/
def cntTo (p : BitVec 256) (n : Nat) : Nat := ((List.range n).filter fun b => p.getLsbD b).length
theorem cntTo_succ (p : BitVec 256) (n : Nat) : cntTo p (n + 1) = cntTo p n + (if p.getLsbD n then 1 else 0) := by
  unfold cntTo
  rw [List.range_succ, List.filter_append, List.length_append]
  by_cases h : p.getLsbD n = true <;> simp [h]
def cntS (pl : List (BitVec 256)) (n : Nat) : Nat := (pl.map fun p => cntTo p n).sum
theorem cntS_succ : ∀ (pl : List (BitVec 256)) (n : Nat), cntS pl (n + 1) = cntS pl n + (pl.filter fun p => p.getLsbD n).length
  | [], n => rfl
  | p :: pl, n => by
    have ih := cntS_succ pl n
    unfold cntS at ih ⊢
    rw [List.map_cons, List.sum_cons, ih, cntTo_succ, List.map_cons, List.sum_cons, List.filter_cons]
    by_cases h : p.getLsbD n = true
    · rw [if_pos h, if_pos h, List.length_cons]; omega
    · rw [if_neg h, if_neg h]; omega
theorem apart_one : ∀ (pl : List (BitVec 256)) (b : Nat), (pl.Pairwise fun p q => ∀ b, p.getLsbD b = true → q.getLsbD b = false) → (∃ p ∈ pl, p.getLsbD b = true) → (pl.filter fun p => p.getLsbD b).length = 1
  | [], _, _, h => by obtain ⟨p, hp, -⟩ := h; simp at hp
  | p :: pl, b, hp, h => by
    obtain ⟨h1, h2⟩ := List.pairwise_cons.1 hp
    rw [List.filter_cons]
    by_cases hb : p.getLsbD b = true
    · rw [if_pos hb]
      have : pl.filter (fun p => p.getLsbD b) = [] := List.filter_eq_nil_iff.2 fun q hq => by rw [h1 q hq b hb]; simp
      rw [this]; rfl
    · rw [if_neg hb]
      obtain ⟨q, hq, hqb⟩ := h
      rcases List.mem_cons.1 hq with rfl | hq
      · exact absurd hqb hb
      · exact apart_one pl b h2 ⟨q, hq, hqb⟩
theorem parts_sum {l pl : List (BitVec 256)} (h : IsPart l pl) : ∀ n, n ≤ 256 → cntS pl n = n
  | 0, _ => by
    clear h
    induction pl with
    | nil => rfl
    | cons p pl ih =>
      unfold cntS at ih ⊢
      rw [List.map_cons, List.sum_cons, ih]
      rfl
  | n + 1, hn => by
    rw [cntS_succ, parts_sum h n (by omega), apart_one pl n h.apart (h.cov n (by omega))]
theorem cntTo_pos {p : BitVec 256} (h : p ≠ 0#256) : 1 ≤ cntTo p 256 := by
  obtain ⟨a, ha, hb⟩ := has_byte h
  unfold cntTo
  have : a ∈ (List.range 256).filter fun b => p.getLsbD b := List.mem_filter.2 ⟨List.mem_range.2 ha, hb⟩
  exact List.length_pos_of_mem this
theorem len_sum : ∀ (pl : List (BitVec 256)), (∀ p ∈ pl, p ≠ 0#256) → pl.length ≤ cntS pl 256
  | [], _ => by simp
  | p :: pl, h => by
    have ih := len_sum pl (fun q hq => h q (by simp [hq]))
    have := cntTo_pos (h p (by simp))
    unfold cntS at ih ⊢
    rw [List.map_cons, List.sum_cons, List.length_cons]
    omega
theorem parts_256 {l pl : List (BitVec 256)} (h : IsPart l pl) : pl.length ≤ 256 := by
  have h1 := len_sum pl (fun p hp => (h.mem p hp).1)
  rw [parts_sum h 256 (Nat.le_refl _)] at h1
  exact h1
end Go.Proofs.YtjcfnmjjkadaeaaGreatDoor
/- What an expression does not tell apart, nothing that is made of it tells apart: so the heads of an expression serve for all that stands behind bytes. -/
namespace Go.Proofs.YtjcfnmjjkadaeaaGreatDoor
set_option maxRecDepth 100000
set_option linter.unusedSimpArgs false
set_option linter.unusedVariables false
open Go.RowKit

/-- No set of it tells these two bytes apart. -/
def Bl (a b : Nat) (r : RE) : Prop := ∀ s ∈ r.sts false, s.getLsbD a = s.getLsbD b
theorem bl_2 {a b : Nat} {s : BitVec 256} {ks : List RE} : Bl a b (.mk 2 s ks) ↔ s.getLsbD a = s.getLsbD b := by
  unfold Bl; rw [RE.sts_mk, if_pos rfl]; simp
theorem bl_mk {a b o : Nat} {s : BitVec 256} {ks : List RE} (h : o ≠ 2) : Bl a b (.mk o s ks) ↔ ∀ k ∈ ks, Bl a b k := by
  unfold Bl
  rw [RE.sts_mk, if_neg h, show pickN false o ks = ks.length from by simp [pickN], show ks.length = (ks.map (RE.sts false)).length from by simp, List.take_length]
  constructor
  · intro h k hk s hs
    exact h s (List.mem_flatten.2 ⟨_, List.mem_map.2 ⟨k, hk, rfl⟩, hs⟩)
  · intro h s hs
    obtain ⟨l, hl, hs⟩ := List.mem_flatten.1 hs
    obtain ⟨k, hk, rfl⟩ := List.mem_map.1 hl
    exact h k hk s hs
theorem Bl.kid {a b : Nat} {r : RE} (h : Bl a b r) (h2 : r.op ≠ 2) : ∀ k ∈ r.kids, Bl a b k := by
  cases r with
  | mk o s ks => exact (bl_mk h2).1 h
theorem Bl.set {a b : Nat} {r : RE} (h : Bl a b r) (h2 : r.op = 2) : r.set.getLsbD a = r.set.getLsbD b := by
  cases r with
  | mk o s ks =>
    change o = 2 at h2
    subst h2
    exact bl_2.1 h
theorem bl_nothing (a b : Nat) : Bl a b rNothing := (bl_mk (by decide)).2 (by simp)
theorem bl_empty (a b : Nat) : Bl a b rEmpty := (bl_mk (by decide)).2 (by simp)
theorem bl_one {a b : Nat} {s : BitVec 256} (h : s.getLsbD a = s.getLsbD b) : Bl a b (rOne s) := by
  unfold rOne
  split
  · exact bl_nothing a b
  · exact bl_2.2 h
theorem bl_join {a b o : Nat} (ho : o ≠ 2) {l : List RE} (h : ∀ k ∈ l, Bl a b k) : Bl a b (rJoin o l) := by
  by_cases h1 : l.length = 1
  · match l, h1 with
    | [r], _ => exact h r (by simp)
  · rw [rJoin_more o l h1]
    exact (bl_mk ho).2 h
theorem bl_flatL {a b o : Nat} (ho : o ≠ 2) {l : List RE} (h : ∀ k ∈ l, Bl a b k) : ∀ k ∈ flatL o l, Bl a b k := by
  intro k hk
  obtain ⟨r, hr, hk⟩ := List.mem_flatMap.1 hk
  split at hk
  · rename_i h3
    exact (h r hr).kid (by omega) k hk
  · simp at hk; subst hk; exact h _ hr
theorem bl_catL {a b : Nat} {l : List RE} (h : ∀ k ∈ l, Bl a b k) : ∀ k ∈ catL l, Bl a b k := by
  intro k hk
  obtain ⟨r, hr, hk⟩ := List.mem_flatMap.1 hk
  unfold catK at hk
  split at hk
  · simp at hk
  · split at hk
    · rename_i h3
      exact (h r hr).kid (by omega) k hk
    · simp at hk; subst hk; exact h _ hr
theorem bl_then {a b : Nat} {l : List RE} (h : ∀ k ∈ l, Bl a b k) : Bl a b (rThen l) := by
  unfold rThen
  split
  · exact bl_nothing a b
  · split
    · exact bl_empty a b
    · exact bl_join (by decide) (bl_catL h)
theorem bl_orSet {a b : Nat} : ∀ (l : List RE), (∀ k ∈ l, Bl a b k) → (orSet l).getLsbD a = (orSet l).getLsbD b := by
  have key : ∀ (l : List RE) (s : BitVec 256), (∀ k ∈ l, Bl a b k) → s.getLsbD a = s.getLsbD b →
      (l.foldl (fun s r => if r.op = 2 then s ||| r.set else s) s).getLsbD a = (l.foldl (fun s r => if r.op = 2 then s ||| r.set else s) s).getLsbD b := fun l => by
    induction l with
    | nil => intro s _ h; exact h
    | cons k l ih =>
      intro s h hs
      refine ih _ (fun x hx => h x (by simp [hx])) ?_
      show (if k.op = 2 then s ||| k.set else s).getLsbD a = (if k.op = 2 then s ||| k.set else s).getLsbD b
      split
      · rename_i h2
        rw [BitVec.getLsbD_or, BitVec.getLsbD_or, hs, (h k (by simp)).set h2]
      · exact hs
  exact fun l h => key l _ h (by simp)
theorem bl_andSet {a b : Nat} (ha : a < 256) (hb : b < 256) : ∀ (l : List RE), (∀ k ∈ l, Bl a b k) → (andSet l).getLsbD a = (andSet l).getLsbD b := by
  have key : ∀ (l : List RE) (s : BitVec 256), (∀ k ∈ l, Bl a b k) → s.getLsbD a = s.getLsbD b →
      (l.foldl (fun s r => if r.op = 2 then s &&& r.set else s) s).getLsbD a = (l.foldl (fun s r => if r.op = 2 then s &&& r.set else s) s).getLsbD b := fun l => by
    induction l with
    | nil => intro s _ h; exact h
    | cons k l ih =>
      intro s h hs
      refine ih _ (fun x hx => h x (by simp [hx])) ?_
      show (if k.op = 2 then s &&& k.set else s).getLsbD a = (if k.op = 2 then s &&& k.set else s).getLsbD b
      split
      · rename_i h2
        rw [BitVec.getLsbD_and, BitVec.getLsbD_and, hs, (h k (by simp)).set h2]
      · exact hs
  refine fun l h => key l _ h ?_
  unfold allB
  rw [BitVec.getLsbD_not, BitVec.getLsbD_not]
  simp [ha, hb]
theorem bl_ordL {a b : Nat} {l : List RE} (hw : ∀ k ∈ l, WfK k) (h : ∀ k ∈ l, Bl a b k) : ∀ k ∈ ordL l, Bl a b k := fun k hk => h k (((ordL_spec l hw).2 k).1 hk)
theorem bl_any {a b : Nat} {l : List RE} (hw : ∀ r ∈ l, Wf r) (h : ∀ k ∈ l, Bl a b k) : Bl a b (rAny l) := by
  unfold rAny
  simp only
  generalize hks : (orKeep (flatL 4 l) ++ if orSet (flatL 4 l) = 0#256 then [] else [rOne (orSet (flatL 4 l))]) = ks
  have hf := bl_flatL (o := 4) (by decide) h
  have hk : ∀ k ∈ ks, Wf k ∧ Bl a b k := by
    intro k hk
    rw [← hks] at hk
    rcases List.mem_append.1 hk with hk | hk
    · exact ⟨(wf_keepL (.inl rfl) hw 0 k hk).1, hf k (List.mem_filter.1 hk).1⟩
    · split at hk
      · simp at hk
      · simp at hk; subst hk
        exact ⟨wf_one _, bl_one (bl_orSet _ hf)⟩
  split
  · exact bl_nothing a b
  · exact bl_join (by decide) (bl_ordL (fun k hx => (hk k hx).1.k) fun k hx => (hk k hx).2)
theorem bl_many {a b : Nat} {r : RE} (h : Bl a b r) : Bl a b (rMany r) := by
  unfold rMany
  split
  · exact bl_empty a b
  · split
    · exact h
    · exact (bl_mk (by decide)).2 (by simpa using h)
theorem bl_all {a b : Nat} (ha : a < 256) (hb : b < 256) : Bl a b (rOne allB) := bl_one (by
  unfold allB
  rw [BitVec.getLsbD_not, BitVec.getLsbD_not]
  simp [ha, hb])
theorem bl_both {a b : Nat} (ha : a < 256) (hb : b < 256) {l : List RE} (hw : ∀ r ∈ l, Wf r) (h : ∀ k ∈ l, Bl a b k) : Bl a b (rBoth l) := by
  have hf := bl_flatL (o := 6) (by decide) h
  unfold rBoth
  simp only
  split
  · exact bl_nothing a b
  · split
    · exact bl_nothing a b
    · generalize hks : (orKeep (flatL 6 l) ++ if met (flatL 6 l) = true then [rOne (andSet (flatL 6 l))] else []) = ks
      have hk : ∀ k ∈ ks, Wf k ∧ Bl a b k := by
        intro k hk
        rw [← hks] at hk
        rcases List.mem_append.1 hk with hk | hk
        · exact ⟨(wf_keepL (.inr rfl) hw 0 k hk).1, hf k (List.mem_filter.1 hk).1⟩
        · split at hk
          · simp at hk; subst hk
            exact ⟨wf_one _, bl_one (bl_andSet ha hb _ hf)⟩
          · simp at hk
      split
      · exact bl_many (bl_all ha hb)
      · exact bl_join (by decide) (bl_ordL (fun k hx => (hk k hx).1.k) fun k hx => (hk k hx).2)
theorem bl_but {a b : Nat} (ha : a < 256) (hb : b < 256) {x y : RE} (hx : Bl a b x) (hy : Bl a b y) : Bl a b (rBut x y) := by
  unfold rBut
  split
  · exact hx
  · split
    · rename_i h2
      refine bl_one ?_
      rw [BitVec.getLsbD_and, BitVec.getLsbD_and, BitVec.getLsbD_not, BitVec.getLsbD_not, hx.set h2.1, hy.set h2.2]
      simp [ha, hb]
    · split
      · exact bl_nothing a b
      · exact (bl_mk (by decide)).2 (by simp [hx, hy])
theorem bl_with {a b : Nat} (ha : a < 256) (hb : b < 256) {r : RE} (hr : Bl a b r) {l : List RE} (hw : ∀ x ∈ l, Wf x) (h : ∀ x ∈ l, Bl a b x) : Bl a b (rWith r l) := by
  have hg : ∀ i, Bl a b (l.getD i rNothing) := fun i => by
    by_cases hi : i < l.length
    · rw [show l.getD i rNothing = l[i] from by simp [List.getD_eq_getElem?_getD, hi]]; exact h _ (List.getElem_mem hi)
    · rw [show l.getD i rNothing = rNothing from by simp [List.getD_eq_getElem?_getD, hi]]; exact bl_nothing a b
  unfold rWith
  split
  · exact bl_then h
  · split
    · exact bl_any hw h
    · split
      · exact bl_both ha hb hw h
      · split
        · exact bl_many (hg 0)
        · split
          · exact bl_but ha hb (hg 0) (hg 1)
          · exact hr
theorem bl_pack {a b : Nat} {ws : List (List RE)} (hw : ∀ w ∈ ws, ∀ x ∈ w, Wf x) (h : ∀ w ∈ ws, ∀ x ∈ w, Bl a b x) : ∀ x ∈ (pack ws).1, Bl a b x := by
  rcases Nat.lt_or_ge 1 ws.length with h1 | h1
  · rw [pack_2 h1]
    intro x hx
    simp only [List.mem_singleton] at hx
    subst hx
    refine bl_any (fun r hr => ?_) fun r hr => ?_
    · obtain ⟨w, hw', rfl⟩ := List.mem_map.1 hr
      exact wf_then (hw w hw')
    · obtain ⟨w, hw', rfl⟩ := List.mem_map.1 hr
      exact bl_then (h w hw')
  · rcases Nat.lt_or_ge 0 ws.length with h0 | h0
    · rw [pack_1 (by omega)]
      cases ws with
      | nil => simp at h0
      | cons w l => exact h w (by simp)
    · rw [pack_0 (by omega)]; simp
theorem bl_byOf {a b : Nat} {d : List RE × Bool} (h : ∀ x ∈ d.1, Bl a b x) : Bl a b (byOf d) := by
  unfold byOf
  split
  · exact bl_then h
  · exact bl_nothing a b
theorem bl_beh {a b : Nat} (ha : a < 256) (hb : b < 256) (c : Nat) (r : RE) : Wf r → Bl a b r → ∀ x ∈ (r.beh c).1, Bl a b x := by
  induction r using RE.ind with
  | h o s ks ih =>
    intro hw h
    by_cases h2 : o = 2
    · subst h2
      rw [beh2]; simp
    have hk : ∀ k ∈ ks, Bl a b k := h.kid h2
    have hkw : ∀ k ∈ ks, Wf k := hw.kid
    have hd : ∀ d ∈ ks.map (RE.beh c), ∀ x ∈ d.1, Bl a b x := by
      intro d hd
      obtain ⟨k, hkk, rfl⟩ := List.mem_map.1 hd
      exact ih k hkk (hkw k hkk) (hk k hkk)
    have hdw : ∀ d ∈ ks.map (RE.beh c), ∀ x ∈ d.1, Wf x := by
      intro d hd
      obtain ⟨k, hkk, rfl⟩ := List.mem_map.1 hd
      exact wf_beh c k (hkw k hkk)
    rw [RE.beh_mk]
    split
    · simp
    · split
      · exact bl_pack (mem_wayL ks _ hkw hdw) (mem_wayL ks _ hk hd)
      · split
        · intro x hx
          rcases List.mem_append.1 hx with h' | h'
          · cases hks : ks.map (RE.beh c) with
            | nil => rw [hks] at h'; simp at h'
            | cons d ds => rw [hks] at h'; exact hd d (by rw [hks]; simp) x h'
          · simp only [List.mem_singleton] at h'
            subst h'; exact h
        · split
          · intro x hx
            simp only [List.mem_singleton] at hx
            subst hx
            refine bl_with ha hb h (fun x hx => ?_) fun x hx => ?_
            · obtain ⟨d, hdd, rfl⟩ := List.mem_map.1 hx
              exact wf_byOf (hdw d hdd)
            · obtain ⟨d, hdd, rfl⟩ := List.mem_map.1 hx
              exact bl_byOf (hd d hdd)
          · simp
theorem bl_by {a b : Nat} (ha : a < 256) (hb : b < 256) (c : Nat) {r : RE} (hw : Wf r) (h : Bl a b r) : Bl a b (rBy c r) := bl_byOf (bl_beh ha hb c r hw h)

/-- The sets on which what stands behind one byte hangs are among all of them. -/
theorem sts_sub (r : RE) : ∀ s ∈ r.sts true, s ∈ r.sts false := by
  induction r using RE.ind with
  | h o s ks ih =>
    intro x hx
    by_cases h2 : o = 2
    · subst h2
      rw [RE.sts_mk, if_pos rfl] at hx ⊢; exact hx
    · rw [RE.sts_mk, if_neg h2, ← List.map_take] at hx
      obtain ⟨l, hl, hx⟩ := List.mem_flatten.1 hx
      obtain ⟨k, hk, rfl⟩ := List.mem_map.1 hl
      refine mem_sts h2 (k := k) ?_ (ih k (List.mem_of_mem_take hk) x hx)
      rw [show pickN false o ks = ks.length from by simp [pickN], List.take_length]
      exact List.mem_of_mem_take hk
theorem bl_same {a b : Nat} {r : RE} (h : Bl a b r) : rBy a r = rBy b r := by_same a b r fun s hs => h s (sts_sub r s hs)
end Go.Proofs.YtjcfnmjjkadaeaaGreatDoor
/- The states of an expression (what Build does), as a function; its budget. -/
namespace Go.Proofs.YtjcfnmjjkadaeaaGreatDoor
set_option maxRecDepth 100000
set_option linter.unusedSimpArgs false
set_option linter.unusedVariables false
open Go.RowKit

/-! ## The state of an expression -/
structure Bs where
  S : List RE
  t : Int
def posL (x : RE) (S : List RE) : Option Nat := S.findIdx? fun y => decide (y.key = x.key)
def fnd (g : Int) (s : Bs) (x : RE) : Bs × Option Nat :=
  if 20000 < x.size then (⟨s.S, (aft g s.t 1).1⟩, none)
  else match posL x s.S with
    | some q => (s, some q)
    | none => (⟨s.S ++ [x], (aft g s.t 1).1⟩, if (aft g s.t 1).2 then some s.S.length else none)
theorem posL_some {x : RE} {S : List RE} {q : Nat} (h : posL x S = some q) : ∃ hq : q < S.length, S[q].key = x.key := by
  unfold posL at h
  obtain ⟨h1, h2, -⟩ := List.findIdx?_eq_some_iff_getElem.1 h
  exact ⟨h1, by simpa using h2⟩
theorem posL_none {x : RE} {S : List RE} (h : posL x S = none) : ∀ y ∈ S, y.key ≠ x.key := by
  unfold posL at h
  rw [List.findIdx?_eq_none_iff] at h
  intro y hy
  simpa using h y hy
theorem posL_more {x : RE} {S S' : List RE} {q : Nat} (h : posL x S = some q) : posL x (S ++ S') = some q := by
  unfold posL at h ⊢
  rw [List.findIdx?_append, h]; rfl
theorem posL_new {x : RE} {S : List RE} (h : posL x S = none) : posL x (S ++ [x]) = some S.length := by
  unfold posL at h ⊢
  rw [List.findIdx?_append, h]
  simp

/-- What is told of the states at any time while all goes well. -/
structure BsOk (g : Int) (s : Bs) : Prop where
  wf : ∀ x ∈ s.S, Wf x
  low : ∀ x ∈ s.S, x.size ≤ 20000
  apart : s.S.Pairwise fun x y => x.key ≠ y.key
  t : s.t = s.S.length
  g : s.t ≤ g
/-- One state is only followed by more. -/
structure BsLe (s s' : Bs) : Prop where
  S : ∃ l, s'.S = s.S ++ l
  t : s.t ≤ s'.t
theorem BsLe.refl (s : Bs) : BsLe s s := ⟨⟨[], by simp⟩, Int.le_refl _⟩
theorem BsLe.trans {a b c : Bs} (h : BsLe a b) (h' : BsLe b c) : BsLe a c := by
  obtain ⟨⟨l, hl⟩, h1⟩ := h
  obtain ⟨⟨m, hm⟩, h2⟩ := h'
  exact ⟨⟨l ++ m, by rw [hm, hl, List.append_assoc]⟩, Int.le_trans h1 h2⟩
theorem BsLe.len {a b : Bs} (h : BsLe a b) : a.S.length ≤ b.S.length := by
  obtain ⟨l, hl⟩ := h.S
  rw [hl]; simp
theorem BsLe.get {a b : Bs} (h : BsLe a b) {q : Nat} (hq : q < a.S.length) : b.S.getD q rNothing = a.S.getD q rNothing := by
  obtain ⟨l, hl⟩ := h.S
  rw [hl]
  simp [List.getD_eq_getElem?_getD, List.getElem?_append_left hq]
theorem fnd_ok {g : Int} {s s1 : Bs} {x : RE} {q : Nat} (h : BsOk g s) (hx : Wf x) (hf : fnd g s x = (s1, some q)) :
    BsOk g s1 ∧ BsLe s s1 ∧ q < s1.S.length ∧ s1.S.getD q rNothing = x ∧ x.size ≤ 20000 ∧ posL x s1.S = some q := by
  unfold fnd at hf
  split at hf
  · cases hf
  · rename_i hsz
    split at hf
    · rename_i q' hp
      cases hf
      obtain ⟨hq, hk⟩ := posL_some hp
      refine ⟨h, .refl _, hq, ?_, by omega, hp⟩
      rw [List.getD_eq_getElem?_getD, List.getElem?_eq_getElem hq]
      exact key_inj (h.wf _ (List.getElem_mem hq)).k hx.k hk
    · rename_i hp
      have h0 : 0 ≤ s.t := by rw [h.t]; omega
      have ht : aft g s.t 1 = if g - s.t < 1 then (-s.t - 1, false) else (s.t + 1, true) := by
        unfold aft; rw [if_neg (by omega), if_neg (by omega)]
      rw [ht] at hf
      split at hf
      · simp at hf
      · rename_i hg
        simp only [if_true, Prod.mk.injEq, Option.some.injEq] at hf
        obtain ⟨rfl, rfl⟩ := hf
        refine ⟨⟨?_, ?_, ?_, ?_, ?_⟩, ⟨⟨[x], rfl⟩, ?_⟩, ?_, ?_, by omega, posL_new hp⟩
        · intro y hy
          rcases List.mem_append.1 hy with h' | h'
          · exact h.wf y h'
          · simp at h'; subst h'; exact hx
        · intro y hy
          rcases List.mem_append.1 hy with h' | h'
          · exact h.low y h'
          · simp at h'; subst h'; omega
        · rw [List.pairwise_append]
          refine ⟨h.apart, by simp, fun y hy z hz => ?_⟩
          simp at hz; subst hz
          exact posL_none hp y hy
        · show s.t + 1 = _
          rw [h.t]; simp
        · show s.t + 1 ≤ g
          omega
        · show s.t ≤ s.t + 1
          omega
        · simp
        · simp [List.getD_eq_getElem?_getD]
/-- Where it fails, no more are used than were granted. -/
theorem fnd_fail {g : Int} {s s1 : Bs} {x : RE} (h : BsOk g s) (hf : fnd g s x = (s1, none)) : BudOk g s1.t := by
  have h0 : 0 ≤ s.t := by rw [h.t]; omega
  have hb : BudOk g s.t := by
    unfold BudOk usedI
    rw [if_neg (by omega)]
    exact ⟨h0, h.g⟩
  have h1 := aft_ok hb (n := 1) (by omega)
  unfold fnd at hf
  split at hf
  · cases hf
    exact h1
  · split at hf
    · cases hf
    · simp only [Prod.mk.injEq] at hf
      obtain ⟨rfl, hf⟩ := hf
      exact h1
/-! ## A row -/
def rowA (g : Int) (x : RE) : List Nat → Bs → List Nat → Bs × Option (List Nat)
  | [], s, acc => (s, some acc)
  | h :: hs, s, acc => match fnd g s (rBy h x) with
    | (s1, none) => (s1, none)
    | (s1, some q) => rowA g x hs s1 (acc ++ [q])
/-- The row leads where it should. -/
structure RowOk (x : RE) (hs : List Nat) (S : List RE) (row : List Nat) : Prop where
  len : row.length = hs.length
  at' : ∀ i, i < hs.length → row.getD i 0 < S.length ∧ S.getD (row.getD i 0) rNothing = rBy (hs.getD i 0) x ∧ (rBy (hs.getD i 0) x).size ≤ 20000
theorem RowOk.more {x : RE} {hs : List Nat} {s s' : Bs} {row : List Nat} (h : RowOk x hs s.S row) (hl : BsLe s s') : RowOk x hs s'.S row :=
  ⟨h.len, fun i hi => ⟨Nat.lt_of_lt_of_le (h.at' i hi).1 hl.len, by rw [hl.get (h.at' i hi).1]; exact (h.at' i hi).2.1, (h.at' i hi).2.2⟩⟩
theorem rowA_ok {g : Int} {x : RE} (hx : Wf x) : ∀ (hs pre : List Nat) (s s1 : Bs) (acc row : List Nat), BsOk g s → RowOk x pre s.S acc → rowA g x hs s acc = (s1, some row) →
    BsOk g s1 ∧ BsLe s s1 ∧ RowOk x (pre ++ hs) s1.S row
  | [], pre, s, s1, acc, row, h, hr, he => by
    cases he
    exact ⟨h, .refl _, by simpa using hr⟩
  | b :: hs, pre, s, s1, acc, row, h, hr, he => by
    rw [rowA] at he
    split at he
    · cases he
    · rename_i s2 q hf
      obtain ⟨h1, h2, h3, h4, h5, -⟩ := fnd_ok h (wf_by b hx) hf
      have hr2 := hr.more h2
      obtain ⟨k1, k2, k3⟩ := rowA_ok hx hs (pre ++ [b]) s2 s1 (acc ++ [q]) row h1 ⟨by simp [hr.len], fun i hi => by
        simp at hi
        by_cases hlt : i < pre.length
        · have hla : i < acc.length := by rw [hr.len]; exact hlt
          have e1 : (acc ++ [q]).getD i 0 = acc.getD i 0 := by simp [List.getD_eq_getElem?_getD, List.getElem?_append_left hla]
          have e2 : (pre ++ [b]).getD i 0 = pre.getD i 0 := by simp [List.getD_eq_getElem?_getD, List.getElem?_append_left hlt]
          rw [e1, e2]
          exact hr2.at' i hlt
        · have hi2 : i = pre.length := by omega
          subst hi2
          have e1 : (acc ++ [q]).getD pre.length 0 = q := by rw [← hr.len]; simp [List.getD_eq_getElem?_getD]
          have e2 : (pre ++ [b]).getD pre.length 0 = b := by simp [List.getD_eq_getElem?_getD]
          rw [e1, e2]
          exact ⟨h3, h4, h5⟩⟩ he
      exact ⟨k1, h2.trans k2, by simpa using k3⟩
theorem rowA_fail {g : Int} {x : RE} (hx : Wf x) : ∀ (hs : List Nat) (s s1 : Bs) (acc : List Nat), BsOk g s → rowA g x hs s acc = (s1, none) → BudOk g s1.t
  | [], s, s1, acc, h, he => by cases he
  | b :: hs, s, s1, acc, h, he => by
    rw [rowA] at he
    split at he
    · rename_i s2 hf
      cases he
      exact fnd_fail h hf
    · rename_i s2 q hf
      exact rowA_fail hx hs s2 s1 _ (fnd_ok h (wf_by b hx) hf).1 he
/-! ## All of them -/
def bldA (g : Int) (hs : List Nat) : Nat → Bs → List (List Nat) → Bs × Option (List (List Nat))
  | 0, s, _ => (s, none)
  | n + 1, s, rows => if rows.length < s.S.length then
      match rowA g (s.S.getD rows.length rNothing) hs s [] with
      | (s1, none) => (s1, none)
      | (s1, some r) => bldA g hs n s1 (rows ++ [r])
    else (s, some rows)
def bldF (g : Int) (hs : List Nat) (r : RE) (t : Int) : Bs × Option (List (List Nat)) :=
  match fnd g ⟨[], t⟩ r with
  | (s, none) => (s, none)
  | (s, some _) => bldA g hs (g.toNat + 1) s []
/-- The rows so far lead where they should. -/
def RowsOk (hs : List Nat) (S : List RE) (rows : List (List Nat)) : Prop := rows.length ≤ S.length ∧ ∀ q, q < rows.length → RowOk (S.getD q rNothing) hs S (rows.getD q [])
theorem RowsOk.more {hs : List Nat} {s s' : Bs} {rows : List (List Nat)} (h : RowsOk hs s.S rows) (hl : BsLe s s') : RowsOk hs s'.S rows :=
  ⟨Nat.le_trans h.1 hl.len, fun q hq => by
    have := (h.2 q hq).more hl
    rwa [← hl.get (q := q) (by have := h.1; omega)] at this⟩
theorem bs_wf {g : Int} {s : Bs} (h : BsOk g s) (q : Nat) : Wf (s.S.getD q rNothing) := by
  by_cases hq : q < s.S.length
  · rw [List.getD_eq_getElem?_getD, List.getElem?_eq_getElem hq]
    exact h.wf _ (List.getElem_mem hq)
  · rw [List.getD_eq_getElem?_getD, List.getElem?_eq_none (by omega)]
    exact wf_nothing
theorem RowsOk.snoc {hs : List Nat} {S : List RE} {rows : List (List Nat)} {row : List Nat} (h : RowsOk hs S rows) (hlt : rows.length < S.length) (hr : RowOk (S.getD rows.length rNothing) hs S row) : RowsOk hs S (rows ++ [row]) := by
  refine ⟨by simp; omega, fun q hq => ?_⟩
  simp at hq
  by_cases hl : q < rows.length
  · rw [show (rows ++ [row]).getD q [] = rows.getD q [] from by simp [List.getD_eq_getElem?_getD, List.getElem?_append_left hl]]
    exact h.2 q hl
  · have e : q = rows.length := by omega
    subst e
    rw [show (rows ++ [row]).getD rows.length [] = row from by simp [List.getD_eq_getElem?_getD]]
    exact hr
theorem bldA_ok {g : Int} {hs : List Nat} : ∀ (n : Nat) (s s1 : Bs) (rows rows1 : List (List Nat)), BsOk g s → RowsOk hs s.S rows → bldA g hs n s rows = (s1, some rows1) →
    BsOk g s1 ∧ BsLe s s1 ∧ RowsOk hs s1.S rows1 ∧ rows1.length = s1.S.length
  | 0, s, s1, rows, rows1, h, hr, he => by cases he
  | n + 1, s, s1, rows, rows1, h, hr, he => by
    rw [bldA] at he
    split at he
    · rename_i hlt
      split at he
      · cases he
      · rename_i s2 row hrow
        obtain ⟨k1, k2, k3⟩ := rowA_ok (bs_wf h _) hs [] s s2 [] row h ⟨rfl, fun i hi => by simp at hi⟩ hrow
        rw [List.nil_append, ← k2.get hlt] at k3
        obtain ⟨j1, j2, j3, j4⟩ := bldA_ok n s2 s1 (rows ++ [row]) rows1 k1 ((hr.more k2).snoc (Nat.lt_of_lt_of_le hlt k2.len) k3) he
        exact ⟨j1, k2.trans j2, j3, j4⟩
    · cases he
      exact ⟨h, .refl _, hr, by have := hr.1; omega⟩
/-- There is always fuel: where it fails, the budget or an expression's size is why. -/
theorem bldA_fail {g : Int} {hs : List Nat} : ∀ (n : Nat) (s s1 : Bs) (rows : List (List Nat)), BsOk g s → rows.length ≤ s.S.length → g < n + rows.length → bldA g hs n s rows = (s1, none) → BudOk g s1.t
  | 0, s, s1, rows, h, hr, hn, he => by
    have := h.t; have := h.g
    omega
  | n + 1, s, s1, rows, h, hr, hn, he => by
    rw [bldA] at he
    split at he
    · rename_i hlt
      split at he
      · rename_i s2 hrow
        cases he
        exact rowA_fail (bs_wf h _) hs s s1 [] h hrow
      · rename_i s2 row hrow
        obtain ⟨k1, k2, -⟩ := rowA_ok (bs_wf h _) hs [] s s2 [] row h ⟨rfl, fun i hi => by simp at hi⟩ hrow
        exact bldA_fail n s2 s1 (rows ++ [row]) k1 (by have := k2.len; simp; omega) (by simp; omega) he
    · cases he
theorem rowA_le {g : Int} {x : RE} (hx : Wf x) {hs : List Nat} {s s1 : Bs} {row : List Nat} (h : BsOk g s) (he : rowA g x hs s [] = (s1, some row)) : BsOk g s1 ∧ BsLe s s1 :=
  let k := rowA_ok hx hs [] s s1 [] row h ⟨rfl, fun i hi => by simp at hi⟩ he
  ⟨k.1, k.2.1⟩
/-- What Build comes to, where nothing was taken before. -/
theorem bldF_ok {g : Int} {hs : List Nat} {r : RE} {s : Bs} {rows : List (List Nat)} (hr : Wf r) (hg : 0 ≤ g) (h : bldF g hs r 0 = (s, some rows)) :
    BsOk g s ∧ RowsOk hs s.S rows ∧ rows.length = s.S.length ∧ s.S.getD 0 rNothing = r ∧ 0 < s.S.length := by
  unfold bldF at h
  split at h
  · cases h
  · rename_i s0 q hf
    have h0 : BsOk g ⟨[], 0⟩ := ⟨by simp, by simp, by simp, rfl, hg⟩
    obtain ⟨k1, k2, k3, k4, k5, k6⟩ := fnd_ok h0 hr hf
    obtain ⟨j1, j2, j3, j4⟩ := bldA_ok _ s0 s [] rows k1 ⟨by simp, fun q hq => by simp at hq⟩ h
    have hq0 : q = 0 ∧ s0.S = [r] := by
      unfold fnd at hf
      split at hf
      · cases hf
      · rw [show posL r ([] : List RE) = none from rfl] at hf
        simp only [Prod.mk.injEq] at hf
        obtain ⟨rfl, hf⟩ := hf
        split at hf
        · cases hf; exact ⟨rfl, rfl⟩
        · cases hf
    obtain ⟨rfl, hS⟩ := hq0
    refine ⟨j1, j3, j4, by rw [j2.get k3]; exact k4, Nat.lt_of_lt_of_le k3 j2.len⟩
theorem bldF_fail {g : Int} {hs : List Nat} {r : RE} {s : Bs} (hr : Wf r) (hg : 0 ≤ g) (h : bldF g hs r 0 = (s, none)) : BudOk g s.t := by
  have h0 : BsOk g ⟨[], 0⟩ := ⟨by simp, by simp, by simp, rfl, hg⟩
  unfold bldF at h
  split at h
  · rename_i s0 hf
    cases h
    exact fnd_fail h0 hf
  · rename_i s0 q hf
    obtain ⟨k1, -⟩ := fnd_ok h0 hr hf
    exact bldA_fail _ s0 s [] k1 (by simp) (by simp; omega) h
end Go.Proofs.YtjcfnmjjkadaeaaGreatDoor
