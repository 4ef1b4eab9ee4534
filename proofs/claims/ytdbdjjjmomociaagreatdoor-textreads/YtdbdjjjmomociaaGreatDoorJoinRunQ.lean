/- Texts of this claim put together: RunN, RunO, RunP, RunQ. -/
import Derived.Test.YtdbdjjjmomociaaGreatDoorJoinOpenS
import Derived.Test.YtdbdjjjmomociaaGreatDoorJoinMathSame
/- How long the text of a class is, held against where it turns. -/
namespace Go.Proofs.YtdbdjjjmomociaaGreatDoor
set_option maxRecDepth 100000
set_option linter.unusedSimpArgs false
set_option linter.unusedVariables false
open Go.RowKit Go.Shelf St

/-- What a place at which a class turns may cost, in eighths of a byte. -/
def g8 (p : Nat) : Nat := if 32 ≤ p ∧ p ≤ 126 then 9 else if p = 31 then 27 else if p = 8 ∨ p = 9 ∨ p = 10 then 18 else 36
def bwl (b : Nat) : Nat := (byteW b).length
/-- The most that a text can be above its turns, behind k bytes: outside of a run; in one of one byte; in a longer one, without its end. -/
def dpN : Nat → Nat × Nat × Nat → Nat × Nat × Nat
  | k, (a, b, c) => (max a (max (b - g8 k) (c + 8 + 8 * bwl k - g8 k)), a + 8 * bwl (k + 1) - g8 k, max b c)
def dpS : Nat → Nat × Nat × Nat
  | 0 => (0, 8 * bwl 0, 0)
  | k + 1 => dpN k (dpS k)
def bdP (s : BitVec 256) (k : Nat) : Nat := ((List.range k).map fun p => if s.getLsbD p = s.getLsbD (p + 1) then 0 else g8 p).sum
theorem bdP_succ (s : BitVec 256) (k : Nat) : bdP s (k + 1) = bdP s k + if s.getLsbD k = s.getLsbD (k + 1) then 0 else g8 k := by
  unfold bdP; rw [List.range_succ, List.map_append, List.sum_append]; simp
theorem runW_lenE (f l : Nat) : (runW (f, l)).length = bwl f + if f < l then 1 + bwl l else 0 := by
  unfold runW bwl
  rw [List.length_append]
  split <;> simp <;> omega
/-- What holds behind k + 1 bytes. -/
def DpInv (s : BitVec 256) (k : Nat) : Prop :=
  match runSt (preB s (k + 1)) with
  | (em, none) => em = [] ∧ s.getLsbD k = false
  | (em, some (f, l)) => f ≤ l ∧ l ≤ k ∧ (s.getLsbD k = true ↔ l = k) ∧
    (l < k → 8 * ((runsW em).length + (runW (f, l)).length) ≤ bdP s k + (dpS k).1) ∧
    (l = k → f = l → 8 * ((runsW em).length + bwl f) ≤ bdP s k + (dpS k).2.1) ∧
    (l = k → f < l → 8 * ((runsW em).length + bwl f) ≤ bdP s k + (dpS k).2.2)
theorem dp_inv (s : BitVec 256) (k : Nat) : DpInv s k := by
  induction k with
  | zero =>
    unfold DpInv
    rw [preB_succ, show preB s 0 = [] from rfl]
    by_cases h : s.getLsbD 0
    · rw [if_pos h]
      simp only [List.nil_append]
      have e : runSt [0] = ([], some (0, 0)) := rfl
      rw [e]
      simp only
      refine ⟨Nat.le_refl _, Nat.le_refl _, by simp [h], fun h => by omega, fun _ _ => ?_, fun _ h => by omega⟩
      show 8 * (0 + bwl 0) ≤ _ + 8 * bwl 0
      omega
    · rw [if_neg h]
      exact ⟨rfl, by simpa using h⟩
  | succ k ih =>
    unfold DpInv at ih ⊢
    rw [preB_succ s (k + 1), bdP_succ]
    have hdp : dpS (k + 1) = dpN k (dpS k) := rfl
    rw [hdp]
    generalize hd : dpS k = d at *
    obtain ⟨da, db, dc⟩ := d
    simp only [dpN] at *
    generalize hst : runSt (preB s (k + 1)) = st at *
    obtain ⟨em, cur⟩ := st
    by_cases h : s.getLsbD (k + 1)
    · rw [if_pos h, runSt_snoc, hst]
      cases cur with
      | none =>
        simp only at ih
        obtain ⟨rfl, h0⟩ := ih
        simp only [runStep]
        refine ⟨Nat.le_refl _, Nat.le_refl _, by simp [h], fun h => by omega, fun _ _ => ?_, fun _ h => by omega⟩
        rw [if_neg (by rw [h, h0]; decide)]
        show 8 * (0 + bwl (k + 1)) ≤ _
        omega
      | some r =>
        obtain ⟨f, l⟩ := r
        simp only at ih
        obtain ⟨i1, i2, i3, i4, i5, i6⟩ := ih
        simp only [runStep]
        by_cases hl : l = k
        · subst hl
          have hk : s.getLsbD l = true := i3.2 rfl
          rw [if_pos rfl]
          simp only
          refine ⟨by omega, Nat.le_refl _, by simp [h], fun h => by omega, fun _ h => by omega, fun _ _ => ?_⟩
          rw [if_pos (by rw [h, hk])]
          by_cases hf : f = l
          · have := i5 rfl hf; omega
          · have := i6 rfl (by omega); omega
        · have hk : ¬ s.getLsbD k = true := fun e => hl (i3.1 e)
          rw [if_neg (by omega)]
          simp only
          refine ⟨Nat.le_refl _, Nat.le_refl _, by simp [h], fun h => by omega, fun _ _ => ?_, fun _ h => by omega⟩
          rw [if_neg (by rw [h]; exact hk), runsW_snoc, List.length_append]
          have := i4 (by omega)
          omega
    · rw [if_neg h, List.append_nil, hst]
      have h : s.getLsbD (k + 1) = false := by simpa using h
      cases cur with
      | none =>
        simp only at ih ⊢
        exact ⟨ih.1, h⟩
      | some r =>
        obtain ⟨f, l⟩ := r
        simp only at ih ⊢
        obtain ⟨i1, i2, i3, i4, i5, i6⟩ := ih
        refine ⟨i1, by omega, ⟨(fun e => by rw [h] at e; cases e), (fun e => by omega)⟩, fun _ => ?_, fun e => by omega, fun e => by omega⟩
        by_cases hl : l = k
        · subst hl
          have hk : s.getLsbD l = true := i3.2 rfl
          rw [if_neg (by rw [h, hk]; decide), runW_lenE]
          by_cases hf : f = l
          · have := i5 rfl hf
            rw [if_neg (by omega)]; omega
          · have := i6 rfl (by omega)
            rw [if_pos (by omega)]; omega
        · have hk : s.getLsbD k = false := by
            cases e : s.getLsbD k with
            | false => rfl
            | true => exact absurd (i3.1 e) hl
          rw [if_pos (by rw [h, hk])]
          have := i4 (by omega)
          omega
theorem dp_end : (dpS 255).1 ≤ 440 ∧ (dpS 255).2.1 ≤ 440 ∧ (dpS 255).2.2 + 40 ≤ 440 := by decide +kernel
theorem runsN_len (s : BitVec 256) : 8 * (runsW (runsOf s)).length ≤ bdw g8 s + 440 := by
  have h := dp_inv s 255
  unfold DpInv at h
  have e : preB s (255 + 1) = bytesOf s := (bytesOf_filter s).symm
  rw [e] at h
  obtain ⟨d1, d2, d3⟩ := dp_end
  have hb : bdw g8 s = bdP s 255 := rfl
  have hr : runsOf s = (runSt (bytesOf s)).1 ++ (runSt (bytesOf s)).2.toList := rfl
  rw [hb, hr]
  generalize runSt (bytesOf s) = st at *
  obtain ⟨em, cur⟩ := st
  cases cur with
  | none =>
    simp only at h
    rw [h.1]
    exact Nat.zero_le _
  | some r =>
    obtain ⟨f, l⟩ := r
    simp only at h
    obtain ⟨i1, i2, i3, i4, i5, i6⟩ := h
    show 8 * (runsW (em ++ [(f, l)])).length ≤ _
    rw [runsW_snoc, List.length_append]
    by_cases hl : l = 255
    · rw [runW_lenE]
      have hb4 : bwl l ≤ 4 := (byteW_len l).2
      by_cases hf : f = l
      · have := i5 hl hf
        rw [if_neg (by omega)]; omega
      · have := i6 hl (by omega)
        rw [if_pos (by omega)]; omega
    · have := i4 (by omega)
      omega
theorem classN_len (s : BitVec 256) : 8 * (classW s).length ≤ bdw g8 s + 464 := by
  have h1 := runsN_len s
  have h2 := runsN_len (~~~s)
  rw [bdw_not] at h2
  unfold classW
  repeat' split
  all_goals simp; try omega
/-- How many nodes are no classes. -/
def RE.inr : RE → Nat
  | .mk o _ ks => (if o = 2 then 0 else 1) + (ks.map fun k => k.inr).sum
def inrL (l : List RE) : Nat := (l.map RE.inr).sum
theorem RE.inr_mk (o : Nat) (s : BitVec 256) (ks : List RE) : (RE.mk o s ks).inr = (if o = 2 then 0 else 1) + inrL ks := by rw [RE.inr, inrL]
theorem inrL_cons (x : RE) (l : List RE) : inrL (x :: l) = x.inr + inrL l := by simp [inrL]
theorem inrL_append (a b : List RE) : inrL (a ++ b) = inrL a + inrL b := by simp [inrL]
theorem inr_le (r : RE) : r.inr ≤ r.cnt := by
  refine RE.ind (P := fun r => r.inr ≤ r.cnt) ?_ r
  intro o s ks ih
  rw [RE.inr_mk, RE.cnt_mk]
  have : inrL ks ≤ cntL ks := by
    clear s
    induction ks with
    | nil => exact Nat.zero_le _
    | cons x ks ihk =>
      rw [inrL_cons, cntL_cons]
      have := ih x (by simp)
      have := ihk fun k hk => ih k (by simp [hk])
      omega
  split <;> omega
theorem kidsN_len (o : Nat) (ks : List RE) (hc : ∀ k ∈ ks, 8 * k.txt.length + 24 + 464 * k.inr ≤ 40 * k.cnt + 464 * k.cnt + k.wt g8) (i : Nat) : 8 * (kidsT o i (kidL ks)).length + 464 * inrL ks ≤ 40 * cntL ks + 464 * cntL ks + wtL g8 ks := by
  induction ks generalizing i with
  | nil => exact Nat.zero_le _
  | cons k ks ih =>
    have h1 := hc k (by simp)
    have h2 := ih (fun x hx => hc x (by simp [hx])) (i + 1)
    have h3 := grpT_len (needN o i) (holdN k.op) k.txt
    have h4 := sepB_len o
    have h5 : (if 0 < i then sepB o else []).length ≤ 1 := by
      split
      · exact h4
      · simp
    rw [kidsT_cons, cntL_cons, wtL_cons, inrL_cons, List.length_append, List.length_append]
    omega
/-- How long a text is, by its nodes, its classes and their turns. -/
theorem txtN_len {r : RE} (hw : Wf r) : 8 * r.txt.length + 24 + 464 * r.inr ≤ 40 * r.cnt + 464 * r.cnt + r.wt g8 := by
  induction hw with
  | mk o s ks hk h ih =>
    have hks := kidsN_len o ks ih 0
    rw [RE.txt_mk, RE.cnt_mk, RE.wt_mk, RE.inr_mk]
    have ho := h.op
    have : o = 0 ∨ o = 1 ∨ o = 2 ∨ o = 3 ∨ o = 4 ∨ o = 5 ∨ o = 6 ∨ o = 7 := by omega
    rcases this with rfl | rfl | rfl | rfl | rfl | rfl | rfl | rfl
    · rw [opT_0, if_neg (by decide)]; simp; omega
    · rw [opT_1, if_neg (by decide)]; simp; omega
    · have := classN_len s
      rw [opT_2, if_pos rfl, (h.cls rfl).1]
      simp [inrL, cntL, wtL]; omega
    · rw [opT_3, if_neg (by decide)]; omega
    · rw [opT_4, if_neg (by decide)]; omega
    · rw [opT_5, if_neg (by decide)]; simp; omega
    · rw [opT_6, if_neg (by decide)]; omega
    · rw [opT_7, if_neg (by decide)]; omega
end Go.Proofs.YtdbdjjjmomociaaGreatDoor
/- What is read of a short text has no long text: what each call keeps. -/
namespace Go.Proofs.YtdbdjjjmomociaaGreatDoor
set_option maxRecDepth 100000
set_option linter.unusedSimpArgs false
set_option linter.unusedVariables false
open Go.RowKit Go.Shelf St

/-- Of an expression that was read of so many bytes: its turns, and that it has so many nodes, where parts were taken more than once. -/
def Iv (r : RE) (u : Nat) : Prop := ∃ k, r.wt g8 ≤ 18 * u * 2 ^ k ∧ 2 ^ k ≤ r.inr + 1 ∧ (k = 0 ∨ 5 * 2 ^ k ≤ 2 * (r.cnt + 1))
theorem Iv.le {r : RE} {u v : Nat} (h : Iv r u) (hv : u ≤ v) : Iv r v := by
  obtain ⟨k, h1, h2, h3⟩ := h
  exact ⟨k, Nat.le_trans h1 (Nat.mul_le_mul_right _ (Nat.mul_le_mul_left _ hv)), h2, h3⟩
theorem iv_zero {r : RE} {u : Nat} (h : r.wt g8 = 0) : Iv r u := ⟨0, by rw [h]; exact Nat.zero_le _, by simp, .inl rfl⟩
theorem iv_flat {r : RE} {u : Nat} (h : r.wt g8 ≤ 18 * u) : Iv r u := ⟨0, by simpa using h, by simp, .inl rfl⟩
def IvL : List RE → Nat → Prop
  | [], _ => True
  | x :: l, u => ∃ a b, a + b ≤ u ∧ Iv x a ∧ IvL l b
theorem IvL.le {l : List RE} {u v : Nat} (h : IvL l u) (hv : u ≤ v) : IvL l v := by
  cases l with
  | nil => trivial
  | cons x l =>
    obtain ⟨a, b, h1, h2, h3⟩ := h
    exact ⟨a, b, by omega, h2, h3⟩
theorem IvL.snoc {l : List RE} {x : RE} {u v : Nat} (h : IvL l u) (hx : Iv x v) : IvL (l ++ [x]) (u + v) := by
  induction l generalizing u with
  | nil => exact ⟨v, 0, by omega, hx, trivial⟩
  | cons y l ih =>
    obtain ⟨a, b, h1, h2, h3⟩ := h
    exact ⟨a, b + v, by omega, h2, ih h3⟩
theorem IvL.one {x : RE} {u : Nat} (h : Iv x u) : IvL [x] u := ⟨u, 0, by omega, h, trivial⟩
/-- All of them at once. -/
theorem ivl_max {l : List RE} {u : Nat} (h : IvL l u) : ∃ k, wtL g8 l ≤ 18 * u * 2 ^ k ∧ (k = 0 ∨ ∃ x ∈ l, 2 ^ k ≤ x.inr + 1 ∧ 5 * 2 ^ k ≤ 2 * (x.cnt + 1)) := by
  induction l generalizing u with
  | nil => exact ⟨0, by simp [wtL], .inl rfl⟩
  | cons x l ih =>
    obtain ⟨a, b, hab, ⟨k1, x1, x2, x3⟩, hl⟩ := h
    obtain ⟨k2, y1, y2⟩ := ih hl
    have m1 : 2 ^ k1 ≤ 2 ^ max k1 k2 := Nat.pow_le_pow_right (by decide) (Nat.le_max_left _ _)
    have m2 : 2 ^ k2 ≤ 2 ^ max k1 k2 := Nat.pow_le_pow_right (by decide) (Nat.le_max_right _ _)
    have z1 : 18 * a * 2 ^ k1 ≤ 18 * a * 2 ^ max k1 k2 := Nat.mul_le_mul_left _ m1
    have z2 : 18 * b * 2 ^ k2 ≤ 18 * b * 2 ^ max k1 k2 := Nat.mul_le_mul_left _ m2
    have z3 : 18 * a * 2 ^ max k1 k2 + 18 * b * 2 ^ max k1 k2 ≤ 18 * u * 2 ^ max k1 k2 := by
      rw [← Nat.add_mul]; exact Nat.mul_le_mul_right _ (by omega)
    refine ⟨max k1 k2, by rw [wtL_cons]; omega, ?_⟩
    rcases Nat.le_total k1 k2 with hk | hk
    · rw [Nat.max_eq_right hk]
      rcases y2 with y2 | ⟨z, hz, y3⟩
      · exact .inl y2
      · exact .inr ⟨z, by simp [hz], y3⟩
    · rw [Nat.max_eq_left hk]
      rcases x3 with x3 | x3
      · exact .inl x3
      · exact .inr ⟨x, by simp, x2, x3⟩
/-- What holds a part holds what is told of it. -/
theorem iv_of {l : List RE} {r : RE} {u : Nat} (h : IvL l u) (hw : r.wt g8 ≤ wtL g8 l) (hc : r.wt g8 = 0 ∨ ∀ x ∈ l, 4 ≤ x.cnt → x.inr ≤ r.inr ∧ x.cnt ≤ r.cnt) : Iv r u := by
  rcases hc with hc | hc
  · exact iv_zero hc
  · obtain ⟨k, h1, h2⟩ := ivl_max h
    rcases h2 with rfl | ⟨x, hx, h3, h4⟩
    · exact ⟨0, by omega, by simp, .inl rfl⟩
    · by_cases hk : k = 0
      · subst hk; exact ⟨0, by omega, by simp, .inl rfl⟩
      · have hp : 2 ≤ 2 ^ k := Nat.le_trans (by decide : 2 ≤ 2 ^ 1) (Nat.pow_le_pow_right (by decide) (by omega))
        obtain ⟨c1, c2⟩ := hc x hx (by omega)
        exact ⟨k, by omega, by omega, .inr (by omega)⟩
theorem leaf_cnt {x : RE} (hw : Wf x) (h : x.op = 0 ∨ x.op = 1 ∨ x.op = 2) : x.cnt = 1 := by
  have hs := hw.shp
  rw [RE.cnt_kids]
  rcases h with h | h | h
  · rw [hs.leaf (.inl h)]; rfl
  · rw [hs.leaf (.inr h)]; rfl
  · rw [(hs.cls h).1]; rfl
theorem inr_kids {r : RE} (h : r.op ≠ 2) : r.inr = 1 + inrL r.kids := by
  cases r with
  | mk o s ks => rw [RE.inr_mk, if_neg (show ¬ o = 2 from h)]; rfl
theorem sum_mem {f : RE → Nat} {x : RE} {l : List RE} (h : x ∈ l) : f x ≤ (l.map f).sum := by
  induction l with
  | nil => cases h
  | cons y l ih =>
    rw [List.map_cons, List.sum_cons]
    rcases List.mem_cons.1 h with rfl | h
    · omega
    · have := ih h; omega
/-- Some of them, each once, weigh no more than all. -/
theorem sum_sub {f : RE → Nat} : ∀ (a b : List RE), a.Nodup → (∀ x ∈ a, x ∈ b) → (a.map f).sum ≤ (b.map f).sum
  | [], b, _, _ => Nat.zero_le _
  | x :: a, b, hn, hs => by
    obtain ⟨b1, b2, rfl⟩ := List.append_of_mem (hs x (by simp))
    rw [List.nodup_cons] at hn
    have := sum_sub (f := f) a (b1 ++ b2) hn.2 fun y hy => by
      have := hs y (by simp [hy])
      simp only [List.mem_append, List.mem_cons] at this ⊢
      rcases this with h | rfl | h
      · exact .inl h
      · exact absurd hy hn.1
      · exact .inr h
    rw [List.map_append, List.sum_append] at this
    rw [List.map_cons, List.sum_cons, List.map_append, List.sum_append, List.map_cons, List.sum_cons]
    omega
theorem len_sub : ∀ (a b : List RE), a.Nodup → (∀ x ∈ a, x ∈ b) → a.length ≤ b.length := fun a b h1 h2 => by
  have := sum_sub (f := fun _ => 1) a b h1 h2
  have e : ∀ l : List RE, (l.map fun _ => 1).sum = l.length := fun l => by induction l with | nil => rfl | cons x l ih => simp [ih]; omega
  rwa [e, e] at this
/-- A row joined holds each of it. -/
theorem join_mem {o : Nat} (ho : o ≠ 2) {l : List RE} {x : RE} (h : x ∈ l) : x.inr ≤ (rJoin o l).inr ∧ x.cnt ≤ (rJoin o l).cnt := by
  by_cases h1 : l.length = 1
  · obtain ⟨y, rfl⟩ := List.length_eq_one_iff.1 h1
    rw [List.mem_singleton] at h
    rw [rJoin_one, h]; exact ⟨Nat.le_refl _, Nat.le_refl _⟩
  · rw [rJoin_more _ _ h1, RE.inr_mk, RE.cnt_mk, if_neg ho]
    have a : x.inr ≤ inrL l := sum_mem (f := RE.inr) h
    have b : x.cnt ≤ cntL l := sum_mem (f := RE.cnt) h
    omega
theorem join_kids {o : Nat} (ho : o ≠ 2) {l : List RE} {x : RE} (hx : x.op ≠ 2) (hl : 2 ≤ l.length) (hi : inrL x.kids ≤ inrL l) (hc : cntL x.kids ≤ cntL l) : x.inr ≤ (rJoin o l).inr ∧ x.cnt ≤ (rJoin o l).cnt := by
  rw [rJoin_more _ _ (by omega), RE.inr_mk, RE.cnt_mk, if_neg ho, inr_kids hx, RE.cnt_kids x]
  omega
theorem iv_then {l : List RE} {u : Nat} (h : IvL l u) (hw : ∀ r ∈ l, Wf r) : Iv (rThen l) u := by
  refine iv_of h (wt_then g8 l) ?_
  by_cases h0 : l.any (fun r => r.op == 0)
  · left; unfold rThen; rw [if_pos h0]; exact wt_nothing g8
  by_cases h1 : catL l = []
  · left; unfold rThen; rw [if_neg h0, if_pos h1]; exact wt_empty g8
  right
  intro x hx h4
  have e : rThen l = rJoin 3 (catL l) := by unfold rThen; rw [if_neg h0, if_neg h1]
  rw [e]
  have hn0 : ¬ (x.op = 0 ∨ x.op = 1 ∨ x.op = 2) := fun hh => by have := leaf_cnt (hw x hx) hh; omega
  obtain ⟨l1, l2, rfl⟩ := List.append_of_mem hx
  have ec : catL (l1 ++ x :: l2) = catL l1 ++ (catK x ++ catL l2) := by simp [catL]
  by_cases h3 : x.op = 3
  · have ek : catK x = x.kids := by unfold catK; rw [if_neg (by omega), if_pos h3]
    have hs := (hw x hx).shp.cat h3
    rw [ec, ek]
    refine join_kids (by decide) (by omega) (by simp; omega) ?_ ?_
    · rw [inrL_append, inrL_append]; omega
    · rw [cntL_append, cntL_append]; omega
  · have ek : catK x = [x] := by unfold catK; rw [if_neg (by omega), if_neg h3]
    exact join_mem (by decide) (by rw [ec, ek]; simp)
theorem mem_ordK {l : List RE} (hw : ∀ r ∈ l, Wf r) : ∀ x ∈ l, x ∈ ordL l := fun x hx => ((ordL_spec l (fun r hr => (hw r hr).k)).2 x).2 hx
theorem up_nodup {l : List RE} (h : l.Pairwise ltK) : l.Nodup := h.imp fun {a b} hab e => by
  subst e
  unfold ltK at hab
  rw [lexN_self] at hab
  omega
/-- The kids of an Or, an And, in a row that holds them, but for classes. -/
theorem kids_in {x : RE} {K : List RE} (hw : Wf x) (hx : x.op = 4 ∨ x.op = 6) (h1 : ∀ k ∈ x.kids, k.op ≠ 2 → k ∈ K) (h2 : (∃ k ∈ x.kids, k.op = 2) → ∃ c ∈ K, Wf c ∧ c.op = 2) :
    inrL x.kids ≤ inrL K ∧ cntL x.kids ≤ cntL K ∧ x.kids.length ≤ K.length := by
  obtain ⟨-, -, hup, hcl⟩ := hw.shp.or hx
  have hnd := up_nodup hup
  rcases one_class hcl with hn | ⟨a, y, b, e, hy, ha, hb⟩
  · have hs : ∀ k ∈ x.kids, k ∈ K := fun k hk => h1 k hk (hn k hk)
    exact ⟨sum_sub (f := RE.inr) _ _ hnd hs, sum_sub (f := RE.cnt) _ _ hnd hs, len_sub _ _ hnd hs⟩
  · obtain ⟨c, hc, hcw, hc2⟩ := h2 ⟨y, by rw [e]; simp, hy⟩
    have hyw : Wf y := hw.kid y (by rw [e]; simp)
    have nd : (a ++ c :: b).Nodup := by
      rw [e] at hnd
      rw [List.nodup_append] at hnd ⊢
      obtain ⟨n1, n2, n3⟩ := hnd
      rw [List.nodup_cons] at n2 ⊢
      refine ⟨n1, ⟨fun hm => hb c hm hc2, n2.2⟩, ?_⟩
      intro p hp q hq
      rcases List.mem_cons.1 hq with rfl | hq
      · rintro rfl; exact ha _ hp hc2
      · exact n3 p hp q (by simp [hq])
    have hs : ∀ k ∈ a ++ c :: b, k ∈ K := fun k hk => by
      rcases List.mem_append.1 hk with hk | hk
      · exact h1 k (by rw [e]; simp [hk]) (ha k hk)
      · rcases List.mem_cons.1 hk with rfl | hk
        · exact hc
        · exact h1 k (by rw [e]; simp [hk]) (hb k hk)
    have i0 : ∀ z : RE, Wf z → z.op = 2 → z.inr = 0 ∧ z.cnt = 1 := fun z hz hz2 => by
      refine ⟨?_, leaf_cnt hz (.inr (.inr hz2))⟩
      have := (hz.shp.cls hz2).1
      cases z with
      | mk o s ks =>
        simp only [RE.kids] at this
        subst this
        rw [RE.inr_mk, if_pos (show o = 2 from hz2)]; rfl
    obtain ⟨y1, y2⟩ := i0 y hyw hy
    obtain ⟨c1, c2⟩ := i0 c hcw hc2
    have q1 : inrL (a ++ c :: b) ≤ inrL K := sum_sub (f := RE.inr) _ _ nd hs
    have q2 : cntL (a ++ c :: b) ≤ cntL K := sum_sub (f := RE.cnt) _ _ nd hs
    have q3 := len_sub _ _ nd hs
    rw [e]
    rw [inrL_append, inrL_cons] at q1 ⊢
    rw [cntL_append, cntL_cons] at q2 ⊢
    rw [List.length_append, List.length_cons] at q3 ⊢
    omega
theorem wf_op2 {k : RE} (hw : Wf k) (h : k.op = 2) : k.set ≠ 0#256 := (hw.shp.cls h).2
theorem orSet_ne {l : List RE} {k : RE} (hk : k ∈ l) (h2 : k.op = 2) (hs : k.set ≠ 0#256) : orSet l ≠ 0#256 := by
  obtain ⟨l1, l2, rfl⟩ := List.append_of_mem hk
  have mono : ∀ (l : List RE) (s : BitVec 256) (i : Nat), s.getLsbD i = true → (l.foldl (fun s r => if r.op = 2 then s ||| r.set else s) s).getLsbD i = true := fun l => by
    induction l with
    | nil => intro s i h; exact h
    | cons y l ih =>
      intro s i h
      rw [List.foldl_cons]
      refine ih _ i ?_
      split
      · rw [BitVec.getLsbD_or, h]; rfl
      · exact h
  obtain ⟨i, hi⟩ : ∃ i, k.set.getLsbD i = true := Classical.byContradiction fun hn => hs (by
    apply BitVec.eq_of_getLsbD_eq
    intro i _
    cases e : k.set.getLsbD i with
    | true => exact absurd ⟨i, e⟩ hn
    | false => simp)
  intro e
  have : (orSet (l1 ++ k :: l2)).getLsbD i = true := by
    unfold orSet
    rw [List.foldl_append, List.foldl_cons, if_pos h2]
    exact mono _ _ i (by rw [BitVec.getLsbD_or, hi, Bool.or_true])
  rw [e] at this
  simp at this
theorem iv_any {l : List RE} {u : Nat} (h : IvL l u) (hw : ∀ r ∈ l, Wf r) : Iv (rAny l) u := by
  refine iv_of h (wt_any g8 l) ?_
  generalize hks : (orKeep (flatL 4 l) ++ if orSet (flatL 4 l) = 0#256 then [] else [rOne (orSet (flatL 4 l))]) = ks
  have e0 : rAny l = if ks = [] then rNothing else rJoin 4 (ordL ks) := by unfold rAny; simp only; rw [hks]
  by_cases hn : ks = []
  · left; rw [e0, if_pos hn]; exact wt_nothing g8
  right
  rw [e0, if_neg hn]
  have hfw := wf_flatL (.inl rfl) hw
  have hkw : ∀ r ∈ ks, Wf r := fun r hr => by
    rw [← hks] at hr
    rcases List.mem_append.1 hr with hr | hr
    · exact (hfw r (List.mem_filter.1 hr).1).1
    · split at hr
      · cases hr
      · rw [List.mem_singleton] at hr; rw [hr]; exact wf_one _
  have keepm : ∀ k ∈ flatL 4 l, k.op ≠ 0 → k.op ≠ 2 → k ∈ ordL ks := fun k hk h0 h2 => mem_ordK hkw k (by
    rw [← hks]
    exact List.mem_append.2 (.inl (List.mem_filter.2 ⟨hk, by simp [h0, h2]⟩)))
  intro x hx h4
  have hn0 : ¬ (x.op = 0 ∨ x.op = 1 ∨ x.op = 2) := fun hh => by have := leaf_cnt (hw x hx) hh; omega
  by_cases ho : x.op = 4
  · have hs := (hw x hx).shp.or (.inl ho)
    have hmf : ∀ k ∈ x.kids, k ∈ flatL 4 l := fun k hk => List.mem_flatMap.2 ⟨x, hx, by rw [if_pos ho]; exact hk⟩
    obtain ⟨q1, q2, q3⟩ := kids_in (K := ordL ks) (hw x hx) (.inl ho) (fun k hk h2 => keepm k (hmf k hk) (hs.2.1 k hk).1 h2) (fun ⟨k, hk, h2⟩ => by
      have hne := orSet_ne (hmf k hk) h2 (wf_op2 ((hw x hx).kid k hk) h2)
      refine ⟨rOne (orSet (flatL 4 l)), mem_ordK hkw _ ?_, wf_one _, one_op _ hne⟩
      rw [← hks, if_neg hne]; simp)
    exact join_kids (by decide) (by omega) (by omega) q1 q2
  · exact join_mem (by decide) (keepm x (List.mem_flatMap.2 ⟨x, hx, by rw [if_neg ho]; simp⟩) (by omega) (by omega))
theorem iv_both {l : List RE} {u : Nat} (h : IvL l u) (hw : ∀ r ∈ l, Wf r) : Iv (rBoth l) u := by
  refine iv_of h (wt_both g8 l) ?_
  by_cases ha : (flatL 6 l).any (fun r => r.op == 0)
  · left; unfold rBoth; simp only; rw [if_pos ha]; exact wt_nothing g8
  by_cases hz : andSet (flatL 6 l) = 0#256
  · left; unfold rBoth; simp only; rw [if_neg ha, if_pos hz]; exact wt_nothing g8
  generalize hks : (orKeep (flatL 6 l) ++ if met (flatL 6 l) = true then [rOne (andSet (flatL 6 l))] else []) = ks
  have e0 : rBoth l = if ks = [] then rMany (rOne allB) else rJoin 6 (ordL ks) := by unfold rBoth; simp only; rw [if_neg ha, if_neg hz, hks]
  by_cases hn : ks = []
  · left
    rw [e0, if_pos hn]
    have := wt_many g8 (rOne allB)
    rw [wt_one, bdw_all] at this
    omega
  right
  rw [e0, if_neg hn]
  have hfw := wf_flatL (.inr rfl) hw
  have hkw : ∀ r ∈ ks, Wf r := fun r hr => by
    rw [← hks] at hr
    rcases List.mem_append.1 hr with hr | hr
    · exact (hfw r (List.mem_filter.1 hr).1).1
    · split at hr
      · rw [List.mem_singleton] at hr; rw [hr]; exact wf_one _
      · cases hr
  have keepm : ∀ k ∈ flatL 6 l, k.op ≠ 0 → k.op ≠ 2 → k ∈ ordL ks := fun k hk h0 h2 => mem_ordK hkw k (by
    rw [← hks]
    exact List.mem_append.2 (.inl (List.mem_filter.2 ⟨hk, by simp [h0, h2]⟩)))
  intro x hx h4
  have hn0 : ¬ (x.op = 0 ∨ x.op = 1 ∨ x.op = 2) := fun hh => by have := leaf_cnt (hw x hx) hh; omega
  by_cases ho : x.op = 6
  · have hs := (hw x hx).shp.or (.inr ho)
    have hmf : ∀ k ∈ x.kids, k ∈ flatL 6 l := fun k hk => List.mem_flatMap.2 ⟨x, hx, by rw [if_pos ho]; exact hk⟩
    obtain ⟨q1, q2, q3⟩ := kids_in (K := ordL ks) (hw x hx) (.inr ho) (fun k hk h2 => keepm k (hmf k hk) (hs.2.1 k hk).1 h2) (fun ⟨k, hk, h2⟩ => by
      have hm : met (flatL 6 l) = true := List.any_eq_true.2 ⟨k, hmf k hk, by simp [h2]⟩
      refine ⟨rOne (andSet (flatL 6 l)), mem_ordK hkw _ ?_, wf_one _, one_op _ hz⟩
      rw [← hks, if_pos hm]; simp)
    exact join_kids (by decide) (by omega) (by omega) q1 q2
  · exact join_mem (by decide) (keepm x (List.mem_flatMap.2 ⟨x, hx, by rw [if_neg ho]; simp⟩) (by omega) (by omega))
theorem iv_but {a b : RE} {u v : Nat} (ha : Iv a u) (hb : Iv b v) (hwa : Wf a) (hwb : Wf b) : Iv (rBut a b) (u + v) := by
  have hl : IvL [a, b] (u + v) := ⟨u, v, Nat.le_refl _, ha, v, 0, by omega, hb, trivial⟩
  have hwt : wtL g8 [a, b] = a.wt g8 + b.wt g8 := by rw [wtL_cons, wtL_cons]; simp [wtL]
  by_cases h0 : a.op = 0 ∨ b.op = 0
  · have e : rBut a b = a := by unfold rBut; rw [if_pos h0]
    rw [e]; exact ha.le (by omega)
  by_cases h2 : a.op = 2 ∧ b.op = 2
  · refine iv_of hl (by rw [hwt]; exact wt_but g8 a b) (.inr fun x hx h4 => ?_)
    simp at hx
    rcases hx with rfl | rfl
    · have := leaf_cnt hwa (.inr (.inr h2.1)); omega
    · have := leaf_cnt hwb (.inr (.inr h2.2)); omega
  by_cases hk : lexN a.key b.key = 0
  · refine iv_zero ?_
    unfold rBut; rw [if_neg h0, if_neg h2, if_pos hk]; exact wt_nothing g8
  · refine iv_of hl (by rw [hwt]; exact wt_but g8 a b) (.inr fun x hx h4 => ?_)
    have e : rBut a b = .mk 7 0#256 [a, b] := by unfold rBut; rw [if_neg h0, if_neg h2, if_neg hk]
    rw [e, RE.inr_mk, RE.cnt_mk, if_neg (by decide)]
    have p : x.inr ≤ inrL [a, b] := sum_mem (f := RE.inr) hx
    have q : x.cnt ≤ cntL [a, b] := sum_mem (f := RE.cnt) hx
    omega
theorem iv_many {a : RE} {u : Nat} (ha : Iv a u) : Iv (rMany a) u := by
  by_cases h0 : a.op = 0 ∨ a.op = 1
  · refine iv_zero ?_; unfold rMany; rw [if_pos h0]; exact wt_empty g8
  by_cases h5 : a.op = 5
  · have e : rMany a = a := by unfold rMany; rw [if_neg h0, if_pos h5]
    rw [e]; exact ha
  · refine iv_of (IvL.one ha) (by have := wt_many g8 a; rw [wtL_cons]; simp [wtL]; omega) (.inr fun x hx h4 => ?_)
    rw [List.mem_singleton] at hx
    subst hx
    have e : rMany x = .mk 5 0#256 [x] := by unfold rMany; rw [if_neg h0, if_neg h5]
    rw [e, RE.inr_mk, RE.cnt_mk, if_neg (by decide), inrL_cons, cntL_cons]
    omega
/-- What is taken twice. -/
theorem iv_plus {a : RE} {u : Nat} (ha : Iv a u) (hw : Wf a) : Iv (rThen [a, rMany a]) u := by
  by_cases h0 : a.op = 0
  · refine iv_zero ?_
    have : a.wt g8 = 0 := by rw [hw.none h0]; exact wt_nothing g8
    have h1 := wt_then g8 [a, rMany a]
    have h2 := wt_many g8 a
    rw [wtL_cons, wtL_cons] at h1
    simp [wtL] at h1
    omega
  by_cases h1 : a.op = 1
  · refine iv_zero ?_
    have : a.wt g8 = 0 := by rw [hw.eps h1]; exact wt_empty g8
    have h1 := wt_then g8 [a, rMany a]
    have h2 := wt_many g8 a
    rw [wtL_cons, wtL_cons] at h1
    simp [wtL] at h1
    omega
  have hm : (rMany a).op = 5 ∧ a.cnt ≤ (rMany a).cnt ∧ a.inr ≤ (rMany a).inr ∧ (a.op ≠ 5 → (rMany a).cnt = 1 + a.cnt ∧ (rMany a).inr = 1 + a.inr) := by
    unfold rMany
    rw [if_neg (by omega)]
    split
    · rename_i h5; exact ⟨h5, Nat.le_refl _, Nat.le_refl _, fun h => absurd h5 h⟩
    · rw [RE.cnt_mk, RE.inr_mk, cntL_cons, inrL_cons, if_neg (by decide)]
      refine ⟨rfl, by omega, by omega, fun _ => ⟨by simp [cntL], by simp [inrL]⟩⟩
  have hcat : catL [a, rMany a] = catK a ++ [rMany a] := by
    have : catK (rMany a) = [rMany a] := by unfold catK; rw [if_neg (by omega), if_neg (by omega)]
    simp [catL, this]
  have hka : catK a ≠ [] ∧ 1 ≤ (catK a).length ∧ (a.op ≠ 3 → catK a = [a]) ∧ (a.op = 3 → catK a = a.kids) := by
    unfold catK
    rw [if_neg h1]
    split
    · rename_i h3
      have := (hw.shp.cat h3).1
      exact ⟨fun e => by rw [e] at this; simp at this, by omega, fun h => absurd h3 h, fun _ => rfl⟩
    · rename_i h3
      exact ⟨by simp, by simp, fun _ => rfl, fun h => absurd h h3⟩
  have hr : rThen [a, rMany a] = .mk 3 0#256 (catK a ++ [rMany a]) := by
    unfold rThen
    rw [if_neg (by simp [h0, hm.1]), hcat, if_neg (by simp), rJoin_more _ _ (by rw [List.length_append]; simp; exact hka.1)]
  have hcnt : (rThen [a, rMany a]).cnt ≥ 2 * a.cnt + 1 ∧ (a.cnt = 1 → (rThen [a, rMany a]).cnt ≥ 4) ∧ (rThen [a, rMany a]).inr ≥ 2 * a.inr + 1 := by
    rw [hr, RE.cnt_mk, RE.inr_mk, if_neg (by decide), cntL_append, inrL_append, cntL_cons, inrL_cons]
    have e1 : cntL [] = 0 := rfl
    have e2 : inrL [] = 0 := rfl
    by_cases h3 : a.op = 3
    · rw [hka.2.2.2 h3]
      have c1 := a.cnt_kids
      have c2 := inr_kids (r := a) (by omega)
      have := hm.2.2.2 (by omega)
      have hk2 := (hw.shp.cat h3).1
      have hk3 := cntL_len a.kids
      refine ⟨by omega, fun h => by omega, by omega⟩
    · rw [hka.2.2.1 h3, cntL_cons, inrL_cons]
      by_cases h5 : a.op = 5
      · obtain ⟨k, hk, -⟩ := hw.shp.star h5
        have c1 := a.cnt_kids
        rw [hk, cntL_cons] at c1
        have hk3 := cntL_len [k]
        rw [cntL_cons] at hk3
        simp at hk3
        refine ⟨by omega, fun h => by omega, by omega⟩
      · have := hm.2.2.2 h5
        refine ⟨by omega, fun h => by omega, by omega⟩
  obtain ⟨k, k1, k2, k3⟩ := ha
  have hp : 2 ^ (k + 1) = 2 ^ k * 2 := Nat.pow_succ ..
  refine ⟨k + 1, ?_, by omega, .inr ?_⟩
  · have h1 := wt_then g8 [a, rMany a]
    have h2 := wt_many g8 a
    rw [wtL_cons, wtL_cons] at h1
    have e : wtL g8 [] = 0 := rfl
    rw [hp, ← Nat.mul_assoc]
    omega
  · rcases k3 with rfl | k3
    · by_cases hc1 : a.cnt = 1
      · have := hcnt.2.1 hc1; simp; omega
      · have := a.cnt_kids; simp; omega
    · omega
theorem iv_maybe {a : RE} {u : Nat} (ha : Iv a u) (hw : Wf a) : Iv (rAny [a, rEmpty]) u :=
  iv_any (l := [a, rEmpty]) ⟨u, 0, by omega, ha, 0, 0, by omega, iv_zero (wt_empty g8), trivial⟩ (fun r hr => by
    simp at hr
    rcases hr with rfl | rfl
    · exact hw
    · exact wf_empty)
end Go.Proofs.YtdbdjjjmomociaaGreatDoor
/- What is read of a short text has no long text: the reader's run. Errors lie within the text. -/
namespace Go.Proofs.YtdbdjjjmomociaaGreatDoor
set_option maxRecDepth 100000
set_option linter.unusedSimpArgs false
set_option linter.unusedVariables false
open Go.RowKit Go.Shelf St

theorem g8_le (p : Nat) : g8 p ≤ 36 := by unfold g8; repeat' split
                                          all_goals omega
theorem g8_plain {p : Nat} (h : 32 ≤ p) (h' : p ≤ 126) : g8 p = 9 := by unfold g8; rw [if_pos ⟨h, h'⟩]
theorem tok_g8 (l : List Nat) (h : (scanN l).2 ≠ 0) : g8 ((scanN l).1 - 1) + g8 (scanN l).1 ≤ 18 * (scanN l).2 ∧ (scanN l).2 ≤ l.length := by
  cases l with
  | nil => exact absurd rfl h
  | cons a r =>
    unfold scanN at h ⊢
    simp only at h ⊢
    by_cases ha : a = 92
    · rw [if_pos ha] at h ⊢
      cases r with
      | nil => exact absurd rfl h
      | cons b r2 =>
        simp only at h ⊢
        by_cases h1 : b = 110
        · rw [if_pos h1]; exact ⟨by decide, by simp⟩
        rw [if_neg h1] at h ⊢
        by_cases h2 : b = 116
        · rw [if_pos h2]; exact ⟨by decide, by simp⟩
        rw [if_neg h2] at h ⊢
        by_cases h3 : b = 120
        · rw [if_pos h3] at h ⊢
          match r2, h with
          | [], h => exact absurd rfl h
          | [c], h => exact absurd rfl h
          | c :: d :: r3, h =>
            simp only at h ⊢
            split at h
            · rename_i hc
              rw [if_pos hc]
              have q1 := g8_le (16 * digitsL.idxOf c + digitsL.idxOf d - 1)
              have q2 := g8_le (16 * digitsL.idxOf c + digitsL.idxOf d)
              exact ⟨by simp only; omega, by simp⟩
            · exact absurd rfl h
        rw [if_neg h3] at h ⊢
        by_cases h4 : (!plainB b || letterB b) = true
        · rw [if_pos h4] at h; exact absurd rfl h
        · rw [if_neg h4]
          have hp : 32 ≤ b ∧ b ≤ 126 := by
            simp [plainB] at h4
            exact h4.1
          refine ⟨?_, by simp⟩
          simp only
          rw [g8_plain hp.1 hp.2]
          by_cases h32 : b = 32
          · subst h32; decide
          · rw [g8_plain (by omega) (by omega)]; omega
    · rw [if_neg ha] at h ⊢
      by_cases h4 : (!plainB a || signsL.contains a) = true
      · rw [if_pos h4] at h; exact absurd rfl h
      · rw [if_neg h4]
        have hp : (32 ≤ a ∧ a ≤ 126) ∧ a ≠ 32 := by
          simp [plainB, signsL] at h4
          omega
        refine ⟨?_, by simp⟩
        simp only
        rw [g8_plain hp.1.1 hp.1.2, g8_plain (by omega) (by omega)]; omega
/-- An error stays. -/
theorem keep0 (n : Nat) : Kept n (fun a _ => a ≠ 0) := fun a b e p ha he hp => by
  rw [if_neg ha]; exact ha
theorem err_back {n f : Nat} {m : Md} {st : St} {r : RE} {st' : St} (h : P n f m st = some (r, st')) (h0 : st'.err = 0) : st.err = 0 :=
  Classical.byContradiction fun hn => P_keep (keep0 n) f m st r st' h hn h0
theorem sized_lenP (n : Nat) (r : RE) (st : St) : (sized n (r, st)).rest.length ≤ st.rest.length := by
  have := (counted_eq n st).2.2.1
  unfold sized
  split
  · exact Nat.zero_le _
  · exact this
theorem deeper_len (n : Nat) (st : St) : (st.deeper n).rest.length ≤ st.rest.length := by
  unfold deeper
  split
  · exact Nat.zero_le _
  · exact Nat.le_refl _
theorem classL_back {n f : Nat} {s : BitVec 256} {st : St} {q : BitVec 256} {st' : St} (h : classL n f s st = some (q, st')) (h0 : st'.err = 0) : st.err = 0 :=
  Classical.byContradiction fun hn => keep_classL (keep0 n) f s st q st' h hn h0
theorem byte_use (n : Nat) (st : St) (h : (st.byte n).err = 0) : g8 (st.byteV - 1) + g8 st.byteV ≤ 18 * (st.rest.length - (st.byte n).rest.length) ∧ (st.byte n).rest.length ≤ st.rest.length := by
  have hb := (byte_eq n st).2.2.1
  unfold byte at h hb ⊢
  by_cases hz : (scanN st.rest).2 = 0
  · rw [if_pos hz] at h
    exact absurd h (fail_err 2 _ _ (by decide))
  · rw [if_neg hz] at hb ⊢
    obtain ⟨t1, t2⟩ := tok_g8 st.rest hz
    refine ⟨?_, hb⟩
    show g8 ((scanN st.rest).1 - 1) + g8 (scanN st.rest).1 ≤ _
    have : (st.to (st.rest.drop (scanN st.rest).2)).rest.length = st.rest.length - (scanN st.rest).2 := by show (st.rest.drop _).length = _; rw [List.length_drop]
    rw [this]
    have e : st.rest.length - (st.rest.length - (scanN st.rest).2) = (scanN st.rest).2 := by omega
    rw [e]; exact t1
theorem classL_iv (n f : Nat) : ∀ (s : BitVec 256) (st : St) (q : BitVec 256) (st' : St) (c : Nat), classL n f s st = some (q, st') → st'.err = 0 → bdw g8 s ≤ 18 * c → ∃ c', bdw g8 q ≤ 18 * c' ∧ c' + st'.rest.length ≤ c + st.rest.length := by
  induction f with
  | zero => intro s st q st' c h _ _; simp [classL] at h
  | succ f ih =>
    intro s st q st' c h h0 hs
    unfold classL at h
    split at h
    · injection h with h; injection h with h1 h2
      subst h1 h2
      exact ⟨c, hs, Nat.add_le_add_left (here_len 93 st) c⟩
    · split at h
      · simp only at h
        have b1 := byte_use n st
        generalize st.byte n = st2 at h b1
        generalize st.byteV = low at h b1
        have b2 : (if st2.isAt 45 = true then (st2.here 45).byte n else st2).err = 0 → g8 (low - 1) + g8 (if st2.isAt 45 = true then (st2.here 45).byteV else low) ≤ 18 * (st.rest.length - (if st2.isAt 45 = true then (st2.here 45).byte n else st2).rest.length) ∧ (if st2.isAt 45 = true then (st2.here 45).byte n else st2).rest.length ≤ st.rest.length := by
          by_cases h45 : st2.isAt 45 = true
          · rw [if_pos h45, if_pos h45]
            intro e
            have e1 : st2.err = 0 := by
              have := ((byte_eq n (st2.here 45)).2.2.2.1 e).1
              rwa [(here_eq 45 _).2.2.1] at this
            obtain ⟨p1, p2⟩ := b1 e1
            obtain ⟨q1, q2⟩ := byte_use n _ e
            have q3 := here_len 45 st2
            refine ⟨?_, by omega⟩
            omega
          · rw [if_neg h45, if_neg h45]
            exact b1
        generalize (if st2.isAt 45 = true then (st2.here 45).byte n else st2) = st3 at h b2
        generalize (if st2.isAt 45 = true then (st2.here 45).byteV else low) = high at h b2
        have h4 : (if high < low then st3.fail 2 (st3.pos n) else st3).err = 0 := classL_back h h0
        by_cases hlt : high < low
        · rw [if_pos hlt] at h4
          exact absurd h4 (fail_err 2 _ _ (by decide))
        · rw [if_neg hlt] at h h4
          obtain ⟨p1, p2⟩ := b2 h4
          have hb := bdw_or g8 s (span low (high + 1))
          have hsp := bdw_span g8 low high
          obtain ⟨c', r1, r2⟩ := ih _ st3 q st' (c + (st.rest.length - st3.rest.length)) h h0 (by rw [Nat.mul_add]; omega)
          exact ⟨c', r1, by omega⟩
      · rename_i hne
        injection h with h; injection h with h1 h2
        subst h2
        exact absurd h0 hne
theorem clas_iv {n f : Nat} {st : St} {q : BitVec 256} {st' : St} (h : clas n f st = some (q, st')) (h0 : st'.err = 0) : ∃ c', bdw g8 q ≤ 18 * c' ∧ c' + st'.rest.length ≤ st.rest.length := by
  unfold clas at h
  split at h
  · obtain ⟨⟨a, b⟩, h1, h2⟩ := Option.map_eq_some_iff.1 h
    simp at h2
    obtain ⟨rfl, rfl⟩ := h2
    obtain ⟨c', r1, r2⟩ := classL_iv n f _ _ _ _ 0 h1 h0 (by rw [bdw_zero]; omega)
    have := here_len 94 st
    exact ⟨c', by rw [bdw_not]; exact r1, by omega⟩
  · obtain ⟨c', r1, r2⟩ := classL_iv n f _ _ _ _ 0 h h0 (by rw [bdw_zero]; omega)
    exact ⟨c', r1, by omega⟩
def PreIv : Md → Nat → Prop
  | .orL l, c => IvL l c ∧ ∀ r ∈ l, Wf r
  | .andL l, c => IvL l c ∧ ∀ r ∈ l, Wf r
  | .catL l, c => IvL l c ∧ ∀ r ∈ l, Wf r
  | .minusL r, c => Iv r c ∧ Wf r
  | .postL r, c => Iv r c ∧ Wf r
  | _, _ => True
theorem wf_snoc {l : List RE} {a : RE} (hl : ∀ r ∈ l, Wf r) (ha : Wf a) : ∀ r ∈ l ++ [a], Wf r := fun r hr => by
  rcases List.mem_append.1 hr with hr | hr
  · exact hl r hr
  · rw [List.mem_singleton] at hr; rw [hr]; exact ha
theorem wf_1 {a : RE} (ha : Wf a) : ∀ r ∈ [a], Wf r := fun r hr => by rw [List.mem_singleton] at hr; rw [hr]; exact ha
theorem P_iv (n : Nat) : ∀ (f : Nat) (m : Md) (st : St) (r : RE) (st' : St) (c : Nat), P n f m st = some (r, st') → st'.err = 0 → PreIv m c → ∃ c', Iv r c' ∧ Wf r ∧ c' + st'.rest.length ≤ c + st.rest.length
  | 0, m, st, r, st', c, h, _, _ => by simp [P] at h
  | f + 1, .or, st, r, st', c, h, h0, _ => by
    rw [P] at h
    obtain ⟨⟨a, s1⟩, h1, h2⟩ := Option.bind_eq_some_iff.1 h
    simp only at h2
    obtain ⟨c1, i1, w1, l1⟩ := P_iv n f _ _ _ _ 0 h1 (err_back h2 h0) trivial
    obtain ⟨c2, i2, w2, l2⟩ := P_iv n f _ _ _ _ c1 h2 h0 ⟨IvL.one i1, wf_1 w1⟩
    exact ⟨c2, i2, w2, by omega⟩
  | f + 1, .and, st, r, st', c, h, h0, _ => by
    rw [P] at h
    obtain ⟨⟨a, s1⟩, h1, h2⟩ := Option.bind_eq_some_iff.1 h
    simp only at h2
    obtain ⟨c1, i1, w1, l1⟩ := P_iv n f _ _ _ _ 0 h1 (err_back h2 h0) trivial
    obtain ⟨c2, i2, w2, l2⟩ := P_iv n f _ _ _ _ c1 h2 h0 ⟨IvL.one i1, wf_1 w1⟩
    exact ⟨c2, i2, w2, by omega⟩
  | f + 1, .cat, st, r, st', c, h, h0, _ => by
    rw [P] at h
    obtain ⟨⟨a, s1⟩, h1, h2⟩ := Option.bind_eq_some_iff.1 h
    simp only at h2
    obtain ⟨c1, i1, w1, l1⟩ := P_iv n f _ _ _ _ 0 h1 (err_back h2 h0) trivial
    obtain ⟨c2, i2, w2, l2⟩ := P_iv n f _ _ _ _ c1 h2 h0 ⟨IvL.one i1, wf_1 w1⟩
    exact ⟨c2, i2, w2, by omega⟩
  | f + 1, .minus, st, r, st', c, h, h0, _ => by
    rw [P] at h
    obtain ⟨⟨a, s1⟩, h1, h2⟩ := Option.bind_eq_some_iff.1 h
    simp only at h2
    obtain ⟨c1, i1, w1, l1⟩ := P_iv n f _ _ _ _ 0 h1 (err_back h2 h0) trivial
    obtain ⟨c2, i2, w2, l2⟩ := P_iv n f _ _ _ _ c1 h2 h0 ⟨i1, w1⟩
    exact ⟨c2, i2, w2, by omega⟩
  | f + 1, .post, st, r, st', c, h, h0, _ => by
    rw [P] at h
    obtain ⟨⟨a, s1⟩, h1, h2⟩ := Option.bind_eq_some_iff.1 h
    simp only at h2
    obtain ⟨c1, i1, w1, l1⟩ := P_iv n f _ _ _ _ 0 h1 (err_back h2 h0) trivial
    obtain ⟨c2, i2, w2, l2⟩ := P_iv n f _ _ _ _ c1 h2 h0 ⟨i1, w1⟩
    exact ⟨c2, i2, w2, by omega⟩
  | f + 1, .orL l, st, r, st', c, h, h0, hp => by
    have hl := sign_len 124 st
    rw [P] at h
    split at h
    · obtain ⟨⟨a, s1⟩, h1, h2⟩ := Option.bind_eq_some_iff.1 h
      simp only at h2
      obtain ⟨c1, i1, w1, l1⟩ := P_iv n f _ _ _ _ 0 h1 (err_back h2 h0) trivial
      obtain ⟨c2, i2, w2, l2⟩ := P_iv n f _ _ _ _ (c + c1) h2 h0 ⟨hp.1.snoc i1, wf_snoc hp.2 w1⟩
      exact ⟨c2, i2, w2, by omega⟩
    · injection h with h; injection h with h1 h2
      subst h1 h2
      exact ⟨c, iv_any hp.1 hp.2, wf_any hp.2, by omega⟩
  | f + 1, .andL l, st, r, st', c, h, h0, hp => by
    have hl := sign_len 38 st
    rw [P] at h
    split at h
    · obtain ⟨⟨a, s1⟩, h1, h2⟩ := Option.bind_eq_some_iff.1 h
      simp only at h2
      obtain ⟨c1, i1, w1, l1⟩ := P_iv n f _ _ _ _ 0 h1 (err_back h2 h0) trivial
      obtain ⟨c2, i2, w2, l2⟩ := P_iv n f _ _ _ _ (c + c1) h2 h0 ⟨hp.1.snoc i1, wf_snoc hp.2 w1⟩
      exact ⟨c2, i2, w2, by omega⟩
    · injection h with h; injection h with h1 h2
      subst h1 h2
      exact ⟨c, iv_both hp.1 hp.2, wf_both hp.2, by omega⟩
  | f + 1, .minusL x, st, r, st', c, h, h0, hp => by
    have hl := sign_len 45 st
    rw [P] at h
    split at h
    · obtain ⟨⟨a, s1⟩, h1, h2⟩ := Option.bind_eq_some_iff.1 h
      simp only at h2
      obtain ⟨c1, i1, w1, l1⟩ := P_iv n f _ _ _ _ 0 h1 (err_back h2 h0) trivial
      obtain ⟨c2, i2, w2, l2⟩ := P_iv n f _ _ _ _ (c + c1) h2 h0 ⟨iv_but hp.1 i1 hp.2 w1, wf_but hp.2 w1⟩
      exact ⟨c2, i2, w2, by omega⟩
    · injection h with h; injection h with h1 h2
      subst h1 h2
      exact ⟨c, hp.1, hp.2, by omega⟩
  | f + 1, .catL l, st, r, st', c, h, h0, hp => by
    have hl := skip_len st
    rw [P] at h
    cases hr : st.skip.rest with
    | nil =>
      rw [hr] at h
      injection h with h; injection h with h1 h2
      subst h1 h2
      exact ⟨c, iv_then hp.1 hp.2, wf_then hp.2, by omega⟩
    | cons b t =>
      rw [hr] at h
      simp only at h
      split at h
      · injection h with h; injection h with h1 h2
        subst h1 h2
        exact ⟨c, iv_then hp.1 hp.2, wf_then hp.2, by omega⟩
      · obtain ⟨⟨a, s1⟩, h1, h2⟩ := Option.bind_eq_some_iff.1 h
        simp only at h2
        obtain ⟨c1, i1, w1, l1⟩ := P_iv n f _ _ _ _ 0 h1 (err_back h2 h0) trivial
        obtain ⟨c2, i2, w2, l2⟩ := P_iv n f _ _ _ _ (c + c1) h2 h0 ⟨hp.1.snoc i1, wf_snoc hp.2 w1⟩
        exact ⟨c2, i2, w2, by omega⟩
  | f + 1, .postL x, st, r, st', c, h, h0, hp => by
    have l1 := sign_len 42 st
    have l2 := sign_len 43 (st.sign 42)
    have l3 := sign_len 63 ((st.sign 42).sign 43)
    rw [P] at h
    split at h
    · have ls := sized_lenP n (rMany x) (st.sign 42)
      obtain ⟨c2, i2, w2, l4⟩ := P_iv n f _ _ _ _ c h h0 ⟨iv_many hp.1, wf_many hp.2⟩
      exact ⟨c2, i2, w2, by omega⟩
    split at h
    · have ls := sized_lenP n (rThen [x, rMany x]) ((st.sign 42).sign 43)
      obtain ⟨c2, i2, w2, l4⟩ := P_iv n f _ _ _ _ c h h0 ⟨iv_plus hp.1 hp.2, wf_then (fun r hr => by
        simp at hr
        rcases hr with rfl | rfl
        · exact hp.2
        · exact wf_many hp.2)⟩
      exact ⟨c2, i2, w2, by omega⟩
    split at h
    · have ls := sized_lenP n (rAny [x, rEmpty]) (((st.sign 42).sign 43).sign 63)
      obtain ⟨c2, i2, w2, l4⟩ := P_iv n f _ _ _ _ c h h0 ⟨iv_maybe hp.1 hp.2, wf_any (fun r hr => by
        simp at hr
        rcases hr with rfl | rfl
        · exact hp.2
        · exact wf_empty)⟩
      exact ⟨c2, i2, w2, by omega⟩
    · injection h with h; injection h with h1 h2
      subst h1 h2
      exact ⟨c, hp.1, hp.2, by omega⟩
  | f + 1, .atom, st, r, st', c, h, h0, _ => by
    have l1 := sign_len 40 st
    have l2 := sign_len 91 (st.sign 40)
    have l3 := sign_len 46 ((st.sign 40).sign 91)
    rw [P] at h
    split at h
    · obtain ⟨⟨a, s1⟩, h1, h2⟩ := Option.map_eq_some_iff.1 h
      simp only [Prod.mk.injEq] at h2
      obtain ⟨e1, e2⟩ := h2
      subst e1 e2
      have hc := (counted_eq n s1).2.2
      obtain ⟨c2, i2, w2, l4⟩ := P_iv n f _ _ _ _ 0 h1 (hc.2.1 h0).1 trivial
      exact ⟨c2, i2, w2, by have := hc.1; omega⟩
    split at h
    · obtain ⟨⟨a, s1⟩, h1, h2⟩ := Option.map_eq_some_iff.1 h
      simp only [Prod.mk.injEq] at h2
      obtain ⟨e1, e2⟩ := h2
      subst e1 e2
      have hc := (counted_eq n s1).2.2
      obtain ⟨c2, i2, l4⟩ := clas_iv h1 (hc.2.1 h0).1
      exact ⟨c2, iv_flat (by rw [wt_one]; exact i2), wf_one _, by have := hc.1; omega⟩
    split at h
    · injection h with h; injection h with e1 e2
      subst e1 e2
      have hc := (counted_eq n (((st.sign 40).sign 91).sign 46)).2.2.1
      exact ⟨0, iv_zero (by rw [wt_one, bdw_all]), wf_one _, by omega⟩
    · injection h with h; injection h with e1 e2
      subst e1 e2
      have hc := (counted_eq n ((((st.sign 40).sign 91).sign 46).byte n)).2.2
      obtain ⟨p1, p2⟩ := byte_use n _ (hc.2.1 h0).1
      have hs := bdw_setOf1 g8 (((st.sign 40).sign 91).sign 46).byteV
      exact ⟨_, iv_flat (u := (((st.sign 40).sign 91).sign 46).rest.length - ((((st.sign 40).sign 91).sign 46).byte n).rest.length) (by rw [wt_one]; omega), wf_one _, by have := hc.1; omega⟩
  | f + 1, .group, st, r, st', c, h, h0, _ => by
    have l0 := deeper_len n st
    have l1 := sign_len 41 (st.deeper n)
    rw [P] at h
    split at h
    · injection h with h; injection h with e1 e2
      subst e1 e2
      exact ⟨0, iv_zero (wt_empty g8), wf_empty, by show 0 + ((st.deeper n).sign 41).rest.length ≤ _; omega⟩
    · obtain ⟨⟨a, s1⟩, h1, h2⟩ := Option.map_eq_some_iff.1 h
      simp only [Prod.mk.injEq] at h2
      obtain ⟨e1, e2⟩ := h2
      subst e1
      have l2 := sign_len 41 s1
      by_cases hb : s1.signB 41 = true
      · rw [if_pos hb] at e2
        subst e2
        have he : s1.err = 0 := by
          have : (s1.sign 41).err = 0 := h0
          rwa [(sign_eq 41 s1).2.2.1] at this
        obtain ⟨c2, i2, w2, l4⟩ := P_iv n f _ _ _ _ 0 h1 he trivial
        exact ⟨c2, i2, w2, by show c2 + (s1.sign 41).rest.length ≤ _; omega⟩
      · rw [if_neg hb] at e2
        subst e2
        exact absurd (show ((s1.sign 41).fail 2 (St.pos n (s1.sign 41))).err = 0 from h0) (fail_err 2 _ _ (by decide))
theorem rd_err {l : List Nat} (h : (rdEnd l).err = 0) : (readQ l).2.err = 0 := by
  unfold rdEnd at h
  generalize readQ l = q at *
  simp only at h
  have hk : ∀ s : St, s.skip.err = s.err := fun s => rfl
  have key : ∀ s1 : St, (if s1.err = 0 ∧ 1000 < q.1.size then s1.fail 3 0 else s1).err = 0 → s1.err = 0 := fun s1 h => by
    split at h
    · exact absurd h (fail_err 3 _ _ (by decide))
    · exact h
  have h1 := key _ h
  by_cases he : q.2.skip.rest.isEmpty = true
  · rw [if_pos he, hk] at h1; exact h1
  · rw [if_neg he] at h1; exact absurd h1 (fail_err 2 _ _ (by decide))
/-- What is read of a text of at most 300 bytes, if it has at most 300 nodes, has a text that can be read. -/
theorem read_short {l : List Nat} (hl : l.length ≤ 300) (he : (rdEnd l).err = 0) (hz : (readQ l).1.cnt ≤ 300) : (readQ l).1.txt.length ≤ 65536 := by
  have h0 := rd_err he
  have hs := readQ_some (l := l) (by omega)
  obtain ⟨r, st, hq⟩ : ∃ r st, readQ l = (r, st) := ⟨_, _, rfl⟩
  rw [hq] at hs h0 hz ⊢
  obtain ⟨u, ⟨k, k1, k2, k3⟩, w, lu⟩ := P_iv l.length _ _ _ _ _ 0 hs h0 trivial
  have hu : u ≤ 300 := by
    have : (St.init l).rest.length = l.length := rfl
    omega
  have ht := txtN_len w
  have hk : k ≤ 6 := by
    rcases k3 with rfl | k3
    · omega
    · refine Classical.byContradiction fun hn => ?_
      have : 2 ^ 7 ≤ 2 ^ k := Nat.pow_le_pow_right (by decide) (by omega)
      simp only at hz
      omega
  have hp : 2 ^ k ≤ 64 := Nat.le_trans (Nat.pow_le_pow_right (by decide) hk) (by decide)
  have hm : 18 * u * 2 ^ k ≤ 5400 * 2 ^ k := Nat.mul_le_mul_right _ (by omega)
  simp only at hz ⊢
  generalize 2 ^ k = N at *
  omega
/-- An error is one of three, and lies within the text. -/
theorem rd_within {l : List Nat} (hl : l.length ≤ 65536) (he : (rdEnd l).err ≠ 0) : ((rdEnd l).err = 2 ∨ (rdEnd l).err = 3 ∨ (rdEnd l).err = 4) ∧ (rdEnd l).wh ≤ l.length := by
  have hJ : Kept l.length (fun a b => a = 0 ∨ ((a = 2 ∨ a = 3 ∨ a = 4) ∧ b ≤ l.length)) := fun a b e p ha he hp => by
    rcases ha with rfl | ha
    · exact .inr ⟨by simpa using he, by simpa using hp⟩
    · rw [if_neg (by omega), if_neg (by omega)]; exact .inr ha
  have hs := readQ_some (l := l) hl
  obtain ⟨r, st, hq⟩ : ∃ r st, readQ l = (r, st) := ⟨_, _, rfl⟩
  rw [hq] at hs
  have h1 := P_keep hJ _ _ _ _ _ hs (.inl rfl)
  have key : ∀ s1 : St, (s1.err = 0 ∨ ((s1.err = 2 ∨ s1.err = 3 ∨ s1.err = 4) ∧ s1.wh ≤ l.length)) → ∀ e p, (e = 2 ∨ e = 3 ∨ e = 4) → p ≤ l.length → ((s1.fail e p).err = 0 ∨ (((s1.fail e p).err = 2 ∨ (s1.fail e p).err = 3 ∨ (s1.fail e p).err = 4) ∧ (s1.fail e p).wh ≤ l.length)) := fun s1 h e p he hp => hJ _ _ e p h he hp
  have h2 : (rdEnd l).err = 0 ∨ (((rdEnd l).err = 2 ∨ (rdEnd l).err = 3 ∨ (rdEnd l).err = 4) ∧ (rdEnd l).wh ≤ l.length) := by
    unfold rdEnd
    rw [hq]
    simp only
    have hsk : st.skip.err = 0 ∨ ((st.skip.err = 2 ∨ st.skip.err = 3 ∨ st.skip.err = 4) ∧ st.skip.wh ≤ l.length) := h1
    have h3 : (if st.skip.rest.isEmpty = true then st.skip else st.skip.fail 2 (st.skip.pos l.length)).err = 0 ∨ (((if st.skip.rest.isEmpty = true then st.skip else st.skip.fail 2 (st.skip.pos l.length)).err = 2 ∨ (if st.skip.rest.isEmpty = true then st.skip else st.skip.fail 2 (st.skip.pos l.length)).err = 3 ∨ (if st.skip.rest.isEmpty = true then st.skip else st.skip.fail 2 (st.skip.pos l.length)).err = 4) ∧ (if st.skip.rest.isEmpty = true then st.skip else st.skip.fail 2 (st.skip.pos l.length)).wh ≤ l.length) := by
      split
      · exact hsk
      · exact key _ hsk 2 _ (.inl rfl) (pos_le _)
    generalize (if st.skip.rest.isEmpty = true then st.skip else st.skip.fail 2 (st.skip.pos l.length)) = s1 at h3 ⊢
    split
    · exact key _ h3 3 0 (.inr (.inl rfl)) (Nat.zero_le _)
    · exact h3
  exact h2.resolve_left he
end Go.Proofs.YtdbdjjjmomociaaGreatDoor
/- How deep a text's parentheses are. -/
namespace Go.Proofs.YtdbdjjjmomociaaGreatDoor
set_option maxRecDepth 100000
set_option linter.unusedSimpArgs false
set_option linter.unusedVariables false
open Go.RowKit Go.Shelf St

/-- The most that were open at once, from here on. -/
def dps : List Nat → Int → Int → Int
  | [], _, m => m
  | a :: r, n, m =>
    if a = 92 then (match r with | [] => m | _ :: r2 => dps r2 n m)
    else if a = 40 then dps r (n + 1) (max m (n + 1))
    else if a = 41 then dps r (n - 1) m
    else dps r n m
theorem dps_other {a : Nat} (h : a ≠ 92 ∧ a ≠ 40 ∧ a ≠ 41) (r : List Nat) (n m : Int) : dps (a :: r) n m = dps r n m := by
  conv => lhs; rw [dps.eq_def]
  simp only [if_neg h.1, if_neg h.2.1, if_neg h.2.2]
theorem dps_mark (a : Nat) (r : List Nat) (n m : Int) : dps (92 :: a :: r) n m = dps r n m := by
  conv => lhs; rw [dps.eq_def]
  simp only [if_true]
theorem dps_mark0 (n m : Int) : dps [92] n m = m := by
  rw [dps.eq_def]
  simp only [if_true]
theorem dps_open (r : List Nat) (n m : Int) : dps (40 :: r) n m = dps r (n + 1) (max m (n + 1)) := by
  conv => lhs; rw [dps.eq_def]
  rfl
theorem dps_close (r : List Nat) (n m : Int) : dps (41 :: r) n m = dps r (n - 1) m := by
  conv => lhs; rw [dps.eq_def]
  rfl
/-- A text without parentheses of its own. -/
def Neu (t : List Nat) : Prop := ∀ rest n m, dps (t ++ rest) n m = dps rest n m
theorem Neu.nil : Neu [] := fun _ _ _ => rfl
theorem Neu.append {a b : List Nat} (ha : Neu a) (hb : Neu b) : Neu (a ++ b) := fun rest n m => by rw [List.append_assoc, ha, hb]
theorem neu_1 {a : Nat} (h : a ≠ 92 ∧ a ≠ 40 ∧ a ≠ 41) : Neu [a] := fun rest n m => by
  exact dps_other h rest n m
theorem neu_2 (a : Nat) : Neu [92, a] := fun rest n m => by
  exact dps_mark a rest n m
theorem neu_byteC : ∀ c < 256, ((byteW c).length = 1 ∧ byteW c = [c] ∧ c ≠ 92 ∧ c ≠ 40 ∧ c ≠ 41) ∨ ((byteW c).length = 2 ∧ (byteW c).head? = some 92) ∨ (byteW c = [92, 120, (byteW c).getD 2 0, (byteW c).getD 3 0] ∧ ((byteW c).getD 2 0 ≠ 92 ∧ (byteW c).getD 2 0 ≠ 40 ∧ (byteW c).getD 2 0 ≠ 41) ∧ ((byteW c).getD 3 0 ≠ 92 ∧ (byteW c).getD 3 0 ≠ 40 ∧ (byteW c).getD 3 0 ≠ 41)) := by decide +kernel
theorem neu_byte {c : Nat} (hc : c < 256) : Neu (byteW c) := by
  rcases neu_byteC c hc with ⟨-, h1, h2⟩ | ⟨h1, h2⟩ | ⟨h1, h2, h3⟩
  · rw [h1]; exact neu_1 h2
  · match hb : byteW c, h1, h2 with
    | [x, y], _, h2 =>
      have : x = 92 := by simpa using h2
      subst this
      exact neu_2 y
  · rw [h1]
    exact (neu_2 120).append ((neu_1 h2).append (neu_1 h3))
theorem neu_runs (l : List (Nat × Nat)) (hl : ∀ x ∈ l, x.1 ≤ x.2 ∧ x.2 < 256) : Neu (runsW l) := by
  induction l with
  | nil => exact Neu.nil
  | cons x l ih =>
    have hx := hl x (by simp)
    have h2 : Neu (runW x) := by
      unfold runW
      refine (neu_byte (by omega)).append ?_
      split
      · exact (neu_1 (a := 45) (by decide)).append (neu_byte hx.2)
      · exact Neu.nil
    exact h2.append (ih fun y hy => hl y (by simp [hy]))
theorem neu_class (s : BitVec 256) : Neu (classW s) := by
  have h1 := neu_runs (runsOf s) (runsOf_ok s).1
  have h2 := neu_runs (runsOf (~~~s)) (runsOf_ok _).1
  unfold classW
  repeat' split
  · exact h1
  · exact neu_1 (by decide)
  · exact (((neu_1 (a := 91) (by decide)).append (neu_1 (a := 94) (by decide))).append h2).append (neu_1 (by decide))
  · exact ((neu_1 (a := 91) (by decide)).append h1).append (neu_1 (by decide))
/-- A text whose own parentheses lie so deep. -/
def Dpt (t : List Nat) (p : Nat) : Prop := ∀ rest n m, n ≤ m → dps (t ++ rest) n m = dps rest n (max m (n + p))
theorem Neu.dpt {t : List Nat} (h : Neu t) : Dpt t 0 := fun rest n m hm => by
  rw [h]
  congr 1
  omega
theorem Dpt.append {a b : List Nat} {p q : Nat} (ha : Dpt a p) (hb : Dpt b q) : Dpt (a ++ b) (max p q) := fun rest n m hm => by
  rw [List.append_assoc, ha _ _ _ hm, hb _ _ _ (by omega)]
  congr 1
  omega
theorem Dpt.paren {a : List Nat} {p : Nat} (ha : Dpt a p) : Dpt ([40] ++ a ++ [41]) (p + 1) := fun rest n m hm => by
  have e : [40] ++ a ++ [41] ++ rest = 40 :: (a ++ 41 :: rest) := by simp
  rw [e, dps_open, ha _ _ _ (by omega), dps_close]
  congr 1 <;> omega
theorem Dpt.grp {a : List Nat} {p : Nat} (ha : Dpt a p) (k h : Nat) : Dpt (grpT k h a) (grpN k h p) := by
  unfold grpT grpN
  split
  · exact ha.paren
  · exact ha
theorem neu_sep (o : Nat) : Neu (sepB o) := by
  unfold sepB
  repeat' split
  all_goals first | exact Neu.nil | exact neu_1 (by decide)
theorem dpt_kids (o : Nat) (ks : List RE) (h : ∀ k ∈ ks, Dpt k.txt k.pd) (i : Nat) : Dpt (kidsT o i (kidL ks)) (kidsP o i (kidPL ks)) := by
  induction ks generalizing i with
  | nil => exact Neu.nil.dpt
  | cons k ks ih =>
    rw [kidsT_cons, kidsP_cons]
    have h1 := (h k (by simp)).grp (needN o i) (holdN k.op)
    have h2 := h1.append (ih (fun x hx => h x (by simp [hx])) (i + 1))
    by_cases hi : 0 < i
    · rw [if_pos hi]
      have := (neu_sep o).dpt.append h2
      rwa [Nat.max_eq_right (Nat.zero_le _)] at this
    · rw [if_neg hi, List.nil_append]
      exact h2
theorem dpt_txt {r : RE} (hw : Wf r) : Dpt r.txt r.pd := by
  induction hw with
  | mk o s ks hk h ih =>
    have hks := dpt_kids o ks ih 0
    rw [RE.txt_mk, RE.pd_mk]
    have ho := h.op
    have : o = 0 ∨ o = 1 ∨ o = 2 ∨ o = 3 ∨ o = 4 ∨ o = 5 ∨ o = 6 ∨ o = 7 := by omega
    rcases this with rfl | rfl | rfl | rfl | rfl | rfl | rfl | rfl
    · rw [opT_0, h.leaf (.inl rfl)]
      exact ((neu_1 (a := 91) (by decide)).append (neu_1 (a := 93) (by decide))).dpt
    · rw [opT_1]
      exact (Neu.nil.dpt).paren
    · rw [opT_2, (h.cls rfl).1]
      exact (neu_class s).dpt
    · rw [opT_3]; exact hks
    · rw [opT_4]; exact hks
    · rw [opT_5]
      have := hks.append (neu_1 (a := 42) (by decide)).dpt
      rwa [Nat.max_eq_left (Nat.zero_le _)] at this
    · rw [opT_6]; exact hks
    · rw [opT_7]; exact hks
theorem dps_txt {r : RE} (hw : Wf r) : dps r.txt 0 0 = r.pd := by
  have := dpt_txt hw [] 0 0 (Int.le_refl _)
  rw [List.append_nil] at this
  rw [this]
  show max (0 : Int) (0 + r.pd) = r.pd
  omega
end Go.Proofs.YtdbdjjjmomociaaGreatDoor
