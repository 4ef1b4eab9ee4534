/- Texts of this claim put together: MathSame, RunB, RunC. -/
import Derived.Test.YtjlgepahgmkamaaGreatDoorJoinTwB
import Derived.Test.YtjlgepahgmkamaaGreatDoorJoinRdW
/- An expression in the settled form, with its own kids, is itself. -/
namespace Go.Proofs.YtjlgepahgmkamaaGreatDoor
set_option maxRecDepth 100000
set_option linter.unusedSimpArgs false
set_option linter.unusedVariables false
open Go.RowKit

theorem flatL_same {o : Nat} {l : List RE} (h : ∀ k ∈ l, k.op ≠ o) : flatL o l = l := by
  induction l with
  | nil => rfl
  | cons x l ih =>
    have hx := h x (by simp)
    have hl := ih fun k hk => h k (by simp [hk])
    unfold flatL at *
    rw [List.flatMap_cons, if_neg hx, hl]; rfl
theorem catL_same {l : List RE} (h : ∀ k ∈ l, k.op ≠ 1 ∧ k.op ≠ 3) : catL l = l := by
  induction l with
  | nil => rfl
  | cons x l ih =>
    have hx := h x (by simp)
    have hl := ih fun k hk => h k (by simp [hk])
    unfold catL at *
    rw [List.flatMap_cons, hl]
    unfold catK
    rw [if_neg hx.1, if_neg hx.2]; rfl
theorem rOne_set (c : BitVec 256) (h : c ≠ 0#256) : rOne c = .mk 2 c [] := by unfold rOne; rw [if_neg h]
theorem wf_class {r : RE} (hw : Wf r) (h : r.op = 2) : r = rOne r.set ∧ r.set ≠ 0#256 := by
  obtain ⟨h1, h2⟩ := hw.shp.cls h
  refine ⟨?_, h2⟩
  rw [rOne_set _ h2, ← h, ← h1]; exact r.eta
/-- At most one Class: what is gathered of them. -/
theorem orSet_one {l : List RE} : (∀ k ∈ l, k.op ≠ 2) → ∀ s, l.foldl (fun s r => if r.op = 2 then s ||| r.set else s) s = s := by
  induction l with
  | nil => intro _ s; rfl
  | cons x l ih =>
    intro h s
    rw [List.foldl_cons, if_neg (h x (by simp))]
    exact ih (fun k hk => h k (by simp [hk])) s
theorem andSet_one {l : List RE} : (∀ k ∈ l, k.op ≠ 2) → ∀ s, l.foldl (fun s r => if r.op = 2 then s &&& r.set else s) s = s := by
  induction l with
  | nil => intro _ s; rfl
  | cons x l ih =>
    intro h s
    rw [List.foldl_cons, if_neg (h x (by simp))]
    exact ih (fun k hk => h k (by simp [hk])) s
/-- A list with one Class at most, apart. -/
theorem one_class {l : List RE} (hc : (l.filter fun k => k.op == 2).length ≤ 1) : (∀ k ∈ l, k.op ≠ 2) ∨ ∃ a x b, l = a ++ x :: b ∧ x.op = 2 ∧ (∀ k ∈ a, k.op ≠ 2) ∧ ∀ k ∈ b, k.op ≠ 2 := by
  induction l with
  | nil => left; simp
  | cons x l ih =>
    by_cases hx : x.op = 2
    · right
      refine ⟨[], x, l, rfl, hx, by simp, fun k hk e => ?_⟩
      rw [List.filter_cons, if_pos (by simp [hx])] at hc
      have : k ∈ l.filter (fun k => k.op == 2) := List.mem_filter.2 ⟨hk, by simp [e]⟩
      have := List.length_pos_of_mem this
      rw [List.length_cons] at hc
      omega
    · rw [List.filter_cons, if_neg (by simp [hx])] at hc
      rcases ih hc with h | ⟨a, y, b, rfl, h1, h2, h3⟩
      · left
        intro k hk
        rcases List.mem_cons.1 hk with rfl | hk
        · exact hx
        · exact h k hk
      · right
        refine ⟨x :: a, y, b, rfl, h1, fun k hk => ?_, h3⟩
        rcases List.mem_cons.1 hk with rfl | hk
        · exact hx
        · exact h2 k hk
theorem mem_orKeep {l : List RE} (h0 : ∀ k ∈ l, k.op ≠ 0) (r : RE) : r ∈ orKeep l ↔ r ∈ l ∧ r.op ≠ 2 := by
  unfold orKeep
  rw [List.mem_filter]
  constructor
  · rintro ⟨h1, h2⟩; simp at h2; exact ⟨h1, h2.2⟩
  · rintro ⟨h1, h2⟩; exact ⟨h1, by simp [h0 r h1, h2]⟩
theorem any_same {r : RE} (hw : Wf r) (h4 : r.op = 4) : rAny r.kids = r := by
  obtain ⟨h2, hk, hup, hc⟩ := hw.shp.or (.inl h4)
  have hset := hw.shp.set (by omega)
  have hkw := hw.kid
  have hf : flatL 4 r.kids = r.kids := flatL_same fun k hk' => by have := (hk k hk').2; rwa [h4] at this
  have h0 : ∀ k ∈ r.kids, k.op ≠ 0 := fun k hk' => (hk k hk').1
  have key : ∀ ks, (∀ x, x ∈ ks ↔ x ∈ r.kids) → (∀ x ∈ ks, WfK x) → ordL ks = r.kids := fun ks h1 h3 => (ordL_eq h3 hup fun x => (h1 x).symm).symm
  have hne : r.kids ≠ [] := fun e => by rw [e] at h2; simp at h2
  have fin : ∀ ks, (∀ x, x ∈ ks ↔ x ∈ r.kids) → (∀ x ∈ ks, WfK x) → (if ks = [] then rNothing else rJoin 4 (ordL ks)) = r := fun ks h1 h3 => by
    rw [if_neg (fun e => hne (List.eq_nil_iff_forall_not_mem.2 fun x hx => by have := (h1 x).2 hx; rw [e] at this; simp at this)), key ks h1 h3, rJoin_more _ _ (by omega)]
    rw [← hset, ← h4]; exact r.eta.symm
  unfold rAny
  simp only [hf]
  rcases one_class hc with hn | ⟨a, x, b, e, hx, ha, hb⟩
  · have hs : orSet r.kids = 0#256 := orSet_one hn _
    rw [if_pos hs, List.append_nil]
    refine fin _ (fun y => ?_) (fun y hy => (hkw y ((mem_orKeep h0 y).1 hy).1).k)
    rw [mem_orKeep h0]
    exact ⟨fun h => h.1, fun h => ⟨h, hn y h⟩⟩
  · have hxm : x ∈ r.kids := by rw [e]; simp
    obtain ⟨hx1, hx2⟩ := wf_class (hkw x hxm) hx
    have hs : orSet r.kids = x.set := by
      unfold orSet
      rw [e, List.foldl_append, orSet_one ha, List.foldl_cons, if_pos hx, orSet_one hb]; simp
    rw [hs, if_neg hx2, ← hx1]
    have hm : ∀ y, y ∈ orKeep r.kids ++ [x] ↔ y ∈ r.kids := fun y => by
      rw [List.mem_append, mem_orKeep h0]
      constructor
      · rintro (h | h)
        · exact h.1
        · simp at h; subst h; exact hxm
      · intro h
        by_cases hy : y.op = 2
        · right
          rw [e] at h
          rcases List.mem_append.1 h with h | h
          · exact absurd hy (ha y h)
          · rcases List.mem_cons.1 h with rfl | h
            · simp
            · exact absurd hy (hb y h)
        · exact .inl ⟨h, hy⟩
    exact fin _ hm (fun y hy => (hkw y ((hm y).1 hy)).k)
theorem both_same {r : RE} (hw : Wf r) (h6 : r.op = 6) : rBoth r.kids = r := by
  obtain ⟨h2, hk, hup, hc⟩ := hw.shp.or (.inr h6)
  have hset := hw.shp.set (by omega)
  have hkw := hw.kid
  have hf : flatL 6 r.kids = r.kids := flatL_same fun k hk' => by have := (hk k hk').2; rwa [h6] at this
  have h0 : ∀ k ∈ r.kids, k.op ≠ 0 := fun k hk' => (hk k hk').1
  have hany : r.kids.any (fun r => r.op == 0) = false := List.any_eq_false.2 fun k hk' => by simp [h0 k hk']
  have key : ∀ ks, (∀ x, x ∈ ks ↔ x ∈ r.kids) → (∀ x ∈ ks, WfK x) → ordL ks = r.kids := fun ks h1 h3 => (ordL_eq h3 hup fun x => (h1 x).symm).symm
  have hne : r.kids ≠ [] := fun e => by rw [e] at h2; simp at h2
  have fin : ∀ ks, (∀ x, x ∈ ks ↔ x ∈ r.kids) → (∀ x ∈ ks, WfK x) → (if ks = [] then rMany (rOne allB) else rJoin 6 (ordL ks)) = r := fun ks h1 h3 => by
    rw [if_neg (fun e => hne (List.eq_nil_iff_forall_not_mem.2 fun x hx => by have := (h1 x).2 hx; rw [e] at this; simp at this)), key ks h1 h3, rJoin_more _ _ (by omega)]
    rw [← hset, ← h6]; exact r.eta.symm
  unfold rBoth
  simp only [hf]
  rw [if_neg (by rw [hany]; simp)]
  rcases one_class hc with hn | ⟨a, x, b, e, hx, ha, hb⟩
  · have hs : andSet r.kids = allB := andSet_one hn _
    have hm : met r.kids = false := List.any_eq_false.2 fun k hk' => by simp [hn k hk']
    rw [hs, if_neg (by decide +kernel), hm]
    simp only [Bool.false_eq_true, if_false, List.append_nil]
    refine fin _ (fun y => ?_) (fun y hy => (hkw y ((mem_orKeep h0 y).1 hy).1).k)
    rw [mem_orKeep h0]
    exact ⟨fun h => h.1, fun h => ⟨h, hn y h⟩⟩
  · have hxm : x ∈ r.kids := by rw [e]; simp
    obtain ⟨hx1, hx2⟩ := wf_class (hkw x hxm) hx
    have hs : andSet r.kids = x.set := by
      unfold andSet
      rw [e, List.foldl_append, andSet_one ha, List.foldl_cons, if_pos hx, andSet_one hb]
      have : allB = BitVec.allOnes 256 := by decide +kernel
      rw [this, BitVec.allOnes_and]
    have hm' : met r.kids = true := List.any_eq_true.2 ⟨x, hxm, by simp [hx]⟩
    rw [hs, if_neg hx2, hm', if_pos rfl, ← hx1]
    have hm : ∀ y, y ∈ orKeep r.kids ++ [x] ↔ y ∈ r.kids := fun y => by
      rw [List.mem_append, mem_orKeep h0]
      constructor
      · rintro (h | h)
        · exact h.1
        · simp at h; subst h; exact hxm
      · intro h
        by_cases hy : y.op = 2
        · right
          rw [e] at h
          rcases List.mem_append.1 h with h | h
          · exact absurd hy (ha y h)
          · rcases List.mem_cons.1 h with rfl | h
            · simp
            · exact absurd hy (hb y h)
        · exact .inl ⟨h, hy⟩
    exact fin _ hm (fun y hy => (hkw y ((hm y).1 hy)).k)
theorem with_same {r : RE} (hw : Wf r) : rWith r r.kids = r := by
  have hs := hw.shp
  unfold rWith
  split
  · rename_i h3
    obtain ⟨h2, hk⟩ := hs.cat h3
    unfold rThen
    rw [if_neg (by
      rw [List.any_eq_true]
      rintro ⟨k, hk', e⟩
      exact (hk k hk').1 (by simpa using e)), catL_same (fun k hk' => (hk k hk').2), if_neg (fun e => by rw [e] at h2; simp at h2), rJoin_more _ _ (by omega)]
    rw [← hs.set (by omega), ← h3]; exact r.eta.symm
  · split
    · exact any_same hw (by assumption)
    · split
      · exact both_same hw (by assumption)
      · split
        · rename_i h5
          obtain ⟨k, hk, h1, h2, h3⟩ := hs.star h5.1
          rw [hk]
          show rMany k = r
          unfold rMany
          rw [if_neg (by omega), if_neg h3, ← hk, ← hs.set (by omega), ← h5.1]; exact r.eta.symm
        · split
          · rename_i h7
            obtain ⟨a, b, hk, h1, h2, h3, h4⟩ := hs.minus h7.1
            have ha := (hw.kid a (by rw [hk]; simp)).k
            have hb := (hw.kid b (by rw [hk]; simp)).k
            rw [hk]
            show rBut a b = r
            unfold rBut
            rw [if_neg (by omega), if_neg h4, if_neg (fun e => h3 (key_inj ha hb (lexN_zero _ _ e))), ← hk, ← hs.set (by omega), ← h7.1]; exact r.eta.symm
          · rfl
end Go.Proofs.YtjlgepahgmkamaaGreatDoor
/- A class as it is written, read again. -/
namespace Go.Proofs.YtjlgepahgmkamaaGreatDoor
set_option maxRecDepth 100000
set_option linter.unusedSimpArgs false
set_option linter.unusedVariables false
open Go.RowKit Go.Shelf St

/-- The bytes of some runs, put to a set. -/
def runU (s : BitVec 256) (l : List (Nat × Nat)) : BitVec 256 := l.foldl (fun s x => s ||| span x.1 (x.2 + 1)) s
theorem runU_append (a b : List (Nat × Nat)) (s : BitVec 256) : runU s (a ++ b) = runU (runU s a) b := by simp [runU]
theorem span_self (b : Nat) : span b (b + 1) = 1#256 <<< b := by
  have := span_1 b
  rw [BitVec.zero_or] at this
  rw [this]; simp [setOf]
/-- What runs are, of bytes that go up. -/
def RunsUp (l : List Nat) (st : List (Nat × Nat) × Option (Nat × Nat)) : Prop :=
  (∀ x ∈ st.1 ++ st.2.toList, x.1 ≤ x.2 ∧ x.2 ∈ l) ∧ runU 0#256 (st.1 ++ st.2.toList) = setOf l ∧ (st.1 ++ st.2.toList).length ≤ l.length
theorem runs_ok (l : List Nat) (hl : l.Pairwise (· < ·)) : RunsUp l (runSt l) := by
  generalize hn : l.length = n
  induction n generalizing l with
  | zero =>
    obtain rfl : l = [] := List.length_eq_zero_iff.1 hn
    exact ⟨by simp [runSt], by simp [runSt, runU, setOf], by simp [runSt]⟩
  | succ n ih =>
    rcases List.eq_nil_or_concat l with rfl | ⟨q, b, rfl⟩
    · simp at hn
    rw [List.concat_eq_append] at *
    have hq : q.Pairwise (· < ·) := (List.pairwise_append.1 hl).1
    have hqb : ∀ x ∈ q, x < b := fun x hx => (List.pairwise_append.1 hl).2.2 x hx b (by simp)
    obtain ⟨h1, h2, h3⟩ := ih q hq (by simpa using hn)
    rw [runSt_snoc]
    generalize runSt q = st at *
    obtain ⟨em, cur⟩ := st
    cases cur with
    | none =>
      simp only [runStep, Option.toList, List.append_nil] at *
      refine ⟨fun x hx => ?_, ?_, ?_⟩
      · rcases List.mem_append.1 hx with hx | hx
        · exact ⟨(h1 x hx).1, List.mem_append_left _ (h1 x hx).2⟩
        · obtain rfl := List.mem_singleton.1 hx; exact ⟨Nat.le_refl _, by simp⟩
      · show runU 0#256 (em ++ [(b, b)]) = _
        rw [runU_append, h2, setOf_snoc]
        show setOf q ||| span b (b + 1) = _
        rw [span_self]
      · simp; omega
    | some r =>
      obtain ⟨f, e⟩ := r
      have hfe := h1 (f, e) (by simp)
      simp only at hfe
      simp only [runStep]
      split
      · rename_i hb
        simp only [Option.toList] at *
        refine ⟨fun x hx => ?_, ?_, ?_⟩
        · rcases List.mem_append.1 hx with hx | hx
          · have := h1 x (List.mem_append_left _ hx)
            exact ⟨this.1, List.mem_append_left _ this.2⟩
          · obtain rfl := List.mem_singleton.1 hx; exact ⟨by simp only; omega, by simp⟩
        · show runU 0#256 (em ++ [(f, b)]) = _
          rw [runU_append] at h2 ⊢
          rw [setOf_snoc, ← h2]
          show runU 0#256 em ||| span f (b + 1) = (runU 0#256 em ||| span f (e + 1)) ||| _
          rw [span_succ f b (by omega), hb, BitVec.or_assoc]
        · simp at h3 ⊢; omega
      · rename_i hb
        simp only [Option.toList] at *
        refine ⟨fun x hx => ?_, ?_, ?_⟩
        · rcases List.mem_append.1 hx with hx | hx
          · have := h1 x hx
            exact ⟨this.1, List.mem_append_left _ this.2⟩
          · obtain rfl := List.mem_singleton.1 hx; exact ⟨Nat.le_refl _, by simp⟩
        · show runU 0#256 (em ++ [(f, e)] ++ [(b, b)]) = _
          rw [runU_append, h2, setOf_snoc]
          show setOf q ||| span b (b + 1) = _
          rw [span_self]
        · simp at h3 ⊢; omega
theorem setOf_bytes (s : BitVec 256) : setOf (bytesOf s) = s := by
  apply BitVec.eq_of_getLsbD_eq
  intro i hi
  rw [setOf_has _ _ hi, bytesOf_filter]
  simp [hi]
theorem runsOf_ok (s : BitVec 256) : (∀ x ∈ runsOf s, x.1 ≤ x.2 ∧ x.2 < 256) ∧ runU 0#256 (runsOf s) = s ∧ (runsOf s).length ≤ (bytesOf s).length := by
  obtain ⟨h1, h2, h3⟩ := runs_ok (bytesOf s) (bytesOf_up s)
  exact ⟨fun x hx => ⟨(h1 x hx).1, bytesOf_lt s _ (h1 x hx).2⟩, h2.trans (setOf_bytes s), h3⟩
theorem dsB (n : Nat) : ∀ x, ds 2 n x = ((List.range n).filter fun j => x.testBit j).length := by
  induction n with
  | zero => intro x; simp [ds]
  | succ n ih =>
    intro x
    rw [ds, ih, List.range_succ_eq_map, List.filter_cons, List.filter_map]
    have e0 : x.testBit 0 = decide (x % 2 = 1) := Nat.testBit_zero x
    have e1 : ((fun j => x.testBit j) ∘ Nat.succ) = fun j => (x / 2).testBit j := by funext j; simp [Function.comp, Nat.testBit_succ]
    rw [e0, e1]
    rcases Nat.mod_two_eq_zero_or_one x with h | h <;> simp [h] <;> omega
theorem card_bytes (s : BitVec 256) : card s = (bytesOf s).length := by
  have h : ∀ i, (wb s i).length = ds 2 64 (wd s i) := fun i => by rw [dsB]; simp [wb, bitsL]
  simp only [bytesOf, upto, List.length_append, List.length_nil, h, card]
  omega
theorem card_1 {s : BitVec 256} (h : card s = 1) : ∃ a, a < 256 ∧ s = setOf [a] ∧ runsOf s = [(a, a)] := by
  rw [card_bytes] at h
  obtain ⟨a, ha⟩ := List.length_eq_one_iff.1 h
  refine ⟨a, bytesOf_lt s a (by rw [ha]; simp), by rw [← ha, setOf_bytes], ?_⟩
  unfold runsOf
  rw [ha]; rfl
theorem card_256 {s : BitVec 256} (h : card s = 256) : s = allB := by
  rw [card_bytes, bytesOf_filter] at h
  apply BitVec.eq_of_getLsbD_eq
  intro i hi
  have : (List.range 256).filter (fun b => s.getLsbD b) = List.range 256 := List.Sublist.eq_of_length List.filter_sublist (by rw [h]; simp)
  have hm : i ∈ (List.range 256).filter (fun b => s.getLsbD b) := by rw [this]; simpa using hi
  have := (List.mem_filter.1 hm).2
  rw [this]
  unfold allB
  rw [BitVec.getLsbD_not]; simp [hi]

/-- How what stands behind runs begins. -/
theorem runsW_next (l : List (Nat × Nat)) (hl : ∀ x ∈ l, x.1 ≤ x.2 ∧ x.2 < 256) (r : List Nat) : ∃ b t, runsW l ++ 93 :: r = b :: t ∧ b ≠ 45 := by
  cases l with
  | nil => exact ⟨93, r, rfl, by decide⟩
  | cons x l =>
    have hx := hl x (by simp)
    obtain ⟨b, t, h, -, hb⟩ := byteW_no (a := x.1) (k := 45) (by omega) (by decide) (by decide)
    exact ⟨b, _, by simp [runsW, runW, h]; rfl, hb⟩
theorem class_runs {n d c : Nat} (l : List (Nat × Nat)) (hl : ∀ x ∈ l, x.1 ≤ x.2 ∧ x.2 < 256) (f : Nat) (s : BitVec 256) (r : List Nat) : classL n (f + l.length + 1) s ⟨runsW l ++ 93 :: r, d, c, 0, 0⟩ = some (runU s l, ⟨r, d, c, 0, 0⟩) := by
  induction l generalizing s with
  | nil => exact class_end
  | cons x l ih =>
    obtain ⟨a, b⟩ := x
    have hx := hl (a, b) (by simp)
    simp only at hx
    have ih := ih (fun y hy => hl y (by simp [hy])) (s ||| span a (b + 1))
    by_cases h : a < b
    · have e : runsW ((a, b) :: l) ++ 93 :: r = byteW a ++ 45 :: (byteW b ++ (runsW l ++ 93 :: r)) := by simp [runsW, runW, h]
      rw [e, List.length_cons, ← Nat.add_assoc, class_range (by omega) (by omega) (by omega)]
      exact ih
    · obtain rfl : a = b := by omega
      obtain ⟨b, t, hb, h45⟩ := runsW_next l (fun y hy => hl y (by simp [hy])) r
      have e : runsW ((a, a) :: l) ++ 93 :: r = byteW a ++ b :: t := by rw [← hb]; simp [runsW, runW]
      rw [e, List.length_cons, ← Nat.add_assoc, class_byte (by omega) h45, ← hb]
      exact ih
/-- How runs begin. -/
theorem runsW_head (l : List (Nat × Nat)) (hl : ∀ x ∈ l, x.1 ≤ x.2 ∧ x.2 < 256) (r : List Nat) : ∃ b t, runsW l ++ 93 :: r = b :: t ∧ b ≠ 94 := by
  cases l with
  | nil => exact ⟨93, r, rfl, by decide⟩
  | cons x l =>
    have hx := hl x (by simp)
    obtain ⟨b, t, h, -, -, hb⟩ := byteW_head x.1 (by omega)
    exact ⟨b, _, by simp [runsW, runW, h]; rfl, hb⟩
theorem clas_runs {n d c : Nat} (s : BitVec 256) (r : List Nat) : RunC n ⟨runsW (runsOf s) ++ 93 :: r, d, c, 0, 0⟩ (s, ⟨r, d, c, 0, 0⟩) := by
  obtain ⟨h1, h2, -⟩ := runsOf_ok s
  have hc := class_runs (n := n) (d := d) (c := c) (runsOf s) h1 0 0#256 r
  rw [h2] at hc
  refine ⟨0 + (runsOf s).length + 1, ?_⟩
  unfold clas
  obtain ⟨b, t, hb, h94⟩ := runsW_head (runsOf s) h1 r
  rw [if_neg (by rw [hb]; simp [St.isAt, h94])]
  exact hc
theorem clas_nots {n d c : Nat} (s : BitVec 256) (r : List Nat) : RunC n ⟨94 :: (runsW (runsOf s) ++ 93 :: r), d, c, 0, 0⟩ (~~~s, ⟨r, d, c, 0, 0⟩) := by
  obtain ⟨h1, h2, -⟩ := runsOf_ok s
  have hc := class_runs (n := n) (d := d) (c := c) (runsOf s) h1 0 0#256 r
  rw [h2] at hc
  refine ⟨0 + (runsOf s).length + 1, ?_⟩
  unfold clas
  rw [if_pos (by simp [St.isAt])]
  have e : St.here 94 ⟨94 :: (runsW (runsOf s) ++ 93 :: r), d, c, 0, 0⟩ = ⟨runsW (runsOf s) ++ 93 :: r, d, c, 0, 0⟩ := by simp [St.here, St.isAt, St.to]
  rw [e, hc]; rfl
/-- A class is read as it was written. -/
theorem class_rd {n d c : Nat} (s : BitVec 256) (r : List Nat) (hc : c < 1000) : Run n .atom ⟨classW s ++ r, d, c, 0, 0⟩ (rOne s, ⟨r, d, c + 1, 0, 0⟩) := by
  have brack : ∀ (t : List Nat) (s' : BitVec 256), RunC n ⟨t, d, c, 0, 0⟩ (s', ⟨r, d, c, 0, 0⟩) → Run n .atom ⟨91 :: t, d, c, 0, 0⟩ (rOne s', ⟨r, d, c + 1, 0, 0⟩) := fun t s' h => by
    obtain ⟨f, h⟩ := h
    exact ⟨f + 1, P_set h hc⟩
  unfold classW
  split
  · rename_i h
    obtain ⟨a, ha, hs, hr⟩ := card_1 h
    rw [hr]
    have e : runsW [(a, a)] = byteW a := by simp [runsW, runW]
    rw [e, hs]
    exact ⟨1, P_byte ha hc⟩
  split
  · rename_i h
    rw [card_256 h]
    refine ⟨1, ?_⟩
    show P n 1 .atom ⟨46 :: r, d, c, 0, 0⟩ = _
    rw [P, sign_no (b := 46) (k := 40) (by decide) (by decide), signB_no (b := 46) (k := 40) (by decide) (by decide), sign_no (b := 46) (k := 91) (by decide) (by decide), signB_no (b := 46) (k := 91) (by decide) (by decide), signB_yes (k := 46) (by decide), sign_yes (k := 46) (by decide), counted_ok hc]
    rfl
  split
  · have h := brack (94 :: (runsW (runsOf (~~~s)) ++ 93 :: r)) s (by have := clas_nots (n := n) (d := d) (c := c) (~~~s) r; rwa [BitVec.not_not] at this)
    simpa using h
  · have h := brack (runsW (runsOf s) ++ 93 :: r) s (clas_runs s r)
    simpa using h
end Go.Proofs.YtjlgepahgmkamaaGreatDoor
/- An expression as it is written, read again. -/
namespace Go.Proofs.YtjlgepahgmkamaaGreatDoor
set_option maxRecDepth 100000
set_option linter.unusedSimpArgs false
set_option linter.unusedVariables false
open Go.RowKit Go.Shelf St

def modeL : Nat → Md
  | 0 => .or | 1 => .minus | 2 => .and | 3 => .cat | 4 => .post | _ => .atom
def stopB (k b : Nat) : Bool := match k with
  | 0 => b == 41
  | 1 => b == 41 || b == 124
  | 2 => b == 41 || b == 124 || b == 45
  | 3 => b == 41 || b == 124 || b == 45 || b == 38
  | 4 => b != 42 && b != 43 && b != 63
  | _ => true
/-- What may stand behind a part of a level. -/
def Stop (k : Nat) (r : List Nat) : Prop := r = [] ∨ ∃ b t, r = b :: t ∧ isWs b = false ∧ stopB k b = true
theorem stopB_up {k b : Nat} (h : stopB k b = true) : stopB (k + 1) b = true := by
  match k, h with
  | 0, h => simp [stopB] at h ⊢; omega
  | 1, h => simp [stopB] at h ⊢; omega
  | 2, h => simp [stopB] at h ⊢; omega
  | 3, h => simp [stopB] at h ⊢; omega
  | 4, h => rfl
  | k + 5, h => rfl
theorem Stop.up {k : Nat} {r : List Nat} (h : Stop k r) : Stop (k + 1) r := by
  rcases h with h | ⟨b, t, h, h1, h2⟩
  · exact .inl h
  · exact .inr ⟨b, t, h, h1, stopB_up h2⟩
theorem Stop.le {j k : Nat} {r : List Nat} (h : Stop j r) (hk : j ≤ k) : Stop k r := by
  obtain ⟨m, rfl⟩ := Nat.exists_eq_add_of_le hk
  clear hk
  induction m with
  | zero => exact h
  | succ m ih => exact ih.up
/-- Where a sign does not stand, nothing is taken. -/
theorem Stop.no {k b : Nat} {r : List Nat} {d c e w : Nat} (h : Stop k r) (hb : stopB k b = false) : St.signB b ⟨r, d, c, e, w⟩ = false ∧ St.sign b ⟨r, d, c, e, w⟩ = ⟨r, d, c, e, w⟩ := by
  rcases h with rfl | ⟨x, t, rfl, h1, h2⟩
  · exact ⟨rfl, rfl⟩
  · have hx : x ≠ b := by rintro rfl; rw [h2] at hb; cases hb
    exact ⟨signB_no h1 hx, sign_no h1 hx⟩
theorem Stop.skip {k : Nat} {r : List Nat} {d c e w : Nat} (h : Stop k r) : St.skip ⟨r, d, c, e, w⟩ = ⟨r, d, c, e, w⟩ := by
  rcases h with rfl | ⟨x, t, rfl, h1, h2⟩
  · rfl
  · exact skip_no h1

/-- A text is read as an expression, by so many parts and so deep. -/
def Rds (n k : Nat) (t : List Nat) (r : RE) (cost pd : Nat) : Prop :=
  ∀ rest d c, Stop k rest → d + pd ≤ 60 → c + cost ≤ 1000 → Run n (modeL k) ⟨t ++ rest, d, c, 0, 0⟩ (r, ⟨rest, d, c + cost, 0, 0⟩)
theorem then_w {r : RE} (h : Wf r) (h3 : r.op ≠ 3) : rThen [r] = r := by
  by_cases h0 : r.op = 0
  · rw [h.none h0]; rfl
  by_cases h1 : r.op = 1
  · rw [h.eps h1]; rfl
  · exact then_1 h0 h1 h3
theorem cls_w {r : RE} (h : Wf r) (h2 : r.op = 2) : ∃ s, s ≠ 0#256 ∧ r = rOne s := by
  have hs := h.shp
  obtain ⟨h3, h4⟩ := hs.cls h2
  refine ⟨r.set, h4, ?_⟩
  rw [one_mk h4]
  conv => lhs; rw [r.eta]
  rw [h2, h3]
theorem any_w {r : RE} (h : Wf r) (h4 : r.op ≠ 4) : rAny [r] = r := by
  by_cases h0 : r.op = 0
  · rw [h.none h0]; rfl
  by_cases h2 : r.op = 2
  · obtain ⟨s, hs, rfl⟩ := cls_w h h2
    exact any_one1 hs
  · exact any_1 h0 h4 h2
theorem both_none : rBoth [rNothing] = rNothing := by
  have ho : rNothing.op = 0 := rfl
  have hf : flatL 6 [rNothing] = [rNothing] := by simp [flatL, ho]
  unfold rBoth
  simp only [hf]
  rw [if_pos (by simp [ho])]
theorem both_w {r : RE} (h : Wf r) (h6 : r.op ≠ 6) : rBoth [r] = r := by
  by_cases h0 : r.op = 0
  · rw [h.none h0]; exact both_none
  by_cases h2 : r.op = 2
  · obtain ⟨s, hs, rfl⟩ := cls_w h h2
    exact both_one1 hs
  · exact both_1 h0 h6 h2
theorem postL_end {n d c : Nat} {r : RE} {rest : List Nat} (h : Stop 4 rest) : Run n (.postL r) ⟨rest, d, c, 0, 0⟩ (r, ⟨rest, d, c, 0, 0⟩) := by
  obtain ⟨a1, a2⟩ := h.no (b := 42) (d := d) (c := c) (e := 0) (w := 0) rfl
  obtain ⟨b1, b2⟩ := h.no (b := 43) (d := d) (c := c) (e := 0) (w := 0) rfl
  obtain ⟨c1, c2⟩ := h.no (b := 63) (d := d) (c := c) (e := 0) (w := 0) rfl
  have := Run.postLE (n := n) (st := ⟨rest, d, c, 0, 0⟩) (r := r) a1 (by rw [a2]; exact b1) (by rw [a2, b2]; exact c1)
  rw [a2, b2, c2] at this
  exact this
theorem catL_end {n d c : Nat} {l : List RE} {rest : List Nat} (h : Stop 3 rest) : Run n (.catL l) ⟨rest, d, c, 0, 0⟩ (rThen l, ⟨rest, d, c, 0, 0⟩) := by
  have hk := h.skip (d := d) (c := c) (e := 0) (w := 0)
  have := Run.catLE (n := n) (st := ⟨rest, d, c, 0, 0⟩) (l := l) (by
    rw [hk]
    rcases h with rfl | ⟨b, t, rfl, h1, h2⟩
    · exact .inl rfl
    · refine .inr ⟨b, t, rfl, ?_⟩
      simp [stopB] at h2
      simp; omega)
  rw [hk] at this
  exact this
theorem andL_end {n d c : Nat} {l : List RE} {rest : List Nat} (h : Stop 2 rest) : Run n (.andL l) ⟨rest, d, c, 0, 0⟩ (rBoth l, ⟨rest, d, c, 0, 0⟩) := by
  obtain ⟨a1, a2⟩ := h.no (b := 38) (d := d) (c := c) (e := 0) (w := 0) rfl
  have := Run.andLE (n := n) (l := l) a1
  rw [a2] at this
  exact this
theorem minusL_end {n d c : Nat} {r : RE} {rest : List Nat} (h : Stop 1 rest) : Run n (.minusL r) ⟨rest, d, c, 0, 0⟩ (r, ⟨rest, d, c, 0, 0⟩) := by
  obtain ⟨a1, a2⟩ := h.no (b := 45) (d := d) (c := c) (e := 0) (w := 0) rfl
  have := Run.minusLE (n := n) (r := r) a1
  rw [a2] at this
  exact this
theorem orL_end {n d c : Nat} {l : List RE} {rest : List Nat} (h : Stop 0 rest) : Run n (.orL l) ⟨rest, d, c, 0, 0⟩ (rAny l, ⟨rest, d, c, 0, 0⟩) := by
  obtain ⟨a1, a2⟩ := h.no (b := 124) (d := d) (c := c) (e := 0) (w := 0) rfl
  have := Run.orLE (n := n) (l := l) a1
  rw [a2] at this
  exact this
theorem Rds.down4 {n : Nat} {t : List Nat} {r : RE} {cost pd : Nat} (h : Rds n 5 t r cost pd) : Rds n 4 t r cost pd := fun rest d c hs hd hc =>
  Run.post (h rest d c hs.up hd hc) (postL_end hs)
theorem Rds.down3 {n : Nat} {t : List Nat} {r : RE} {cost pd : Nat} (h : Rds n 4 t r cost pd) (hr : rThen [r] = r) : Rds n 3 t r cost pd := fun rest d c hs hd hc =>
  Run.cat (h rest d c hs.up hd hc) (by have := catL_end (n := n) (d := d) (c := c + cost) (l := [r]) hs; rw [hr] at this; exact this)
theorem Rds.down2 {n : Nat} {t : List Nat} {r : RE} {cost pd : Nat} (h : Rds n 3 t r cost pd) (hr : rBoth [r] = r) : Rds n 2 t r cost pd := fun rest d c hs hd hc =>
  Run.and (h rest d c hs.up hd hc) (by have := andL_end (n := n) (d := d) (c := c + cost) (l := [r]) hs; rw [hr] at this; exact this)
theorem Rds.down1 {n : Nat} {t : List Nat} {r : RE} {cost pd : Nat} (h : Rds n 2 t r cost pd) : Rds n 1 t r cost pd := fun rest d c hs hd hc =>
  Run.minus (h rest d c hs.up hd hc) (minusL_end hs)
theorem Rds.down0 {n : Nat} {t : List Nat} {r : RE} {cost pd : Nat} (h : Rds n 1 t r cost pd) (hr : rAny [r] = r) : Rds n 0 t r cost pd := fun rest d c hs hd hc =>
  Run.or (h rest d c hs.up hd hc) (by have := orL_end (n := n) (d := d) (c := c + cost) (l := [r]) hs; rw [hr] at this; exact this)
/-- From a level down to the ground. -/
theorem Rds.down {n : Nat} {t : List Nat} {r : RE} {cost pd : Nat} (hw : Wf r) : ∀ {k : Nat}, k ≤ holdN r.op → k ≤ 5 → Rds n k t r cost pd → ∀ j ≤ k, Rds n j t r cost pd := by
  have h4 : r.op = 4 → holdN r.op = 0 := fun h => by rw [h]; rfl
  have h7 : r.op = 7 → holdN r.op = 1 := fun h => by rw [h]; rfl
  have h6 : r.op = 6 → holdN r.op = 2 := fun h => by rw [h]; rfl
  have h3 : r.op = 3 → holdN r.op = 3 := fun h => by rw [h]; rfl
  intro k hk h5 h
  have step : ∀ m, m < k → Rds n (m + 1) t r cost pd → Rds n m t r cost pd := by
    intro m hm hr
    match m, hm, hr with
    | 0, hm, hr => exact hr.down0 (any_w hw (fun e => by have := h4 e; omega))
    | 1, hm, hr => exact hr.down1
    | 2, hm, hr => exact hr.down2 (both_w hw (fun e => by have := h6 e; omega))
    | 3, hm, hr => exact hr.down3 (then_w hw (fun e => by have := h3 e; omega))
    | 4, hm, hr => exact hr.down4
    | m + 5, hm, hr => omega
  intro j hj
  obtain ⟨m, rfl⟩ := Nat.exists_eq_add_of_le hj
  have : ∀ i, i ≤ m → Rds n (j + m - i) t r cost pd := by
    intro i hi
    induction i with
    | zero => exact h
    | succ i ih =>
      have := ih (by omega)
      have e : j + m - i = (j + m - (i + 1)) + 1 := by omega
      rw [e] at this
      exact step _ (by omega) this
  have := this m (Nat.le_refl _)
  rwa [Nat.add_sub_cancel] at this
/-- In parentheses. -/
def grpT (k h : Nat) (t : List Nat) : List Nat := if h < k then [40] ++ t ++ [41] else t
def grpN (k h c : Nat) : Nat := if h < k then c + 1 else c
theorem deeper_ok {n d c : Nat} {t : List Nat} (h : d + 1 ≤ 60) : St.deeper n ⟨t, d, c, 0, 0⟩ = ⟨t, d + 1, c, 0, 0⟩ := by
  unfold St.deeper; rw [if_neg (by show ¬ 60 < d + 1; omega)]
/-- How a text of an expression begins. -/
def HeadOk (t : List Nat) : Prop := ∃ b u, t = b :: u ∧ isWs b = false ∧ [124, 45, 38, 41, 42, 43, 63].contains b = false
theorem HeadOk.append {t : List Nat} (h : HeadOk t) (r : List Nat) : HeadOk (t ++ r) := by
  obtain ⟨b, u, rfl, h1, h2⟩ := h
  exact ⟨b, u ++ r, rfl, h1, h2⟩
theorem HeadOk.stop {t : List Nat} (h : HeadOk t) : Stop 4 t := by
  obtain ⟨b, u, rfl, h1, h2⟩ := h
  refine .inr ⟨b, u, rfl, h1, ?_⟩
  simp at h2
  simp [stopB, h2]
theorem Rds.paren {n : Nat} {t : List Nat} {r : RE} {cost pd : Nat} (h : Rds n 0 t r cost pd) (hh : HeadOk t) : Rds n 5 ([40] ++ t ++ [41]) r (cost + 1) (pd + 1) := by
  intro rest d c hs hd hc
  have e : [40] ++ t ++ [41] ++ rest = 40 :: (t ++ 41 :: rest) := by simp
  rw [e]
  have h1 := h (41 :: rest) (d + 1) c (.inr ⟨41, rest, rfl, by decide, rfl⟩) (by omega) (by omega)
  obtain ⟨b, u, hb, hw, hn⟩ := hh.append (41 :: rest)
  have hb41 : b ≠ 41 := by rintro rfl; simp at hn
  have e1 : St.sign 40 ⟨40 :: (t ++ 41 :: rest), d, c, 0, 0⟩ = ⟨t ++ 41 :: rest, d, c, 0, 0⟩ := sign_yes (by decide)
  have g := Run.group (n := n) (st := ⟨t ++ 41 :: rest, d, c, 0, 0⟩) (a := r) (s1 := ⟨41 :: rest, d + 1, c + cost, 0, 0⟩) (by rw [deeper_ok (by omega), hb]; exact signB_no hw hb41)
    (by rw [deeper_ok (by omega), hb, sign_no hw hb41, ← hb]; exact h1)
  rw [if_pos (signB_yes (by decide)), sign_yes (by decide)] at g
  have k := Run.paren (n := n) (st := ⟨40 :: (t ++ 41 :: rest), d, c, 0, 0⟩) (signB_yes (by decide)) (by rw [e1]; exact g)
  have e2 : St.counted n (St.upper ⟨rest, d + 1, c + cost, 0, 0⟩) = ⟨rest, d, c + (cost + 1), 0, 0⟩ := by
    show St.counted n ⟨rest, d + 1 - 1, c + cost, 0, 0⟩ = _
    rw [Nat.add_sub_cancel, counted_ok (by omega), Nat.add_assoc]
  rw [e2] at k
  exact k
/-- A part that may stand in parentheses. -/
theorem Rds.grp {n : Nat} {t : List Nat} {r : RE} {cost pd : Nat} (hw : Wf r) (h : ∀ j ≤ holdN r.op, Rds n j t r cost pd) (hh : HeadOk t) (k : Nat) (hk : k ≤ 5) : Rds n k (grpT k (holdN r.op) t) r (grpN k (holdN r.op) cost) (grpN k (holdN r.op) pd) := by
  unfold grpT grpN
  by_cases hl : holdN r.op < k
  · rw [if_pos hl, if_pos hl, if_pos hl]
    have h5 := (h 0 (Nat.zero_le _)).paren hh
    -- down from an atom: an atom in parentheses is whatever it is
    have h4 := h5.down4
    match k, hk, hl with
    | 5, _, _ => exact h5
    | 4, _, _ => exact h4
    | 3, _, hl => exact h4.down3 (then_w hw (fun e => by rw [e] at hl; exact absurd hl (by decide)))
    | 2, _, hl => exact (h4.down3 (then_w hw (fun e => by rw [e] at hl; exact absurd hl (by decide)))).down2 (both_w hw (fun e => by rw [e] at hl; exact absurd hl (by decide)))
    | 1, _, hl => exact ((h4.down3 (then_w hw (fun e => by rw [e] at hl; exact absurd hl (by decide)))).down2 (both_w hw (fun e => by rw [e] at hl; exact absurd hl (by decide)))).down1
    | 0, _, hl => omega
  · rw [if_neg hl, if_neg hl, if_neg hl]
    exact h k (by omega)
end Go.Proofs.YtjlgepahgmkamaaGreatDoor
