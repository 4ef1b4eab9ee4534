/- Texts of this claim put together: RunB, RunC, RunD, RunE, RunF, RunG, OpenS. -/
import Derived.Test.YtdbdjjjmomociaaGreatDoorJoinMathSame
import Derived.Test.YtdbdjjjmomociaaGreatDoorJoinTrG
import Derived.Test.YtdbdjjjmomociaaGreatDoorJoinTwC
import Derived.Test.YtdbdjjjmomociaaGreatDoorJoinShB
/- A class as it is written, read again. -/
namespace Go.Proofs.YtdbdjjjmomociaaGreatDoor
set_option maxRecDepth 100000
set_option linter.unusedSimpArgs false
set_option linter.unusedVariables false
open Go.RowKit Go.Shelf St

/-- The bytes of some runs, put to a set. -/
def runU (s : BitVec 256) (l : List (Nat × Nat)) : BitVec 256 := l.foldl (fun s x => s ||| span x.1 (x.2 + 1)) s
theorem runU_or (l : List (Nat × Nat)) (s : BitVec 256) : runU s l = s ||| runU 0#256 l := by
  induction l generalizing s with
  | nil => simp [runU]
  | cons x l ih =>
    show runU (s ||| span x.1 (x.2 + 1)) l = s ||| runU (0#256 ||| span x.1 (x.2 + 1)) l
    rw [ih, ih (0#256 ||| _)]
    simp [BitVec.or_assoc]
theorem runU_append (a b : List (Nat × Nat)) (s : BitVec 256) : runU s (a ++ b) = runU (runU s a) b := by simp [runU]
theorem span_self (b : Nat) : span b (b + 1) = 1#256 <<< b := by
  have := span_1 b
  rw [BitVec.zero_or] at this
  rw [this]; simp [setOf]
/-- What runs are, of bytes that go up. -/
def RunsUp (l : List Nat) (st : List (Nat × Nat) × Option (Nat × Nat)) : Prop :=
  (∀ x ∈ st.1 ++ st.2.toList, x.1 ≤ x.2 ∧ x.2 ∈ l) ∧ runU 0#256 (st.1 ++ st.2.toList) = setOf l ∧ (st.1 ++ st.2.toList).length ≤ l.length
theorem runs_ok (l : List Nat) (hl : l.Pairwise (· < ·)) : RunsUp l (runSt l) := by
  generalize hn : l.length = n
  induction n generalizing l with
  | zero =>
    obtain rfl : l = [] := List.length_eq_zero_iff.1 hn
    exact ⟨by simp [runSt], by simp [runSt, runU, setOf], by simp [runSt]⟩
  | succ n ih =>
    rcases List.eq_nil_or_concat l with rfl | ⟨q, b, rfl⟩
    · simp at hn
    rw [List.concat_eq_append] at *
    have hq : q.Pairwise (· < ·) := (List.pairwise_append.1 hl).1
    have hqb : ∀ x ∈ q, x < b := fun x hx => (List.pairwise_append.1 hl).2.2 x hx b (by simp)
    obtain ⟨h1, h2, h3⟩ := ih q hq (by simpa using hn)
    rw [runSt_snoc]
    generalize runSt q = st at *
    obtain ⟨em, cur⟩ := st
    cases cur with
    | none =>
      simp only [runStep, Option.toList, List.append_nil] at *
      refine ⟨fun x hx => ?_, ?_, ?_⟩
      · rcases List.mem_append.1 hx with hx | hx
        · exact ⟨(h1 x hx).1, List.mem_append_left _ (h1 x hx).2⟩
        · obtain rfl := List.mem_singleton.1 hx; exact ⟨Nat.le_refl _, by simp⟩
      · show runU 0#256 (em ++ [(b, b)]) = _
        rw [runU_append, h2, setOf_snoc]
        show setOf q ||| span b (b + 1) = _
        rw [span_self]
      · simp; omega
    | some r =>
      obtain ⟨f, e⟩ := r
      have hfe := h1 (f, e) (by simp)
      simp only at hfe
      simp only [runStep]
      split
      · rename_i hb
        simp only [Option.toList] at *
        refine ⟨fun x hx => ?_, ?_, ?_⟩
        · rcases List.mem_append.1 hx with hx | hx
          · have := h1 x (List.mem_append_left _ hx)
            exact ⟨this.1, List.mem_append_left _ this.2⟩
          · obtain rfl := List.mem_singleton.1 hx; exact ⟨by simp only; omega, by simp⟩
        · show runU 0#256 (em ++ [(f, b)]) = _
          rw [runU_append] at h2 ⊢
          rw [setOf_snoc, ← h2]
          show runU 0#256 em ||| span f (b + 1) = (runU 0#256 em ||| span f (e + 1)) ||| _
          rw [span_succ f b (by omega), hb, BitVec.or_assoc]
        · simp at h3 ⊢; omega
      · rename_i hb
        simp only [Option.toList] at *
        refine ⟨fun x hx => ?_, ?_, ?_⟩
        · rcases List.mem_append.1 hx with hx | hx
          · have := h1 x hx
            exact ⟨this.1, List.mem_append_left _ this.2⟩
          · obtain rfl := List.mem_singleton.1 hx; exact ⟨Nat.le_refl _, by simp⟩
        · show runU 0#256 (em ++ [(f, e)] ++ [(b, b)]) = _
          rw [runU_append, h2, setOf_snoc]
          show setOf q ||| span b (b + 1) = _
          rw [span_self]
        · simp at h3 ⊢; omega
theorem setOf_bytes (s : BitVec 256) : setOf (bytesOf s) = s := by
  apply BitVec.eq_of_getLsbD_eq
  intro i hi
  rw [setOf_has _ _ hi, bytesOf_filter]
  simp [hi]
theorem runsOf_ok (s : BitVec 256) : (∀ x ∈ runsOf s, x.1 ≤ x.2 ∧ x.2 < 256) ∧ runU 0#256 (runsOf s) = s ∧ (runsOf s).length ≤ (bytesOf s).length := by
  obtain ⟨h1, h2, h3⟩ := runs_ok (bytesOf s) (bytesOf_up s)
  exact ⟨fun x hx => ⟨(h1 x hx).1, bytesOf_lt s _ (h1 x hx).2⟩, h2.trans (setOf_bytes s), h3⟩
theorem dsB (n : Nat) : ∀ x, ds 2 n x = ((List.range n).filter fun j => x.testBit j).length := by
  induction n with
  | zero => intro x; simp [ds]
  | succ n ih =>
    intro x
    rw [ds, ih, List.range_succ_eq_map, List.filter_cons, List.filter_map]
    have e0 : x.testBit 0 = decide (x % 2 = 1) := Nat.testBit_zero x
    have e1 : ((fun j => x.testBit j) ∘ Nat.succ) = fun j => (x / 2).testBit j := by funext j; simp [Function.comp, Nat.testBit_succ]
    rw [e0, e1]
    rcases Nat.mod_two_eq_zero_or_one x with h | h <;> simp [h] <;> omega
theorem card_bytes (s : BitVec 256) : card s = (bytesOf s).length := by
  have h : ∀ i, (wb s i).length = ds 2 64 (wd s i) := fun i => by rw [dsB]; simp [wb, bitsL]
  simp only [bytesOf, upto, List.length_append, List.length_nil, h, card]
  omega
theorem card_1 {s : BitVec 256} (h : card s = 1) : ∃ a, a < 256 ∧ s = setOf [a] ∧ runsOf s = [(a, a)] := by
  rw [card_bytes] at h
  obtain ⟨a, ha⟩ := List.length_eq_one_iff.1 h
  refine ⟨a, bytesOf_lt s a (by rw [ha]; simp), by rw [← ha, setOf_bytes], ?_⟩
  unfold runsOf
  rw [ha]; rfl
theorem card_256 {s : BitVec 256} (h : card s = 256) : s = allB := by
  rw [card_bytes, bytesOf_filter] at h
  apply BitVec.eq_of_getLsbD_eq
  intro i hi
  have : (List.range 256).filter (fun b => s.getLsbD b) = List.range 256 := List.Sublist.eq_of_length List.filter_sublist (by rw [h]; simp)
  have hm : i ∈ (List.range 256).filter (fun b => s.getLsbD b) := by rw [this]; simpa using hi
  have := (List.mem_filter.1 hm).2
  rw [this]
  unfold allB
  rw [BitVec.getLsbD_not]; simp [hi]

/-- How what stands behind runs begins. -/
theorem runsW_next (l : List (Nat × Nat)) (hl : ∀ x ∈ l, x.1 ≤ x.2 ∧ x.2 < 256) (r : List Nat) : ∃ b t, runsW l ++ 93 :: r = b :: t ∧ b ≠ 45 := by
  cases l with
  | nil => exact ⟨93, r, rfl, by decide⟩
  | cons x l =>
    have hx := hl x (by simp)
    obtain ⟨b, t, h, -, hb⟩ := byteW_no (a := x.1) (k := 45) (by omega) (by decide) (by decide)
    exact ⟨b, _, by simp [runsW, runW, h]; rfl, hb⟩
theorem class_runs {n d c : Nat} (l : List (Nat × Nat)) (hl : ∀ x ∈ l, x.1 ≤ x.2 ∧ x.2 < 256) (f : Nat) (s : BitVec 256) (r : List Nat) : classL n (f + l.length + 1) s ⟨runsW l ++ 93 :: r, d, c, 0, 0⟩ = some (runU s l, ⟨r, d, c, 0, 0⟩) := by
  induction l generalizing s with
  | nil => exact class_end
  | cons x l ih =>
    obtain ⟨a, b⟩ := x
    have hx := hl (a, b) (by simp)
    simp only at hx
    have ih := ih (fun y hy => hl y (by simp [hy])) (s ||| span a (b + 1))
    by_cases h : a < b
    · have e : runsW ((a, b) :: l) ++ 93 :: r = byteW a ++ 45 :: (byteW b ++ (runsW l ++ 93 :: r)) := by simp [runsW, runW, h]
      rw [e, List.length_cons, ← Nat.add_assoc, class_range (by omega) (by omega) (by omega)]
      exact ih
    · obtain rfl : a = b := by omega
      obtain ⟨b, t, hb, h45⟩ := runsW_next l (fun y hy => hl y (by simp [hy])) r
      have e : runsW ((a, a) :: l) ++ 93 :: r = byteW a ++ b :: t := by rw [← hb]; simp [runsW, runW]
      rw [e, List.length_cons, ← Nat.add_assoc, class_byte (by omega) h45, ← hb]
      exact ih
/-- How runs begin. -/
theorem runsW_head (l : List (Nat × Nat)) (hl : ∀ x ∈ l, x.1 ≤ x.2 ∧ x.2 < 256) (r : List Nat) : ∃ b t, runsW l ++ 93 :: r = b :: t ∧ b ≠ 94 := by
  cases l with
  | nil => exact ⟨93, r, rfl, by decide⟩
  | cons x l =>
    have hx := hl x (by simp)
    obtain ⟨b, t, h, -, -, hb⟩ := byteW_head x.1 (by omega)
    exact ⟨b, _, by simp [runsW, runW, h]; rfl, hb⟩
theorem clas_runs {n d c : Nat} (s : BitVec 256) (r : List Nat) : RunC n ⟨runsW (runsOf s) ++ 93 :: r, d, c, 0, 0⟩ (s, ⟨r, d, c, 0, 0⟩) := by
  obtain ⟨h1, h2, -⟩ := runsOf_ok s
  have hc := class_runs (n := n) (d := d) (c := c) (runsOf s) h1 0 0#256 r
  rw [h2] at hc
  refine ⟨0 + (runsOf s).length + 1, ?_⟩
  unfold clas
  obtain ⟨b, t, hb, h94⟩ := runsW_head (runsOf s) h1 r
  rw [if_neg (by rw [hb]; simp [St.isAt, h94])]
  exact hc
theorem clas_nots {n d c : Nat} (s : BitVec 256) (r : List Nat) : RunC n ⟨94 :: (runsW (runsOf s) ++ 93 :: r), d, c, 0, 0⟩ (~~~s, ⟨r, d, c, 0, 0⟩) := by
  obtain ⟨h1, h2, -⟩ := runsOf_ok s
  have hc := class_runs (n := n) (d := d) (c := c) (runsOf s) h1 0 0#256 r
  rw [h2] at hc
  refine ⟨0 + (runsOf s).length + 1, ?_⟩
  unfold clas
  rw [if_pos (by simp [St.isAt])]
  have e : St.here 94 ⟨94 :: (runsW (runsOf s) ++ 93 :: r), d, c, 0, 0⟩ = ⟨runsW (runsOf s) ++ 93 :: r, d, c, 0, 0⟩ := by simp [St.here, St.isAt, St.to]
  rw [e, hc]; rfl
/-- A class is read as it was written. -/
theorem class_rd {n d c : Nat} (s : BitVec 256) (r : List Nat) (hc : c < 1000) : Run n .atom ⟨classW s ++ r, d, c, 0, 0⟩ (rOne s, ⟨r, d, c + 1, 0, 0⟩) := by
  have brack : ∀ (t : List Nat) (s' : BitVec 256), RunC n ⟨t, d, c, 0, 0⟩ (s', ⟨r, d, c, 0, 0⟩) → Run n .atom ⟨91 :: t, d, c, 0, 0⟩ (rOne s', ⟨r, d, c + 1, 0, 0⟩) := fun t s' h => by
    obtain ⟨f, h⟩ := h
    exact ⟨f + 1, P_set h hc⟩
  unfold classW
  split
  · rename_i h
    obtain ⟨a, ha, hs, hr⟩ := card_1 h
    rw [hr]
    have e : runsW [(a, a)] = byteW a := by simp [runsW, runW]
    rw [e, hs]
    exact ⟨1, P_byte ha hc⟩
  split
  · rename_i h
    rw [card_256 h]
    refine ⟨1, ?_⟩
    show P n 1 .atom ⟨46 :: r, d, c, 0, 0⟩ = _
    rw [P, sign_no (b := 46) (k := 40) (by decide) (by decide), signB_no (b := 46) (k := 40) (by decide) (by decide), sign_no (b := 46) (k := 91) (by decide) (by decide), signB_no (b := 46) (k := 91) (by decide) (by decide), signB_yes (k := 46) (by decide), sign_yes (k := 46) (by decide), counted_ok hc]
    rfl
  split
  · have h := brack (94 :: (runsW (runsOf (~~~s)) ++ 93 :: r)) s (by have := clas_nots (n := n) (d := d) (c := c) (~~~s) r; rwa [BitVec.not_not] at this)
    simpa using h
  · have h := brack (runsW (runsOf s) ++ 93 :: r) s (clas_runs s r)
    simpa using h
end Go.Proofs.YtdbdjjjmomociaaGreatDoor
/- An expression as it is written, read again. -/
namespace Go.Proofs.YtdbdjjjmomociaaGreatDoor
set_option maxRecDepth 100000
set_option linter.unusedSimpArgs false
set_option linter.unusedVariables false
open Go.RowKit Go.Shelf St

def modeL : Nat → Md
  | 0 => .or | 1 => .minus | 2 => .and | 3 => .cat | 4 => .post | _ => .atom
def stopB (k b : Nat) : Bool := match k with
  | 0 => b == 41
  | 1 => b == 41 || b == 124
  | 2 => b == 41 || b == 124 || b == 45
  | 3 => b == 41 || b == 124 || b == 45 || b == 38
  | 4 => b != 42 && b != 43 && b != 63
  | _ => true
/-- What may stand behind a part of a level. -/
def Stop (k : Nat) (r : List Nat) : Prop := r = [] ∨ ∃ b t, r = b :: t ∧ isWs b = false ∧ stopB k b = true
theorem stopB_up {k b : Nat} (h : stopB k b = true) : stopB (k + 1) b = true := by
  match k, h with
  | 0, h => simp [stopB] at h ⊢; omega
  | 1, h => simp [stopB] at h ⊢; omega
  | 2, h => simp [stopB] at h ⊢; omega
  | 3, h => simp [stopB] at h ⊢; omega
  | 4, h => rfl
  | k + 5, h => rfl
theorem Stop.up {k : Nat} {r : List Nat} (h : Stop k r) : Stop (k + 1) r := by
  rcases h with h | ⟨b, t, h, h1, h2⟩
  · exact .inl h
  · exact .inr ⟨b, t, h, h1, stopB_up h2⟩
theorem Stop.le {j k : Nat} {r : List Nat} (h : Stop j r) (hk : j ≤ k) : Stop k r := by
  obtain ⟨m, rfl⟩ := Nat.exists_eq_add_of_le hk
  clear hk
  induction m with
  | zero => exact h
  | succ m ih => exact ih.up
/-- Where a sign does not stand, nothing is taken. -/
theorem Stop.no {k b : Nat} {r : List Nat} {d c e w : Nat} (h : Stop k r) (hb : stopB k b = false) : St.signB b ⟨r, d, c, e, w⟩ = false ∧ St.sign b ⟨r, d, c, e, w⟩ = ⟨r, d, c, e, w⟩ := by
  rcases h with rfl | ⟨x, t, rfl, h1, h2⟩
  · exact ⟨rfl, rfl⟩
  · have hx : x ≠ b := by rintro rfl; rw [h2] at hb; cases hb
    exact ⟨signB_no h1 hx, sign_no h1 hx⟩
theorem Stop.skip {k : Nat} {r : List Nat} {d c e w : Nat} (h : Stop k r) : St.skip ⟨r, d, c, e, w⟩ = ⟨r, d, c, e, w⟩ := by
  rcases h with rfl | ⟨x, t, rfl, h1, h2⟩
  · rfl
  · exact skip_no h1

/-- A text is read as an expression, by so many parts and so deep. -/
def Rds (n k : Nat) (t : List Nat) (r : RE) (cost pd : Nat) : Prop :=
  ∀ rest d c, Stop k rest → d + pd ≤ 60 → c + cost ≤ 1000 → Run n (modeL k) ⟨t ++ rest, d, c, 0, 0⟩ (r, ⟨rest, d, c + cost, 0, 0⟩)
theorem then_w {r : RE} (h : Wf r) (h3 : r.op ≠ 3) : rThen [r] = r := by
  by_cases h0 : r.op = 0
  · rw [h.none h0]; rfl
  by_cases h1 : r.op = 1
  · rw [h.eps h1]; rfl
  · exact then_1 h0 h1 h3
theorem cls_w {r : RE} (h : Wf r) (h2 : r.op = 2) : ∃ s, s ≠ 0#256 ∧ r = rOne s := by
  have hs := h.shp
  obtain ⟨h3, h4⟩ := hs.cls h2
  refine ⟨r.set, h4, ?_⟩
  rw [one_mk h4]
  conv => lhs; rw [r.eta]
  rw [h2, h3]
theorem any_w {r : RE} (h : Wf r) (h4 : r.op ≠ 4) : rAny [r] = r := by
  by_cases h0 : r.op = 0
  · rw [h.none h0]; rfl
  by_cases h2 : r.op = 2
  · obtain ⟨s, hs, rfl⟩ := cls_w h h2
    exact any_one1 hs
  · exact any_1 h0 h4 h2
theorem both_none : rBoth [rNothing] = rNothing := by
  have ho : rNothing.op = 0 := rfl
  have hf : flatL 6 [rNothing] = [rNothing] := by simp [flatL, ho]
  unfold rBoth
  simp only [hf]
  rw [if_pos (by simp [ho])]
theorem both_w {r : RE} (h : Wf r) (h6 : r.op ≠ 6) : rBoth [r] = r := by
  by_cases h0 : r.op = 0
  · rw [h.none h0]; exact both_none
  by_cases h2 : r.op = 2
  · obtain ⟨s, hs, rfl⟩ := cls_w h h2
    exact both_one1 hs
  · exact both_1 h0 h6 h2
theorem postL_end {n d c : Nat} {r : RE} {rest : List Nat} (h : Stop 4 rest) : Run n (.postL r) ⟨rest, d, c, 0, 0⟩ (r, ⟨rest, d, c, 0, 0⟩) := by
  obtain ⟨a1, a2⟩ := h.no (b := 42) (d := d) (c := c) (e := 0) (w := 0) rfl
  obtain ⟨b1, b2⟩ := h.no (b := 43) (d := d) (c := c) (e := 0) (w := 0) rfl
  obtain ⟨c1, c2⟩ := h.no (b := 63) (d := d) (c := c) (e := 0) (w := 0) rfl
  have := Run.postLE (n := n) (st := ⟨rest, d, c, 0, 0⟩) (r := r) a1 (by rw [a2]; exact b1) (by rw [a2, b2]; exact c1)
  rw [a2, b2, c2] at this
  exact this
theorem catL_end {n d c : Nat} {l : List RE} {rest : List Nat} (h : Stop 3 rest) : Run n (.catL l) ⟨rest, d, c, 0, 0⟩ (rThen l, ⟨rest, d, c, 0, 0⟩) := by
  have hk := h.skip (d := d) (c := c) (e := 0) (w := 0)
  have := Run.catLE (n := n) (st := ⟨rest, d, c, 0, 0⟩) (l := l) (by
    rw [hk]
    rcases h with rfl | ⟨b, t, rfl, h1, h2⟩
    · exact .inl rfl
    · refine .inr ⟨b, t, rfl, ?_⟩
      simp [stopB] at h2
      simp; omega)
  rw [hk] at this
  exact this
theorem andL_end {n d c : Nat} {l : List RE} {rest : List Nat} (h : Stop 2 rest) : Run n (.andL l) ⟨rest, d, c, 0, 0⟩ (rBoth l, ⟨rest, d, c, 0, 0⟩) := by
  obtain ⟨a1, a2⟩ := h.no (b := 38) (d := d) (c := c) (e := 0) (w := 0) rfl
  have := Run.andLE (n := n) (l := l) a1
  rw [a2] at this
  exact this
theorem minusL_end {n d c : Nat} {r : RE} {rest : List Nat} (h : Stop 1 rest) : Run n (.minusL r) ⟨rest, d, c, 0, 0⟩ (r, ⟨rest, d, c, 0, 0⟩) := by
  obtain ⟨a1, a2⟩ := h.no (b := 45) (d := d) (c := c) (e := 0) (w := 0) rfl
  have := Run.minusLE (n := n) (r := r) a1
  rw [a2] at this
  exact this
theorem orL_end {n d c : Nat} {l : List RE} {rest : List Nat} (h : Stop 0 rest) : Run n (.orL l) ⟨rest, d, c, 0, 0⟩ (rAny l, ⟨rest, d, c, 0, 0⟩) := by
  obtain ⟨a1, a2⟩ := h.no (b := 124) (d := d) (c := c) (e := 0) (w := 0) rfl
  have := Run.orLE (n := n) (l := l) a1
  rw [a2] at this
  exact this
theorem Rds.down4 {n : Nat} {t : List Nat} {r : RE} {cost pd : Nat} (h : Rds n 5 t r cost pd) : Rds n 4 t r cost pd := fun rest d c hs hd hc =>
  Run.post (h rest d c hs.up hd hc) (postL_end hs)
theorem Rds.down3 {n : Nat} {t : List Nat} {r : RE} {cost pd : Nat} (h : Rds n 4 t r cost pd) (hr : rThen [r] = r) : Rds n 3 t r cost pd := fun rest d c hs hd hc =>
  Run.cat (h rest d c hs.up hd hc) (by have := catL_end (n := n) (d := d) (c := c + cost) (l := [r]) hs; rw [hr] at this; exact this)
theorem Rds.down2 {n : Nat} {t : List Nat} {r : RE} {cost pd : Nat} (h : Rds n 3 t r cost pd) (hr : rBoth [r] = r) : Rds n 2 t r cost pd := fun rest d c hs hd hc =>
  Run.and (h rest d c hs.up hd hc) (by have := andL_end (n := n) (d := d) (c := c + cost) (l := [r]) hs; rw [hr] at this; exact this)
theorem Rds.down1 {n : Nat} {t : List Nat} {r : RE} {cost pd : Nat} (h : Rds n 2 t r cost pd) : Rds n 1 t r cost pd := fun rest d c hs hd hc =>
  Run.minus (h rest d c hs.up hd hc) (minusL_end hs)
theorem Rds.down0 {n : Nat} {t : List Nat} {r : RE} {cost pd : Nat} (h : Rds n 1 t r cost pd) (hr : rAny [r] = r) : Rds n 0 t r cost pd := fun rest d c hs hd hc =>
  Run.or (h rest d c hs.up hd hc) (by have := orL_end (n := n) (d := d) (c := c + cost) (l := [r]) hs; rw [hr] at this; exact this)
/-- From a level down to the ground. -/
theorem Rds.down {n : Nat} {t : List Nat} {r : RE} {cost pd : Nat} (hw : Wf r) : ∀ {k : Nat}, k ≤ holdN r.op → k ≤ 5 → Rds n k t r cost pd → ∀ j ≤ k, Rds n j t r cost pd := by
  have h4 : r.op = 4 → holdN r.op = 0 := fun h => by rw [h]; rfl
  have h7 : r.op = 7 → holdN r.op = 1 := fun h => by rw [h]; rfl
  have h6 : r.op = 6 → holdN r.op = 2 := fun h => by rw [h]; rfl
  have h3 : r.op = 3 → holdN r.op = 3 := fun h => by rw [h]; rfl
  intro k hk h5 h
  have step : ∀ m, m < k → Rds n (m + 1) t r cost pd → Rds n m t r cost pd := by
    intro m hm hr
    match m, hm, hr with
    | 0, hm, hr => exact hr.down0 (any_w hw (fun e => by have := h4 e; omega))
    | 1, hm, hr => exact hr.down1
    | 2, hm, hr => exact hr.down2 (both_w hw (fun e => by have := h6 e; omega))
    | 3, hm, hr => exact hr.down3 (then_w hw (fun e => by have := h3 e; omega))
    | 4, hm, hr => exact hr.down4
    | m + 5, hm, hr => omega
  intro j hj
  obtain ⟨m, rfl⟩ := Nat.exists_eq_add_of_le hj
  have : ∀ i, i ≤ m → Rds n (j + m - i) t r cost pd := by
    intro i hi
    induction i with
    | zero => exact h
    | succ i ih =>
      have := ih (by omega)
      have e : j + m - i = (j + m - (i + 1)) + 1 := by omega
      rw [e] at this
      exact step _ (by omega) this
  have := this m (Nat.le_refl _)
  rwa [Nat.add_sub_cancel] at this
/-- In parentheses. -/
def grpT (k h : Nat) (t : List Nat) : List Nat := if h < k then [40] ++ t ++ [41] else t
def grpN (k h c : Nat) : Nat := if h < k then c + 1 else c
theorem deeper_ok {n d c : Nat} {t : List Nat} (h : d + 1 ≤ 60) : St.deeper n ⟨t, d, c, 0, 0⟩ = ⟨t, d + 1, c, 0, 0⟩ := by
  unfold St.deeper; rw [if_neg (by show ¬ 60 < d + 1; omega)]
/-- How a text of an expression begins. -/
def HeadOk (t : List Nat) : Prop := ∃ b u, t = b :: u ∧ isWs b = false ∧ [124, 45, 38, 41, 42, 43, 63].contains b = false
theorem HeadOk.append {t : List Nat} (h : HeadOk t) (r : List Nat) : HeadOk (t ++ r) := by
  obtain ⟨b, u, rfl, h1, h2⟩ := h
  exact ⟨b, u ++ r, rfl, h1, h2⟩
theorem HeadOk.stop {t : List Nat} (h : HeadOk t) : Stop 4 t := by
  obtain ⟨b, u, rfl, h1, h2⟩ := h
  refine .inr ⟨b, u, rfl, h1, ?_⟩
  simp at h2
  simp [stopB, h2]
theorem Rds.paren {n : Nat} {t : List Nat} {r : RE} {cost pd : Nat} (h : Rds n 0 t r cost pd) (hh : HeadOk t) : Rds n 5 ([40] ++ t ++ [41]) r (cost + 1) (pd + 1) := by
  intro rest d c hs hd hc
  have e : [40] ++ t ++ [41] ++ rest = 40 :: (t ++ 41 :: rest) := by simp
  rw [e]
  have h1 := h (41 :: rest) (d + 1) c (.inr ⟨41, rest, rfl, by decide, rfl⟩) (by omega) (by omega)
  obtain ⟨b, u, hb, hw, hn⟩ := hh.append (41 :: rest)
  have hb41 : b ≠ 41 := by rintro rfl; simp at hn
  have e1 : St.sign 40 ⟨40 :: (t ++ 41 :: rest), d, c, 0, 0⟩ = ⟨t ++ 41 :: rest, d, c, 0, 0⟩ := sign_yes (by decide)
  have g := Run.group (n := n) (st := ⟨t ++ 41 :: rest, d, c, 0, 0⟩) (a := r) (s1 := ⟨41 :: rest, d + 1, c + cost, 0, 0⟩) (by rw [deeper_ok (by omega), hb]; exact signB_no hw hb41)
    (by rw [deeper_ok (by omega), hb, sign_no hw hb41, ← hb]; exact h1)
  rw [if_pos (signB_yes (by decide)), sign_yes (by decide)] at g
  have k := Run.paren (n := n) (st := ⟨40 :: (t ++ 41 :: rest), d, c, 0, 0⟩) (signB_yes (by decide)) (by rw [e1]; exact g)
  have e2 : St.counted n (St.upper ⟨rest, d + 1, c + cost, 0, 0⟩) = ⟨rest, d, c + (cost + 1), 0, 0⟩ := by
    show St.counted n ⟨rest, d + 1 - 1, c + cost, 0, 0⟩ = _
    rw [Nat.add_sub_cancel, counted_ok (by omega), Nat.add_assoc]
  rw [e2] at k
  exact k
/-- A part that may stand in parentheses. -/
theorem Rds.grp {n : Nat} {t : List Nat} {r : RE} {cost pd : Nat} (hw : Wf r) (h : ∀ j ≤ holdN r.op, Rds n j t r cost pd) (hh : HeadOk t) (k : Nat) (hk : k ≤ 5) : Rds n k (grpT k (holdN r.op) t) r (grpN k (holdN r.op) cost) (grpN k (holdN r.op) pd) := by
  unfold grpT grpN
  by_cases hl : holdN r.op < k
  · rw [if_pos hl, if_pos hl, if_pos hl]
    have h5 := (h 0 (Nat.zero_le _)).paren hh
    -- down from an atom: an atom in parentheses is whatever it is
    have h4 := h5.down4
    match k, hk, hl with
    | 5, _, _ => exact h5
    | 4, _, _ => exact h4
    | 3, _, hl => exact h4.down3 (then_w hw (fun e => by rw [e] at hl; exact absurd hl (by decide)))
    | 2, _, hl => exact (h4.down3 (then_w hw (fun e => by rw [e] at hl; exact absurd hl (by decide)))).down2 (both_w hw (fun e => by rw [e] at hl; exact absurd hl (by decide)))
    | 1, _, hl => exact ((h4.down3 (then_w hw (fun e => by rw [e] at hl; exact absurd hl (by decide)))).down2 (both_w hw (fun e => by rw [e] at hl; exact absurd hl (by decide)))).down1
    | 0, _, hl => omega
  · rw [if_neg hl, if_neg hl, if_neg hl]
    exact h k (by omega)
end Go.Proofs.YtdbdjjjmomociaaGreatDoor
/- An expression as it is written, read again: all levels. -/
namespace Go.Proofs.YtdbdjjjmomociaaGreatDoor
set_option maxRecDepth 100000
set_option linter.unusedSimpArgs false
set_option linter.unusedVariables false
open Go.RowKit Go.Shelf St

def kidsC (o : Nat) : Nat → List (Nat × Nat) → Nat
  | _, [] => 0
  | i, x :: r => grpN (needN o i) (holdN x.1) x.2 + kidsC o (i + 1) r
def kidsP (o : Nat) : Nat → List (Nat × Nat) → Nat
  | _, [] => 0
  | i, x :: r => max (grpN (needN o i) (holdN x.1) x.2) (kidsP o (i + 1) r)
def opC (o : Nat) (l : List (Nat × Nat)) : Nat := if o = 3 ∨ o = 4 ∨ o = 6 ∨ o = 7 then kidsC o 0 l else if o = 5 then kidsC o 0 l + 1 else 1
def opP (o : Nat) (l : List (Nat × Nat)) : Nat := if o = 1 then 1 else kidsP o 0 l
/-- How many parts are counted as an expression's text is read. -/
def RE.cost : RE → Nat
  | .mk o s ks => opC o (ks.map fun k => (k.op, k.cost))
/-- Within how many parentheses its parts are. -/
def RE.pd : RE → Nat
  | .mk o s ks => opP o (ks.map fun k => (k.op, k.pd))
def kidCL (ks : List RE) : List (Nat × Nat) := ks.map fun k => (k.op, k.cost)
def kidPL (ks : List RE) : List (Nat × Nat) := ks.map fun k => (k.op, k.pd)
theorem RE.cost_mk (o : Nat) (s : BitVec 256) (ks : List RE) : (RE.mk o s ks).cost = opC o (kidCL ks) := by rw [RE.cost]; rfl
theorem RE.pd_mk (o : Nat) (s : BitVec 256) (ks : List RE) : (RE.mk o s ks).pd = opP o (kidPL ks) := by rw [RE.pd]; rfl
theorem kidT_grp (o i k : Nat) (t : List Nat) : kidT o i k t = (if 0 < i then sepB o else []) ++ grpT (needN o i) (holdN k) t := rfl
theorem kidsT_cons (o i : Nat) (k : RE) (ks : List RE) : kidsT o i (kidL (k :: ks)) = (if 0 < i then sepB o else []) ++ (grpT (needN o i) (holdN k.op) k.txt ++ kidsT o (i + 1) (kidL ks)) := by
  show kidT o i k.op k.txt ++ _ = _
  rw [kidT_grp, List.append_assoc]; rfl
theorem kidsC_cons (o i : Nat) (k : RE) (ks : List RE) : kidsC o i (kidCL (k :: ks)) = grpN (needN o i) (holdN k.op) k.cost + kidsC o (i + 1) (kidCL ks) := rfl
theorem kidsP_cons (o i : Nat) (k : RE) (ks : List RE) : kidsP o i (kidPL (k :: ks)) = max (grpN (needN o i) (holdN k.op) k.pd) (kidsP o (i + 1) (kidPL ks)) := rfl
theorem need_4 (i : Nat) : needN 4 i = 1 := by unfold needN; rw [if_neg (by omega)]; rfl
theorem need_6 (i : Nat) : needN 6 i = 3 := by unfold needN; rw [if_neg (by omega)]; rfl
theorem need_3 (i : Nat) : needN 3 i = 4 := by unfold needN; rw [if_neg (by omega)]; rfl
theorem need_5 (i : Nat) : needN 5 i = 5 := by unfold needN; rw [if_neg (by omega)]; rfl
theorem need_70 : needN 7 0 = 1 := rfl
theorem need_71 : needN 7 1 = 2 := rfl
theorem byteW_hd {a : Nat} (ha : a < 256) : HeadOk (byteW a) := by
  obtain ⟨b, t, h, h1, h2, -⟩ := byteW_head a ha
  refine ⟨b, t, h, h2, ?_⟩
  rcases h1 with rfl | h1
  · rfl
  · simp [signsL] at h1
    simp; omega
theorem classW_hd (s : BitVec 256) : HeadOk (classW s) := by
  unfold classW
  split
  · rename_i h
    obtain ⟨a, ha, hs, hr⟩ := card_1 h
    rw [hr]
    have e : runsW [(a, a)] = byteW a := by simp [runsW, runW]
    rw [e]; exact byteW_hd ha
  split
  · exact ⟨46, [], rfl, rfl, rfl⟩
  split
  · exact ⟨91, _, rfl, rfl, rfl⟩
  · exact ⟨91, _, rfl, rfl, rfl⟩
theorem grpT_hd {k h : Nat} {t : List Nat} (ht : HeadOk t) : HeadOk (grpT k h t) := by
  unfold grpT
  split
  · exact ⟨40, _, rfl, rfl, rfl⟩
  · exact ht
theorem kids_hd {o : Nat} {ks : List RE} (h : ks ≠ []) (hk : ∀ k ∈ ks, HeadOk k.txt) : HeadOk (kidsT o 0 (kidL ks)) := by
  cases ks with
  | nil => exact absurd rfl h
  | cons k ks =>
    rw [kidsT_cons, if_neg (by omega), List.nil_append]
    exact (grpT_hd (hk k (by simp))).append _
theorem Shp.ne {o : Nat} {s : BitVec 256} {ks : List RE} (h : Shp o s ks) (ho : o = 3 ∨ o = 4 ∨ o = 5 ∨ o = 6 ∨ o = 7) : ks ≠ [] := by
  rcases ho with rfl | rfl | rfl | rfl | rfl
  · have := (h.cat rfl).1; intro e; rw [e] at this; simp at this
  · have := (h.or (.inl rfl)).1; intro e; rw [e] at this; simp at this
  · obtain ⟨k, hk, -⟩ := h.star rfl; rw [hk]; simp
  · have := (h.or (.inr rfl)).1; intro e; rw [e] at this; simp at this
  · obtain ⟨a, b, hk, -⟩ := h.minus rfl; rw [hk]; simp
theorem txt_hd {r : RE} (h : Wf r) : HeadOk r.txt := by
  induction h with
  | mk o s ks hk h ih =>
    rw [RE.txt_mk]
    have ho := h.op
    have : o = 0 ∨ o = 1 ∨ o = 2 ∨ o = 3 ∨ o = 4 ∨ o = 5 ∨ o = 6 ∨ o = 7 := by omega
    rcases this with rfl | rfl | rfl | rfl | rfl | rfl | rfl | rfl
    · rw [opT_0]; exact ⟨91, _, rfl, rfl, rfl⟩
    · rw [opT_1]; exact ⟨40, _, rfl, rfl, rfl⟩
    · rw [opT_2]; exact classW_hd s
    · rw [opT_3]; exact kids_hd (h.ne (by omega)) ih
    · rw [opT_4]; exact kids_hd (h.ne (by omega)) ih
    · rw [opT_5]; exact (kids_hd (h.ne (by omega)) ih).append _
    · rw [opT_6]; exact kids_hd (h.ne (by omega)) ih
    · rw [opT_7]; exact kids_hd (h.ne (by omega)) ih
/-- A kid that is read as it was written. -/
def KidOk (n : Nat) (k : RE) : Prop := Wf k ∧ (∀ j ≤ holdN k.op, Rds n j k.txt k k.cost k.pd) ∧ HeadOk k.txt
theorem KidOk.grp {n : Nat} {k : RE} (h : KidOk n k) (j : Nat) (hj : j ≤ 5) : Rds n j (grpT j (holdN k.op) k.txt) k (grpN j (holdN k.op) k.cost) (grpN j (holdN k.op) k.pd) := Rds.grp h.1 h.2.1 h.2.2 j hj
theorem or_list {n : Nat} : ∀ (ks : List RE) (i : Nat) (l : List RE) (rest : List Nat) (d c : Nat), (∀ k ∈ ks, KidOk n k) → 0 < i → Stop 0 rest → d + kidsP 4 i (kidPL ks) ≤ 60 → c + kidsC 4 i (kidCL ks) ≤ 1000 →
    Run n (.orL l) ⟨kidsT 4 i (kidL ks) ++ rest, d, c, 0, 0⟩ (rAny (l ++ ks), ⟨rest, d, c + kidsC 4 i (kidCL ks), 0, 0⟩)
  | [], i, l, rest, d, c, _, _, hs, _, _ => by
    rw [List.append_nil]
    exact orL_end hs
  | k :: ks, i, l, rest, d, c, hk, hi, hs, hd, hc => by
    rw [kidsT_cons, if_pos hi, need_4, show sepB 4 = [124] from rfl]
    rw [kidsC_cons, need_4] at hc ⊢
    rw [kidsP_cons, need_4] at hd
    have hkk := hk k (by simp)
    have hn : Stop 1 (kidsT 4 (i + 1) (kidL ks) ++ rest) := by
      cases ks with
      | nil => exact hs.up
      | cons k2 ks =>
        rw [kidsT_cons, if_pos (by omega)]
        exact .inr ⟨124, _, rfl, rfl, rfl⟩
    have h1 := hkk.grp 1 (by omega) (kidsT 4 (i + 1) (kidL ks) ++ rest) d c hn (by omega) (by omega)
    have h2 := or_list ks (i + 1) (l ++ [k]) rest d (c + grpN 1 (holdN k.op) k.cost) (fun x hx => hk x (by simp [hx])) (by omega) hs (by omega) (by omega)
    have e : [124] ++ (grpT 1 (holdN k.op) k.txt ++ kidsT 4 (i + 1) (kidL ks)) ++ rest = 124 :: (grpT 1 (holdN k.op) k.txt ++ (kidsT 4 (i + 1) (kidL ks) ++ rest)) := by simp
    rw [e]
    have h3 := Run.orL (st := ⟨124 :: (grpT 1 (holdN k.op) k.txt ++ (kidsT 4 (i + 1) (kidL ks) ++ rest)), d, c, 0, 0⟩) (l := l) (signB_yes (by decide)) (by rw [sign_yes (by decide)]; exact h1) h2
    rw [List.append_assoc, List.singleton_append, Nat.add_assoc] at h3
    exact h3
theorem or_rd {n : Nat} {s : BitVec 256} {ks : List RE} (hw : Wf (.mk 4 s ks)) (hk : ∀ k ∈ ks, KidOk n k) : Rds n 0 (kidsT 4 0 (kidL ks)) (.mk 4 s ks) (kidsC 4 0 (kidCL ks)) (kidsP 4 0 (kidPL ks)) := by
  intro rest d c hs hd hc
  have hsame : rAny ks = .mk 4 s ks := with_same hw
  cases ks with
  | nil => exact absurd rfl (hw.shp.ne (by show 4 = 3 ∨ 4 = 4 ∨ 4 = 5 ∨ 4 = 6 ∨ 4 = 7; omega))
  | cons k ks =>
    rw [kidsT_cons, if_neg (by omega), need_4, List.nil_append, List.append_assoc]
    rw [kidsC_cons, need_4] at hc ⊢
    rw [kidsP_cons, need_4] at hd
    rw [Nat.zero_add] at *
    have hn : Stop 1 (kidsT 4 1 (kidL ks) ++ rest) := by
      cases ks with
      | nil => exact hs.up
      | cons k2 ks =>
        rw [kidsT_cons, if_pos (by omega)]
        exact .inr ⟨124, _, rfl, rfl, rfl⟩
    have h1 := (hk k (by simp)).grp 1 (by omega) (kidsT 4 1 (kidL ks) ++ rest) d c hn (by omega) (by omega)
    have h2 := or_list ks 1 [k] rest d (c + grpN 1 (holdN k.op) k.cost) (fun x hx => hk x (by simp [hx])) (by omega) hs (by omega) (by omega)
    rw [List.singleton_append, hsame, Nat.add_assoc] at h2
    exact Run.or h1 h2
theorem and_list {n : Nat} : ∀ (ks : List RE) (i : Nat) (l : List RE) (rest : List Nat) (d c : Nat), (∀ k ∈ ks, KidOk n k) → 0 < i → Stop 2 rest → d + kidsP 6 i (kidPL ks) ≤ 60 → c + kidsC 6 i (kidCL ks) ≤ 1000 →
    Run n (.andL l) ⟨kidsT 6 i (kidL ks) ++ rest, d, c, 0, 0⟩ (rBoth (l ++ ks), ⟨rest, d, c + kidsC 6 i (kidCL ks), 0, 0⟩)
  | [], i, l, rest, d, c, _, _, hs, _, _ => by
    rw [List.append_nil]
    exact andL_end hs
  | k :: ks, i, l, rest, d, c, hk, hi, hs, hd, hc => by
    rw [kidsT_cons, if_pos hi, need_6, show sepB 6 = [38] from rfl]
    rw [kidsC_cons, need_6] at hc ⊢
    rw [kidsP_cons, need_6] at hd
    have hkk := hk k (by simp)
    have hn : Stop 3 (kidsT 6 (i + 1) (kidL ks) ++ rest) := by
      cases ks with
      | nil => exact hs.up
      | cons k2 ks =>
        rw [kidsT_cons, if_pos (by omega)]
        exact .inr ⟨38, _, rfl, rfl, rfl⟩
    have h1 := hkk.grp 3 (by omega) (kidsT 6 (i + 1) (kidL ks) ++ rest) d c hn (by omega) (by omega)
    have h2 := and_list ks (i + 1) (l ++ [k]) rest d (c + grpN 3 (holdN k.op) k.cost) (fun x hx => hk x (by simp [hx])) (by omega) hs (by omega) (by omega)
    have e : [38] ++ (grpT 3 (holdN k.op) k.txt ++ kidsT 6 (i + 1) (kidL ks)) ++ rest = 38 :: (grpT 3 (holdN k.op) k.txt ++ (kidsT 6 (i + 1) (kidL ks) ++ rest)) := by simp
    rw [e]
    have h3 := Run.andL (st := ⟨38 :: (grpT 3 (holdN k.op) k.txt ++ (kidsT 6 (i + 1) (kidL ks) ++ rest)), d, c, 0, 0⟩) (l := l) (signB_yes (by decide)) (by rw [sign_yes (by decide)]; exact h1) h2
    rw [List.append_assoc, List.singleton_append, Nat.add_assoc] at h3
    exact h3
theorem and_rd {n : Nat} {s : BitVec 256} {ks : List RE} (hw : Wf (.mk 6 s ks)) (hk : ∀ k ∈ ks, KidOk n k) : Rds n 2 (kidsT 6 0 (kidL ks)) (.mk 6 s ks) (kidsC 6 0 (kidCL ks)) (kidsP 6 0 (kidPL ks)) := by
  intro rest d c hs hd hc
  have hsame : rBoth ks = .mk 6 s ks := with_same hw
  cases ks with
  | nil => exact absurd rfl (hw.shp.ne (by show 6 = 3 ∨ 6 = 4 ∨ 6 = 5 ∨ 6 = 6 ∨ 6 = 7; omega))
  | cons k ks =>
    rw [kidsT_cons, if_neg (by omega), need_6, List.nil_append, List.append_assoc]
    rw [kidsC_cons, need_6] at hc ⊢
    rw [kidsP_cons, need_6] at hd
    rw [Nat.zero_add] at *
    have hn : Stop 3 (kidsT 6 1 (kidL ks) ++ rest) := by
      cases ks with
      | nil => exact hs.up
      | cons k2 ks =>
        rw [kidsT_cons, if_pos (by omega)]
        exact .inr ⟨38, _, rfl, rfl, rfl⟩
    have h1 := (hk k (by simp)).grp 3 (by omega) (kidsT 6 1 (kidL ks) ++ rest) d c hn (by omega) (by omega)
    have h2 := and_list ks 1 [k] rest d (c + grpN 3 (holdN k.op) k.cost) (fun x hx => hk x (by simp [hx])) (by omega) hs (by omega) (by omega)
    rw [List.singleton_append, hsame, Nat.add_assoc] at h2
    exact Run.and h1 h2
theorem cat_list {n : Nat} : ∀ (ks : List RE) (i : Nat) (l : List RE) (rest : List Nat) (d c : Nat), (∀ k ∈ ks, KidOk n k) → 0 < i → Stop 3 rest → d + kidsP 3 i (kidPL ks) ≤ 60 → c + kidsC 3 i (kidCL ks) ≤ 1000 →
    Run n (.catL l) ⟨kidsT 3 i (kidL ks) ++ rest, d, c, 0, 0⟩ (rThen (l ++ ks), ⟨rest, d, c + kidsC 3 i (kidCL ks), 0, 0⟩)
  | [], i, l, rest, d, c, _, _, hs, _, _ => by
    rw [List.append_nil]
    exact catL_end hs
  | k :: ks, i, l, rest, d, c, hk, hi, hs, hd, hc => by
    rw [kidsT_cons, if_pos hi, need_3, show sepB 3 = [] from rfl, List.nil_append, List.append_assoc]
    rw [kidsC_cons, need_3] at hc ⊢
    rw [kidsP_cons, need_3] at hd
    have hkk := hk k (by simp)
    have hn : Stop 4 (kidsT 3 (i + 1) (kidL ks) ++ rest) := by
      cases ks with
      | nil => exact hs.up
      | cons k2 ks =>
        rw [kidsT_cons, if_pos (by omega), need_3, show sepB 3 = [] from rfl, List.nil_append, List.append_assoc]
        exact ((grpT_hd (hk k2 (by simp)).2.2).append _).stop
    have h1 := hkk.grp 4 (by omega) (kidsT 3 (i + 1) (kidL ks) ++ rest) d c hn (by omega) (by omega)
    have h2 := cat_list ks (i + 1) (l ++ [k]) rest d (c + grpN 4 (holdN k.op) k.cost) (fun x hx => hk x (by simp [hx])) (by omega) hs (by omega) (by omega)
    obtain ⟨b, u, hb, hb1, hb2⟩ := (grpT_hd (k := 4) (h := holdN k.op) hkk.2.2).append (kidsT 3 (i + 1) (kidL ks) ++ rest)
    have hsk : St.skip ⟨grpT 4 (holdN k.op) k.txt ++ (kidsT 3 (i + 1) (kidL ks) ++ rest), d, c, 0, 0⟩ = ⟨grpT 4 (holdN k.op) k.txt ++ (kidsT 3 (i + 1) (kidL ks) ++ rest), d, c, 0, 0⟩ := by rw [hb]; exact skip_no hb1
    have h3 := Run.catL (n := n) (st := ⟨grpT 4 (holdN k.op) k.txt ++ (kidsT 3 (i + 1) (kidL ks) ++ rest), d, c, 0, 0⟩) (l := l) (b := b) (t := u) (by rw [hsk]; exact hb) (by simp at hb2 ⊢; omega) (by rw [hsk]; exact h1) h2
    rw [List.append_assoc, List.singleton_append, Nat.add_assoc] at h3
    exact h3
theorem cat_rd {n : Nat} {s : BitVec 256} {ks : List RE} (hw : Wf (.mk 3 s ks)) (hk : ∀ k ∈ ks, KidOk n k) : Rds n 3 (kidsT 3 0 (kidL ks)) (.mk 3 s ks) (kidsC 3 0 (kidCL ks)) (kidsP 3 0 (kidPL ks)) := by
  intro rest d c hs hd hc
  have hsame : rThen ks = .mk 3 s ks := with_same hw
  cases ks with
  | nil => exact absurd rfl (hw.shp.ne (by show 3 = 3 ∨ 3 = 4 ∨ 3 = 5 ∨ 3 = 6 ∨ 3 = 7; omega))
  | cons k ks =>
    rw [kidsT_cons, if_neg (by omega), need_3, List.nil_append, List.append_assoc]
    rw [kidsC_cons, need_3] at hc ⊢
    rw [kidsP_cons, need_3] at hd
    rw [Nat.zero_add] at *
    have hn : Stop 4 (kidsT 3 1 (kidL ks) ++ rest) := by
      cases ks with
      | nil => exact hs.up
      | cons k2 ks =>
        rw [kidsT_cons, if_pos (by omega), need_3, show sepB 3 = [] from rfl, List.nil_append, List.append_assoc]
        exact ((grpT_hd (hk k2 (by simp)).2.2).append _).stop
    have h1 := (hk k (by simp)).grp 4 (by omega) (kidsT 3 1 (kidL ks) ++ rest) d c hn (by omega) (by omega)
    have h2 := cat_list ks 1 [k] rest d (c + grpN 4 (holdN k.op) k.cost) (fun x hx => hk x (by simp [hx])) (by omega) hs (by omega) (by omega)
    rw [List.singleton_append, hsame, Nat.add_assoc] at h2
    exact Run.cat h1 h2
theorem star_rd {n : Nat} {s : BitVec 256} {k : RE} (hw : Wf (.mk 5 s [k])) (hk : KidOk n k) (hz : (RE.mk 5 s [k]).cnt ≤ 1000) : Rds n 4 (kidsT 5 0 (kidL [k]) ++ [42]) (.mk 5 s [k]) (kidsC 5 0 (kidCL [k]) + 1) (kidsP 5 0 (kidPL [k])) := by
  intro rest d c hs hd hc
  have hsame : rMany k = .mk 5 s [k] := with_same hw
  rw [kidsT_cons, if_neg (by omega), need_5, List.nil_append]
  rw [kidsC_cons, need_5] at hc ⊢
  rw [kidsP_cons, need_5] at hd
  have e0 : kidsC 5 1 (kidCL []) = 0 := rfl
  have e1 : kidsT 5 (0 + 1) (kidL []) = [] := rfl
  rw [e0, Nat.add_zero] at hc ⊢
  rw [e1, List.append_nil]
  have h1 := hk.grp 5 (by omega) (42 :: rest) d c (.inr ⟨42, rest, rfl, rfl, rfl⟩) (by omega) (by omega)
  have hz2 : ¬ 1000 < (rMany k).size := by rw [hsame, size_min]; omega
  have e2 : sized n (rMany k, ⟨rest, d, c + grpN 5 (holdN k.op) k.cost, 0, 0⟩) = ⟨rest, d, c + (grpN 5 (holdN k.op) k.cost + 1), 0, 0⟩ := by
    unfold sized
    rw [if_neg hz2]
    show St.counted n ⟨rest, d, c + grpN 5 (holdN k.op) k.cost, 0, 0⟩ = _
    rw [counted_ok (by omega), Nat.add_assoc]
  have h2 := Run.star (n := n) (st := ⟨42 :: rest, d, c + grpN 5 (holdN k.op) k.cost, 0, 0⟩) (r := k) (signB_yes (by decide)) (by rw [sign_yes (by decide), e2]; exact postL_end hs)
  rw [hsame] at h2
  have e : grpT 5 (holdN k.op) k.txt ++ [42] ++ rest = grpT 5 (holdN k.op) k.txt ++ 42 :: rest := by simp
  rw [e]
  exact Run.post h1 h2
/-- What is read first of several that are taken away from one another. -/
def Cps (n : Nat) (t : List Nat) (r : RE) (cost pd : Nat) : Prop :=
  ∀ rest d c z, Stop 2 rest → d + pd ≤ 60 → c + cost ≤ 1000 → Run n (.minusL r) ⟨rest, d, c + cost, 0, 0⟩ z → Run n .minus ⟨t ++ rest, d, c, 0, 0⟩ z
theorem Rds.cps {n : Nat} {t : List Nat} {r : RE} {cost pd : Nat} (h : Rds n 2 t r cost pd) : Cps n t r cost pd := fun rest d c z hs hd hc hz => Run.minus (h rest d c hs hd hc) hz
theorem Cps.rd {n : Nat} {t : List Nat} {r : RE} {cost pd : Nat} (h : Cps n t r cost pd) : Rds n 1 t r cost pd := fun rest d c hs hd hc => h rest d c _ hs.up hd hc (minusL_end hs)
theorem minus_cps {n : Nat} {s : BitVec 256} {a b : RE} (hw : Wf (.mk 7 s [a, b])) (ha : KidOk n a) (hb : KidOk n b) (hac : 1 ≤ holdN a.op → Cps n a.txt a a.cost a.pd) : Cps n (kidsT 7 0 (kidL [a, b])) (.mk 7 s [a, b]) (kidsC 7 0 (kidCL [a, b])) (kidsP 7 0 (kidPL [a, b])) := by
  intro rest d c z hs hd hc hz
  have hsame : rBut a b = .mk 7 s [a, b] := with_same hw
  have ua : Cps n (grpT 1 (holdN a.op) a.txt) a (grpN 1 (holdN a.op) a.cost) (grpN 1 (holdN a.op) a.pd) := by
    by_cases h : 1 ≤ holdN a.op
    · have e1 : grpT 1 (holdN a.op) a.txt = a.txt := by unfold grpT; rw [if_neg (by omega)]
      have e2 : ∀ x, grpN 1 (holdN a.op) x = x := fun x => by unfold grpN; rw [if_neg (by omega)]
      rw [e1, e2, e2]; exact hac h
    · have e1 : grpT 1 (holdN a.op) a.txt = grpT 2 (holdN a.op) a.txt := by unfold grpT; rw [if_pos (by omega), if_pos (by omega)]
      have e2 : ∀ x, grpN 1 (holdN a.op) x = grpN 2 (holdN a.op) x := fun x => by unfold grpN; rw [if_pos (by omega), if_pos (by omega)]
      rw [e1, e2, e2]; exact (ha.grp 2 (by omega)).cps
  rw [kidsT_cons, if_neg (by omega), kidsT_cons, if_pos (by omega), need_70, show needN 7 (0 + 1) = 2 from rfl, show sepB 7 = [45] from rfl, show kidsT 7 (0 + 1 + 1) (kidL []) = [] from rfl]
  rw [kidsC_cons, kidsC_cons, need_70, show needN 7 (0 + 1) = 2 from rfl, show kidsC 7 (0 + 1 + 1) (kidCL []) = 0 from rfl] at hc hz
  rw [kidsP_cons, kidsP_cons, need_70, show needN 7 (0 + 1) = 2 from rfl] at hd
  have e : [] ++ (grpT 1 (holdN a.op) a.txt ++ ([45] ++ (grpT 2 (holdN b.op) b.txt ++ []))) ++ rest = grpT 1 (holdN a.op) a.txt ++ 45 :: (grpT 2 (holdN b.op) b.txt ++ rest) := by simp
  rw [e]
  refine ua _ d c z (.inr ⟨45, _, rfl, rfl, rfl⟩) (by omega) (by omega) ?_
  have h1 := hb.grp 2 (by omega) rest d (c + grpN 1 (holdN a.op) a.cost) hs (by omega) (by omega)
  refine Run.minusL (a := b) (s1 := ⟨rest, d, c + grpN 1 (holdN a.op) a.cost + grpN 2 (holdN b.op) b.cost, 0, 0⟩) (signB_yes (by decide)) (by rw [sign_yes (by decide)]; exact h1) ?_
  rw [hsame, Nat.add_assoc]
  rw [Nat.add_zero] at hz
  exact hz
theorem cnt_kid {k : RE} {ks : List RE} (h : k ∈ ks) : k.cnt ≤ cntL ks := by
  induction ks with
  | nil => cases h
  | cons x ks ih =>
    rw [cntL_cons]
    rcases List.mem_cons.1 h with rfl | h
    · omega
    · have := ih h; omega
/-- An expression's text is read as that expression. -/
theorem txt_rd (n : Nat) {r : RE} (hw : Wf r) (hz : r.cnt ≤ 1000) : (∀ j ≤ holdN r.op, Rds n j r.txt r r.cost r.pd) ∧ (1 ≤ holdN r.op → Cps n r.txt r r.cost r.pd) := by
  have hw0 := hw
  induction hw with
  | mk o s ks hk h ih =>
    have hkid : ∀ k ∈ ks, KidOk n k ∧ (1 ≤ holdN k.op → Cps n k.txt k k.cost k.pd) := fun k hkm => by
      have hc : k.cnt ≤ 1000 := by rw [RE.cnt_mk] at hz; have := cnt_kid hkm; omega
      have := ih k hkm hc (hk k hkm)
      exact ⟨⟨hk k hkm, this.1, txt_hd (hk k hkm)⟩, this.2⟩
    have fin : ∀ j0, j0 ≤ holdN o → j0 ≤ 5 → holdN o ≤ j0 → Rds n j0 (RE.mk o s ks).txt (.mk o s ks) (RE.mk o s ks).cost (RE.mk o s ks).pd → o ≠ 7 → (∀ j ≤ holdN o, Rds n j (RE.mk o s ks).txt (.mk o s ks) (RE.mk o s ks).cost (RE.mk o s ks).pd) ∧ (1 ≤ holdN o → Cps n (RE.mk o s ks).txt (.mk o s ks) (RE.mk o s ks).cost (RE.mk o s ks).pd) := by
      intro j0 h1 h5 h2 h3 h7
      have hall := Rds.down hw0 h1 h5 h3
      refine ⟨fun j hj => hall j (by omega), fun h => (hall 2 ?_).cps⟩
      have : holdN o ≠ 1 := by
        unfold holdN
        repeat' split
        all_goals omega
      omega
    show (∀ j ≤ holdN o, _) ∧ (1 ≤ holdN o → _)
    have ho := h.op
    have : o = 0 ∨ o = 1 ∨ o = 2 ∨ o = 3 ∨ o = 4 ∨ o = 5 ∨ o = 6 ∨ o = 7 := by omega
    rcases this with rfl | rfl | rfl | rfl | rfl | rfl | rfl | rfl
    · refine fin 5 (by decide) (by decide) (by decide) ?_ (by decide)
      have e := hw0.none rfl
      rw [RE.txt_mk, RE.cost_mk, RE.pd_mk, opT_0, h.leaf (.inl rfl)]
      intro rest d c hs hd hc
      have hc' : c + 1 ≤ 1000 := hc
      refine ⟨2, ?_⟩
      have hcl : clas n 1 ⟨93 :: rest, d, c, 0, 0⟩ = some (0#256, ⟨rest, d, c, 0, 0⟩) := rfl
      have := P_set (n := n) (f := 1) hcl (by omega)
      rw [show rOne 0#256 = rNothing from rfl] at this
      rw [h.leaf (.inl rfl)] at e
      rw [e]; exact this
    · refine fin 5 (by decide) (by decide) (by decide) ?_ (by decide)
      have e := hw0.eps rfl
      rw [RE.txt_mk, RE.cost_mk, RE.pd_mk, opT_1, h.leaf (.inr rfl)]
      rw [h.leaf (.inr rfl)] at e
      intro rest d c hs hd hc
      have hc' : c + 1 ≤ 1000 := hc
      have hd' : d + 1 ≤ 60 := hd
      rw [e]
      show Run n .atom ⟨40 :: 41 :: rest, d, c, 0, 0⟩ (rEmpty, ⟨rest, d, c + 1, 0, 0⟩)
      have e1 : St.sign 40 ⟨40 :: 41 :: rest, d, c, 0, 0⟩ = ⟨41 :: rest, d, c, 0, 0⟩ := sign_yes (by decide)
      have g := Run.groupE (n := n) (st := ⟨41 :: rest, d, c, 0, 0⟩) (by rw [deeper_ok hd']; exact signB_yes (by decide))
      rw [deeper_ok hd', sign_yes (by decide)] at g
      have k := Run.paren (n := n) (st := ⟨40 :: 41 :: rest, d, c, 0, 0⟩) (signB_yes (by decide)) (by rw [e1]; exact g)
      have e2 : St.counted n (St.upper ⟨rest, d + 1, c, 0, 0⟩) = ⟨rest, d, c + 1, 0, 0⟩ := by
        show St.counted n ⟨rest, d + 1 - 1, c, 0, 0⟩ = _
        rw [Nat.add_sub_cancel, counted_ok (by omega)]
      rw [e2] at k
      exact k
    · refine fin 5 (by decide) (by decide) (by decide) ?_ (by decide)
      obtain ⟨hk0, hs0⟩ := h.cls rfl
      rw [RE.txt_mk, RE.cost_mk, RE.pd_mk, opT_2, hk0]
      intro rest d c hs hd hc
      have hc' : c + 1 ≤ 1000 := hc
      have := class_rd (n := n) (d := d) (c := c) s rest (by omega)
      rw [one_mk hs0] at this
      exact this
    · refine fin 3 (by decide) (by decide) (by decide) ?_ (by decide)
      rw [RE.txt_mk, RE.cost_mk, RE.pd_mk, opT_3]
      exact cat_rd hw0 (fun k hk => (hkid k hk).1)
    · refine fin 0 (by decide) (by decide) (by decide) ?_ (by decide)
      rw [RE.txt_mk, RE.cost_mk, RE.pd_mk, opT_4]
      exact or_rd hw0 (fun k hk => (hkid k hk).1)
    · refine fin 4 (by decide) (by decide) (by decide) ?_ (by decide)
      obtain ⟨k, rfl, -⟩ := h.star rfl
      rw [RE.txt_mk, RE.cost_mk, RE.pd_mk, opT_5]
      exact star_rd hw0 (hkid k (by simp)).1 hz
    · refine fin 2 (by decide) (by decide) (by decide) ?_ (by decide)
      rw [RE.txt_mk, RE.cost_mk, RE.pd_mk, opT_6]
      exact and_rd hw0 (fun k hk => (hkid k hk).1)
    · obtain ⟨a, b, rfl, -⟩ := h.minus rfl
      have hcps : Cps n (RE.mk 7 s [a, b]).txt (.mk 7 s [a, b]) (RE.mk 7 s [a, b]).cost (RE.mk 7 s [a, b]).pd := by
        rw [RE.txt_mk, RE.cost_mk, RE.pd_mk, opT_7]
        exact minus_cps hw0 (hkid a (by simp)).1 (hkid b (by simp)).1 (hkid a (by simp)).2
      exact ⟨Rds.down hw0 (k := 1) (by show 1 ≤ holdN 7; decide) (by decide) hcps.rd, fun _ => hcps⟩
end Go.Proofs.YtdbdjjjmomociaaGreatDoor
/- An expression's text, read whole: how many parts it takes. -/
namespace Go.Proofs.YtdbdjjjmomociaaGreatDoor
set_option maxRecDepth 100000
set_option linter.unusedSimpArgs false
set_option linter.unusedVariables false
open Go.RowKit Go.Shelf St

theorem kidsC_le (o : Nat) (ks : List RE) (h : ∀ k ∈ ks, k.cost + 1 ≤ 2 * k.cnt) (i : Nat) : kidsC o i (kidCL ks) ≤ 2 * cntL ks := by
  induction ks generalizing i with
  | nil => exact Nat.zero_le _
  | cons k ks ih =>
    have h1 := h k (by simp)
    have h2 := ih (fun x hx => h x (by simp [hx])) (i + 1)
    have h3 : grpN (needN o i) (holdN k.op) k.cost ≤ k.cost + 1 := by unfold grpN; split <;> omega
    rw [kidsC_cons, cntL_cons]
    omega
theorem cost_le (r : RE) : r.cost + 1 ≤ 2 * r.cnt := by
  refine RE.ind (P := fun r => r.cost + 1 ≤ 2 * r.cnt) ?_ r
  intro o s ks ih
  have h := kidsC_le o ks ih 0
  rw [RE.cost_mk, RE.cnt_mk]
  unfold opC
  repeat' split
  all_goals omega
/-- The whole text is read as the expression. -/
theorem read_txt {r : RE} (hw : Wf r) (hz : r.cnt ≤ 500) (hp : r.pd ≤ 60) (hl : r.txt.length ≤ 65536) : readQ r.txt = (r, ⟨[], 0, r.cost, 0, 0⟩) ∧ (rdEnd r.txt).err = 0 := by
  have hc := cost_le r
  have h := (txt_rd r.txt.length hw (by omega)).1 0 (Nat.zero_le _) [] 0 0 (.inl rfl) (by omega) (by omega)
  rw [List.append_nil, Nat.zero_add] at h
  have h2 : readQ r.txt = (r, ⟨[], 0, r.cost, 0, 0⟩) := readQ_run hl h
  refine ⟨h2, ?_⟩
  unfold rdEnd
  rw [h2]
  have hs : ¬ 1000 < r.size := by rw [size_min]; omega
  show (if _ ∧ 1000 < r.size then _ else _ : St).err = 0
  rw [if_neg (fun h => hs h.2)]
  rfl
end Go.Proofs.YtdbdjjjmomociaaGreatDoor
/- How deep, and how long, the text of what a shape makes is. -/
namespace Go.Proofs.YtdbdjjjmomociaaGreatDoor
set_option maxRecDepth 100000
set_option linter.unusedSimpArgs false
set_option linter.unusedVariables false
open Go.RowKit Go.Shelf St

/-- No more than so many levels. -/
def Ht : Nat → RE → Prop
  | 0, _ => False
  | h + 1, r => ∀ k ∈ r.kids, Ht h k
theorem Ht.up {h : Nat} {r : RE} (hr : Ht h r) : Ht (h + 1) r := by
  induction h generalizing r with
  | zero => exact absurd hr id
  | succ h ih => exact fun k hk => ih (hr k hk)
theorem Ht.le {h h' : Nat} {r : RE} (hr : Ht h r) (hh : h ≤ h') : Ht h' r := by
  obtain ⟨k, rfl⟩ := Nat.exists_eq_add_of_le hh
  clear hh
  induction k with
  | zero => exact hr
  | succ k ih => exact ih.up
theorem Ht.leaf {h : Nat} {r : RE} (hr : r.kids = []) : Ht (h + 1) r := fun k hk => by rw [hr] at hk; cases hk
theorem Ht.kid {h : Nat} {r k : RE} (hr : Ht h r) (hk : k ∈ r.kids) : Ht h k := by
  cases h with
  | zero => exact absurd hr id
  | succ h => exact (hr k hk).up
theorem ht_join {h o : Nat} {l : List RE} (hl : ∀ k ∈ l, Ht h k) (h0 : 0 < h) : Ht (h + 1) (rJoin o l) := by
  unfold rJoin
  split
  · exact (hl _ (by simp)).up
  · exact fun k hk => hl k hk
theorem ht_nothing {h : Nat} : Ht (h + 1) rNothing := Ht.leaf rfl
theorem ht_empty {h : Nat} : Ht (h + 1) rEmpty := Ht.leaf rfl
theorem ht_one {h : Nat} (s : BitVec 256) : Ht (h + 1) (rOne s) := Ht.leaf (rOne_kids s)
theorem ht_one' {h : Nat} (s : BitVec 256) (h0 : 0 < h) : Ht h (rOne s) := by obtain ⟨g, rfl⟩ : ∃ g, h = g + 1 := ⟨h - 1, by omega⟩; exact ht_one s
theorem ht_flat {h o : Nat} {l : List RE} (hl : ∀ k ∈ l, Ht h k) : ∀ k ∈ flatL o l, Ht h k := by
  intro k hk
  unfold flatL at hk
  obtain ⟨x, hx, hk⟩ := List.mem_flatMap.1 hk
  split at hk
  · exact (hl x hx).kid hk
  · rw [List.mem_singleton] at hk; rw [hk]; exact hl x hx
theorem ht_catL {h : Nat} {l : List RE} (hl : ∀ k ∈ l, Ht h k) : ∀ k ∈ catL l, Ht h k := by
  intro k hk
  unfold catL at hk
  obtain ⟨x, hx, hk⟩ := List.mem_flatMap.1 hk
  unfold catK at hk
  split at hk
  · cases hk
  split at hk
  · exact (hl x hx).kid hk
  · rw [List.mem_singleton] at hk; rw [hk]; exact hl x hx
theorem mem_insK_sub (x : RE) (l : List RE) : ∀ r ∈ insK x l, r = x ∨ r ∈ l := by
  induction l with
  | nil => intro r hr; simp [insK] at hr; exact .inl hr
  | cons y l ih =>
    intro r hr
    simp only [insK] at hr
    split at hr
    · rcases List.mem_cons.1 hr with h | h
      · exact .inl h
      · exact .inr h
    · split at hr
      · exact .inr hr
      · rcases List.mem_cons.1 hr with rfl | hr
        · simp
        · rcases ih r hr with h | h
          · exact .inl h
          · exact .inr (by simp [h])
theorem mem_ordL_sub (l : List RE) : ∀ r ∈ ordL l, r ∈ l := by
  induction l with
  | nil => intro r hr; exact hr
  | cons x l ih =>
    intro r hr
    have hr : r ∈ insK x (ordL l) := hr
    rcases mem_insK_sub x _ r hr with h | h
    · simp [h]
    · simp [ih r h]
theorem ht_then {h : Nat} {l : List RE} (hl : ∀ k ∈ l, Ht h k) (h0 : 0 < h) : Ht (h + 1) (rThen l) := by
  unfold rThen
  split
  · exact ht_nothing
  split
  · exact ht_empty
  · exact ht_join (ht_catL hl) h0
theorem ht_any {h : Nat} {l : List RE} (hl : ∀ k ∈ l, Ht h k) (h0 : 0 < h) : Ht (h + 1) (rAny l) := by
  unfold rAny
  simp only
  generalize hks : (orKeep (flatL 4 l) ++ if orSet (flatL 4 l) = 0#256 then [] else [rOne (orSet (flatL 4 l))]) = ks
  split
  · exact ht_nothing
  · refine ht_join (fun k hk => ?_) h0
    have hk := mem_ordL_sub _ k hk
    rw [← hks] at hk
    rcases List.mem_append.1 hk with hk | hk
    · exact ht_flat hl k ((List.mem_filter.1 hk).1)
    · split at hk
      · cases hk
      · rw [List.mem_singleton] at hk; rw [hk]; exact ht_one' _ h0
theorem ht_many {h : Nat} {r : RE} (hr : Ht h r) : Ht (h + 1) (rMany r) := by
  unfold rMany
  split
  · exact ht_empty
  split
  · exact hr.up
  · intro k hk
    rw [List.mem_singleton.1 hk]; exact hr
theorem ht_both {h : Nat} {l : List RE} (hl : ∀ k ∈ l, Ht h k) (h0 : 0 < h) : Ht (h + 1) (rBoth l) := by
  unfold rBoth
  simp only
  split
  · exact ht_nothing
  split
  · exact ht_nothing
  generalize hks : (orKeep (flatL 6 l) ++ if met (flatL 6 l) = true then [rOne (andSet (flatL 6 l))] else []) = ks
  split
  · exact ht_many (ht_one' _ h0)
  · refine ht_join (fun k hk => ?_) h0
    have hk := mem_ordL_sub _ k hk
    rw [← hks] at hk
    rcases List.mem_append.1 hk with hk | hk
    · exact ht_flat hl k ((List.mem_filter.1 hk).1)
    · split at hk
      · rw [List.mem_singleton] at hk; rw [hk]; exact ht_one' _ h0
      · cases hk
theorem ht_but {h : Nat} {a b : RE} (ha : Ht h a) (hb : Ht h b) : Ht (h + 1) (rBut a b) := by
  unfold rBut
  split
  · exact ha.up
  split
  · exact ht_one _
  split
  · exact ht_nothing
  · intro k hk
    simp [RE.kids] at hk
    rcases hk with rfl | rfl
    · exact ha
    · exact hb
theorem ht_word (t : List Nat) : Ht 2 (rWord t) := by
  unfold rWord
  refine ht_then (h := 1) (fun k hk => ?_) (by omega)
  obtain ⟨c, -, rfl⟩ := List.mem_map.1 hk
  exact Ht.leaf (rLetter_kids c)
theorem kidsP_le {h o : Nat} (ks : List RE) (hk : ∀ k ∈ ks, k.pd ≤ h) (i : Nat) : kidsP o i (kidPL ks) ≤ h + 1 := by
  induction ks generalizing i with
  | nil => exact Nat.zero_le _
  | cons k ks ih =>
    rw [kidsP_cons]
    have h1 := hk k (by simp)
    have h2 := ih (fun x hx => hk x (by simp [hx])) (i + 1)
    have h3 : grpN (needN o i) (holdN k.op) k.pd ≤ k.pd + 1 := by unfold grpN; split <;> omega
    omega
theorem Ht.pd {h : Nat} {r : RE} (hr : Ht h r) : r.pd ≤ h := by
  induction h generalizing r with
  | zero => exact absurd hr id
  | succ h ih =>
    cases r with
    | mk o s ks =>
      rw [RE.pd_mk]
      have hk : ∀ k ∈ ks, k.pd ≤ h := fun k hk => ih (hr k hk)
      have := kidsP_le (o := o) ks hk 0
      unfold opP
      split <;> omega

/-- What stands at the ends of runs weighs. -/
def bdw (g : Nat → Nat) (s : BitVec 256) : Nat := ((List.range 255).map fun p => if s.getLsbD p = s.getLsbD (p + 1) then 0 else g p).sum
theorem sum_le {l : List Nat} {f g : Nat → Nat} (h : ∀ x ∈ l, f x ≤ g x) : (l.map f).sum ≤ (l.map g).sum := by
  induction l with
  | nil => simp
  | cons x l ih =>
    have := h x (by simp)
    have := ih (fun y hy => h y (by simp [hy]))
    simp; omega
theorem sum_add (l : List Nat) (f g : Nat → Nat) : (l.map fun x => f x + g x).sum = (l.map f).sum + (l.map g).sum := by
  induction l with
  | nil => simp
  | cons x l ih => simp [ih]; omega
theorem bdw_op {g : Nat → Nat} {a b c : BitVec 256} (op : Bool → Bool → Bool) (h : ∀ i < 256, c.getLsbD i = op (a.getLsbD i) (b.getLsbD i)) : bdw g c ≤ bdw g a + bdw g b := by
  unfold bdw
  rw [← sum_add]
  refine sum_le fun p hp => ?_
  have hp : p < 255 := by simpa using hp
  rw [h p (by omega), h (p + 1) (by omega)]
  by_cases h1 : a.getLsbD p = a.getLsbD (p + 1)
  · by_cases h2 : b.getLsbD p = b.getLsbD (p + 1)
    · rw [h1, h2]; simp
    · rw [if_pos h1, if_neg h2]; split <;> omega
  · rw [if_neg h1]; repeat' split
    all_goals omega
theorem bdw_or (g : Nat → Nat) (a b : BitVec 256) : bdw g (a ||| b) ≤ bdw g a + bdw g b := bdw_op (· || ·) (fun i hi => BitVec.getLsbD_or)
theorem bdw_and (g : Nat → Nat) (a b : BitVec 256) : bdw g (a &&& b) ≤ bdw g a + bdw g b := bdw_op (· && ·) (fun i hi => BitVec.getLsbD_and)
theorem bdw_not (g : Nat → Nat) (a : BitVec 256) : bdw g (~~~a) = bdw g a := by
  unfold bdw
  congr 1
  refine List.map_congr_left fun p hp => ?_
  have hp : p < 255 := by simpa using hp
  rw [BitVec.getLsbD_not, BitVec.getLsbD_not]
  have h1 : decide (p < 256) = true := by simp; omega
  have h2 : decide (p + 1 < 256) = true := by simp; omega
  rw [h1, h2]
  cases a.getLsbD p <;> cases a.getLsbD (p + 1) <;> simp
theorem bdw_zero (g : Nat → Nat) : bdw g 0#256 = 0 := by
  have : ((List.range 255).map fun p => if (0#256).getLsbD p = (0#256).getLsbD (p + 1) then 0 else g p) = (List.range 255).map fun _ => 0 := List.map_congr_left fun p hp => by simp
  unfold bdw
  rw [this]
  have : ∀ l : List Nat, (l.map fun _ => 0).sum = 0 := fun l => by induction l with | nil => rfl | cons x l ih => simp [ih]
  exact this _
theorem bdw_all (g : Nat → Nat) : bdw g allB = 0 := by unfold allB; rw [bdw_not, bdw_zero]
/-- The weight of all classes of an expression. -/
def RE.wt (g : Nat → Nat) : RE → Nat
  | .mk _ s ks => bdw g s + (ks.map fun k => k.wt g).sum
def wtL (g : Nat → Nat) (l : List RE) : Nat := (l.map (RE.wt g)).sum
theorem RE.wt_mk (g : Nat → Nat) (o : Nat) (s : BitVec 256) (ks : List RE) : (RE.mk o s ks).wt g = bdw g s + wtL g ks := by rw [RE.wt, wtL]
theorem RE.wt_kids (g : Nat → Nat) (r : RE) : r.wt g = bdw g r.set + wtL g r.kids := by cases r; exact RE.wt_mk _ _ _ _
section
variable (g : Nat → Nat)
theorem wtL_cons (x : RE) (l : List RE) : wtL g (x :: l) = x.wt g + wtL g l := by simp [wtL]
theorem wtL_append (a b : List RE) : wtL g (a ++ b) = wtL g a + wtL g b := by simp [wtL]
theorem wtL_flatMap (f : RE → List RE) (hf : ∀ r, wtL g (f r) ≤ r.wt g) (l : List RE) : wtL g (l.flatMap f) ≤ wtL g l := by
  induction l with
  | nil => simp [wtL]
  | cons x l ih => rw [List.flatMap_cons, wtL_append, wtL_cons]; have := hf x; omega
theorem wtL_catL (l : List RE) : wtL g (catL l) ≤ wtL g l := wtL_flatMap g _ (fun r => by
  have := r.wt_kids g
  unfold catK
  split
  · simp [wtL]
  · split
    · omega
    · rw [wtL_cons]; simp [wtL]) l
theorem wtL_flatL (o : Nat) (l : List RE) : wtL g (flatL o l) ≤ wtL g l := wtL_flatMap g _ (fun r => by
  have := r.wt_kids g
  split
  · omega
  · rw [wtL_cons]; simp [wtL]) l
theorem wtL_insK (x : RE) (l : List RE) : wtL g (insK x l) ≤ x.wt g + wtL g l := by
  induction l with
  | nil => simp [insK, wtL]
  | cons y l ih =>
    simp only [insK]
    split
    · simp only [wtL_cons]; omega
    · split
      · simp only [wtL_cons]; omega
      · simp only [wtL_cons]; omega
theorem wtL_ordL (l : List RE) : wtL g (ordL l) ≤ wtL g l := by
  induction l with
  | nil => simp [ordL]
  | cons x l ih =>
    have := wtL_insK g x (ordL l)
    rw [wtL_cons]
    have e : ordL (x :: l) = insK x (ordL l) := rfl
    rw [e]; omega
theorem wt_join (o : Nat) (l : List RE) : (rJoin o l).wt g ≤ wtL g l := by
  unfold rJoin
  split
  · simp [wtL]
  · rw [RE.wt_mk, bdw_zero]; omega
theorem wt_nothing : rNothing.wt g = 0 := by rw [RE.wt_kids]; show bdw g 0#256 + wtL g [] = 0; rw [bdw_zero]; rfl
theorem wt_empty : rEmpty.wt g = 0 := by rw [RE.wt_kids]; show bdw g 0#256 + wtL g [] = 0; rw [bdw_zero]; rfl
theorem wt_one (s : BitVec 256) : (rOne s).wt g = bdw g s := by
  unfold rOne
  split
  · rename_i h; rw [h, bdw_zero, wt_nothing]
  · rw [RE.wt_mk]; simp [wtL]
theorem wt_then (l : List RE) : (rThen l).wt g ≤ wtL g l := by
  unfold rThen
  split
  · rw [wt_nothing]; omega
  · split
    · rw [wt_empty]; omega
    · have h1 := wt_join g 3 (catL l); have h2 := wtL_catL g l; omega
/-- What is kept of some, and the classes put together. -/
theorem wt_sets (op : BitVec 256 → BitVec 256 → BitVec 256) (hop : ∀ a b, bdw g (op a b) ≤ bdw g a + bdw g b) (l : List RE) (s0 : BitVec 256) :
    wtL g (orKeep l) + bdw g (l.foldl (fun s r => if r.op = 2 then op s r.set else s) s0) ≤ bdw g s0 + wtL g l := by
  induction l generalizing s0 with
  | nil => simp [orKeep, wtL]
  | cons x l ih =>
    rw [List.foldl_cons, wtL_cons]
    have hx := x.wt_kids g
    by_cases h2 : x.op = 2
    · have e : orKeep (x :: l) = orKeep l := by unfold orKeep; rw [List.filter_cons, if_neg (by simp [h2])]
      rw [e, if_pos h2]
      have := ih (op s0 x.set)
      have := hop s0 x.set
      omega
    · rw [if_neg h2]
      have := ih s0
      have e : wtL g (orKeep (x :: l)) ≤ x.wt g + wtL g (orKeep l) := by
        unfold orKeep; rw [List.filter_cons]; split
        · rw [wtL_cons]; omega
        · omega
      omega
theorem wt_any (l : List RE) : (rAny l).wt g ≤ wtL g l := by
  unfold rAny
  simp only
  have h0 := wt_sets g (· ||| ·) (bdw_or g) (flatL 4 l) 0#256
  rw [bdw_zero] at h0
  have h4 := wtL_flatL g 4 l
  have h0 : wtL g (orKeep (flatL 4 l)) + bdw g (orSet (flatL 4 l)) ≤ 0 + wtL g (flatL 4 l) := h0
  generalize hk : (orKeep (flatL 4 l) ++ if orSet (flatL 4 l) = 0#256 then [] else [rOne (orSet (flatL 4 l))]) = ks
  have h5 : wtL g ks ≤ wtL g (orKeep (flatL 4 l)) + bdw g (orSet (flatL 4 l)) := by
    rw [← hk, wtL_append]
    split
    · simp [wtL]
    · rw [wtL_cons, wt_one]; simp [wtL]
  split
  · rw [wt_nothing]; omega
  · have h1 := wt_join g 4 (ordL ks)
    have h2 := wtL_ordL g ks
    omega
theorem wt_many (r : RE) : (rMany r).wt g ≤ r.wt g := by
  unfold rMany
  split
  · rw [wt_empty]; omega
  · split
    · omega
    · rw [RE.wt_mk, bdw_zero]; simp [wtL]
theorem wt_both (l : List RE) : (rBoth l).wt g ≤ wtL g l := by
  unfold rBoth
  simp only
  have h0 := wt_sets g (· &&& ·) (bdw_and g) (flatL 6 l) allB
  rw [bdw_all] at h0
  have h4 := wtL_flatL g 6 l
  have h0 : wtL g (orKeep (flatL 6 l)) + bdw g (andSet (flatL 6 l)) ≤ 0 + wtL g (flatL 6 l) := h0
  split
  · rw [wt_nothing]; omega
  · split
    · rw [wt_nothing]; omega
    · generalize hk : (orKeep (flatL 6 l) ++ if met (flatL 6 l) = true then [rOne (andSet (flatL 6 l))] else []) = ks
      have h5 : wtL g ks ≤ wtL g (orKeep (flatL 6 l)) + bdw g (andSet (flatL 6 l)) := by
        rw [← hk, wtL_append]
        split
        · rw [wtL_cons, wt_one]; simp [wtL]
        · simp [wtL]
      split
      · have := wt_many g (rOne allB); rw [wt_one, bdw_all] at this; omega
      · have h1 := wt_join g 6 (ordL ks)
        have h2 := wtL_ordL g ks
        omega
theorem wt_but (a b : RE) : (rBut a b).wt g ≤ a.wt g + b.wt g := by
  have ha := a.wt_kids g
  have hb := b.wt_kids g
  unfold rBut
  split
  · omega
  · split
    · rw [wt_one]
      have h1 := bdw_and g a.set (~~~b.set)
      rw [bdw_not] at h1
      omega
    · split
      · rw [wt_nothing]; omega
      · rw [RE.wt_mk, bdw_zero]; simp [wtL]
end
end Go.Proofs.YtdbdjjjmomociaaGreatDoor
/- How long the text of an expression is, and of what a shape makes. -/
namespace Go.Proofs.YtdbdjjjmomociaaGreatDoor
set_option maxRecDepth 100000
set_option linter.unusedSimpArgs false
set_option linter.unusedVariables false
open Go.RowKit Go.Shelf St

theorem sum_at (g : Nat → Nat) (x : Nat) (n : Nat) : ((List.range n).map fun p => if p = x then g p else 0).sum ≤ g x := by
  have key : ∀ n, n ≤ x → ((List.range n).map fun p => if p = x then g p else 0).sum = 0 := fun n => by
    induction n with
    | zero => intro _; rfl
    | succ n ih =>
      intro h
      rw [List.range_succ, List.map_append, List.sum_append, ih (by omega)]
      simp; omega
  induction n with
  | zero => exact Nat.zero_le _
  | succ n ih =>
    rw [List.range_succ, List.map_append, List.sum_append]
    by_cases h : n = x
    · subst h
      rw [key n (Nat.le_refl _)]; simp
    · simp [h]; exact ih
theorem spanG_has (a b i : Nat) (hi : i < 256) : (span a b).getLsbD i = decide (a ≤ i ∧ i < b) := by
  unfold span
  rw [setOf_has _ _ hi]
  simp only [List.mem_range'_1]
  congr 1
  apply propext
  constructor
  · intro h; omega
  · intro h; omega
theorem bdw_span (g : Nat → Nat) (a b : Nat) : bdw g (span a (b + 1)) ≤ g (a - 1) + g b := by
  have h1 := sum_at g (a - 1) 255
  have h2 := sum_at g b 255
  refine Nat.le_trans ?_ (Nat.add_le_add h1 h2)
  unfold bdw
  rw [← sum_add]
  refine sum_le fun p hp => ?_
  have hp : p < 255 := by simpa using hp
  rw [spanG_has a (b + 1) p (by omega), spanG_has a (b + 1) (p + 1) (by omega)]
  split
  · omega
  · rename_i h
    by_cases e1 : p = a - 1
    · rw [if_pos e1]; omega
    · by_cases e2 : p = b
      · rw [if_pos e2, if_neg e1]; omega
      · exfalso
        apply h
        congr 1
        apply propext
        constructor <;> intro _ <;> omega
theorem bdw_setOf1 (g : Nat → Nat) (a : Nat) : bdw g (setOf [a]) ≤ g (a - 1) + g a := by
  have := bdw_span g a a
  rw [← span_1, BitVec.zero_or]; exact this
/-- How many runs there are. -/
def run1 (s : BitVec 256) (k : Nat) : Nat := ((List.range k).map fun p => if s.getLsbD p = s.getLsbD (p + 1) then 0 else 1).sum
theorem run1_succ (s : BitVec 256) (k : Nat) : run1 s (k + 1) = run1 s k + if s.getLsbD k = s.getLsbD (k + 1) then 0 else 1 := by
  unfold run1; rw [List.range_succ, List.map_append, List.sum_append]; simp
def preB (s : BitVec 256) (k : Nat) : List Nat := (List.range k).filter fun b => s.getLsbD b
theorem preB_succ (s : BitVec 256) (k : Nat) : preB s (k + 1) = preB s k ++ if s.getLsbD k then [k] else [] := by
  unfold preB; rw [List.range_succ, List.filter_append]
  congr 1
  by_cases h : s.getLsbD k <;> simp [h]
theorem runsG_le (s : BitVec 256) (k : Nat) : ((runSt (preB s (k + 1))).1 ++ (runSt (preB s (k + 1))).2.toList).length ≤ 1 + run1 s k := by
  induction k with
  | zero =>
    rw [preB_succ, show preB s 0 = [] from rfl]
    split
    · simp [runSt, runStep]
    · simp [runSt]
  | succ k ih =>
    rw [preB_succ, run1_succ]
    by_cases h : s.getLsbD (k + 1)
    · rw [if_pos h, runSt_snoc]
      have hl : ∀ f l, (runSt (preB s (k + 1))).2 = some (f, l) → s.getLsbD k = true → l = k := by
        intro f l h1 h2
        obtain ⟨q, hq⟩ := runSt_last _ f l h1
        rw [preB_succ, if_pos h2] at hq
        have := congrArg List.getLast? hq
        simp at this
        omega
      have he : runSt (preB s (k + 1)) = runSt (preB s (k + 1)) := rfl
      generalize hst : runSt (preB s (k + 1)) = st at *
      obtain ⟨em, cur⟩ := st
      cases cur with
      | none =>
        have := runSt_none (preB s (k + 1)) (by rw [hst])
        rw [this] at hst
        simp [runSt] at hst
        subst hst
        simp [runStep]
      | some r =>
        obtain ⟨f, l⟩ := r
        simp only [runStep]
        split
        · simp at ih ⊢; omega
        · rename_i hb
          have hk : ¬ s.getLsbD k = s.getLsbD (k + 1) := by
            rw [h]
            intro e
            have := hl f l rfl e
            omega
          rw [if_neg hk]
          simp at ih ⊢; omega
    · rw [if_neg h, List.append_nil]
      omega
theorem runsOf_len (s : BitVec 256) : (runsOf s).length ≤ 1 + bdw (fun _ => 1) s := by
  have h := runsG_le s 255
  have e : preB s (255 + 1) = bytesOf s := (bytesOf_filter s).symm
  rw [e] at h
  exact h
theorem runsWG_len (l : List (Nat × Nat)) : (runsW l).length ≤ 9 * l.length := by
  induction l with
  | nil => simp [runsW]
  | cons x l ih =>
    have := runW_len x
    rw [show runsW (x :: l) = runW x ++ runsW l from rfl, List.length_append, List.length_cons]; omega
theorem classW_len (s : BitVec 256) : (classW s).length ≤ 12 + 9 * bdw (fun _ => 1) s := by
  have h1 := runsWG_len (runsOf s)
  have h2 := runsOf_len s
  have h3 := runsWG_len (runsOf (~~~s))
  have h4 := runsOf_len (~~~s)
  rw [bdw_not] at h4
  unfold classW
  repeat' split
  all_goals simp; try omega
theorem grpT_len (k h : Nat) (t : List Nat) : (grpT k h t).length ≤ t.length + 2 := by
  unfold grpT; split <;> simp
theorem sepB_len (o : Nat) : (sepB o).length ≤ 1 := by unfold sepB; repeat' split
                                                       all_goals simp
theorem kidsT_len (o : Nat) (ks : List RE) (h : ∀ k ∈ ks, k.txt.length ≤ 16 * k.cnt + 9 * k.wt (fun _ => 1)) (hc : ∀ k ∈ ks, k.txt.length + 3 ≤ 16 * k.cnt + 9 * k.wt (fun _ => 1)) (i : Nat) : (kidsT o i (kidL ks)).length ≤ 16 * cntL ks + 9 * wtL (fun _ => 1) ks := by
  induction ks generalizing i with
  | nil => exact Nat.zero_le _
  | cons k ks ih =>
    have h1 := hc k (by simp)
    have h2 := ih (fun x hx => h x (by simp [hx])) (fun x hx => hc x (by simp [hx])) (i + 1)
    have h3 := grpT_len (needN o i) (holdN k.op) k.txt
    have h4 := sepB_len o
    have h5 : (if 0 < i then sepB o else []).length ≤ 1 := by
      split
      · exact h4
      · simp
    rw [kidsT_cons, cntL_cons, wtL_cons, List.length_append, List.length_append]
    omega
theorem txt_len (r : RE) : r.txt.length + 3 ≤ 16 * r.cnt + 9 * r.wt (fun _ => 1) := by
  refine RE.ind (P := fun r => r.txt.length + 3 ≤ 16 * r.cnt + 9 * r.wt (fun _ => 1)) ?_ r
  intro o s ks ih
  have h := kidsT_len o ks (fun k hk => by have := ih k hk; omega) ih 0
  have h2 := classW_len s
  rw [RE.txt_mk, RE.cnt_mk, RE.wt_mk]
  unfold opT
  repeat' split
  all_goals simp; try omega
theorem wt_word (t : List Nat) : (rWord t).wt (fun _ => 1) ≤ 2 * t.length := by
  have h := wt_then (fun _ => 1) (t.map rLetter)
  have key : ∀ t : List Nat, wtL (fun _ => 1) (t.map rLetter) ≤ 2 * t.length := fun t => by
    induction t with
    | nil => simp [wtL]
    | cons x t ih =>
      have h1 : (rLetter x).wt (fun _ => 1) ≤ 2 := by
        show (rOne _).wt _ ≤ 2
        rw [wt_one]
        exact bdw_setOf1 (fun _ => 1) x
      rw [List.map_cons, wtL_cons, List.length_cons]; omega
  have := key t
  unfold rWord; omega
theorem wt_mkAt (k a b : Nat) (t : List Nat) (ks : List RE) (ht : t.length ≤ 20) : (mkAt k a b t ks).wt (fun _ => 1) ≤ 40 + wtL (fun _ => 1) ks := by
  have hg : ∀ i, (ks.getD i rNothing).wt (fun _ => 1) ≤ wtL (fun _ => 1) ks := fun i => by
    by_cases hi : i < ks.length
    · rw [show ks.getD i rNothing = ks[i] from by simp [List.getD_eq_getElem?_getD, hi]]
      have : wtL (fun _ => 1) ks = wtL (fun _ => 1) (ks.take i) + wtL (fun _ => 1) (ks.drop i) := by rw [← wtL_append, List.take_append_drop]
      rw [← List.getElem_cons_drop hi, wtL_cons] at this
      omega
    · rw [show ks.getD i rNothing = rNothing from by simp [List.getD_eq_getElem?_getD, hi], wt_nothing]; omega
  have h01 : (ks.getD 0 rNothing).wt (fun _ => 1) + (ks.getD 1 rNothing).wt (fun _ => 1) ≤ wtL (fun _ => 1) ks := by
    match ks with
    | [] => simp [wt_nothing, wtL]
    | [x] => simp [wt_nothing, wtL]
    | x :: y :: r => simp [wtL] <;> omega
  have g0 := hg 0
  have q1 := wt_then (fun _ => 1) ks; have q2 := wt_any (fun _ => 1) ks; have q3 := wt_both (fun _ => 1) ks; have q4 := wt_many (fun _ => 1) (ks.getD 0 rNothing); have q5 := wt_but (fun _ => 1) (ks.getD 0 rNothing) (ks.getD 1 rNothing); have q6 := wt_word t
  have q7 := bdw_span (fun _ => 1) a b
  unfold mkAt
  repeat' split
  · rw [wt_nothing]; omega
  · rw [wt_empty]; omega
  · rw [wt_one]; omega
  all_goals omega
theorem SHP.wt (s : SHP) : Tx s → s.re.wt (fun _ => 1) ≤ 40 * s.nodes := by
  refine SHP.ind (P := fun s => Tx s → s.re.wt (fun _ => 1) ≤ 40 * s.nodes) ?_ s
  intro o l u t ks ih h
  cases h with
  | mk _ _ _ _ _ ht hk =>
    rw [SHP.re_mk, SHP.nodes_mk]
    have h1 := wt_mkAt (SHP.mk o l u t ks).k (97 + l % 4) (97 + u % 4) (bytesN t) (ks.map SHP.re) (by simpa [bytesN] using ht)
    have h2 : wtL (fun _ => 1) (ks.map SHP.re) ≤ 40 * (ks.map SHP.nodes).sum := by
      clear h1
      induction ks with
      | nil => simp [wtL]
      | cons x ks ihk =>
        have e1 := ih x (by simp) (hk x (by simp))
        have e2 := ihk (fun k hk' => ih k (by simp [hk'])) (fun k hk' => hk k (by simp [hk']))
        rw [List.map_cons, wtL_cons, List.map_cons, List.sum_cons]
        omega
    omega
theorem ht_mkAt (h k a b : Nat) (t : List Nat) (ks : List RE) (h0 : 0 < h) (hk : ∀ x ∈ ks, Ht h x) : Ht (h + 1) (mkAt k a b t ks) := by
  have hg : ∀ i, Ht h (ks.getD i rNothing) := fun i => by
    by_cases hi : i < ks.length
    · rw [show ks.getD i rNothing = ks[i] from by simp [List.getD_eq_getElem?_getD, hi]]
      exact hk _ (List.getElem_mem hi)
    · rw [show ks.getD i rNothing = rNothing from by simp [List.getD_eq_getElem?_getD, hi]]
      obtain ⟨g, rfl⟩ : ∃ g, h = g + 1 := ⟨h - 1, by omega⟩
      exact ht_nothing
  unfold mkAt
  repeat' split
  · exact ht_nothing
  · exact ht_empty
  · exact ht_one _
  · exact ht_then hk h0
  · exact ht_any hk h0
  · exact ht_many (hg 0)
  · exact ht_both hk h0
  · exact ht_but (hg 0) (hg 1)
  · exact (ht_word t).le (by omega)
theorem nodesG_pos (s : SHP) : 1 ≤ s.nodes := by cases s; rw [SHP.nodes_mk]; omega
theorem nodesG_kid {k : SHP} {ks : List SHP} (h : k ∈ ks) : k.nodes ≤ (ks.map SHP.nodes).sum := by
  induction ks with
  | nil => cases h
  | cons x ks ih =>
    rw [List.map_cons, List.sum_cons]
    rcases List.mem_cons.1 h with rfl | h
    · omega
    · have := ih h; omega
theorem SHP.ht (s : SHP) : Ht (s.nodes + 1) s.re := by
  refine SHP.ind (P := fun s => Ht (s.nodes + 1) s.re) ?_ s
  intro o l u t ks ih
  rw [SHP.re_mk]
  have hp := nodesG_pos (SHP.mk o l u t ks)
  refine ht_mkAt _ _ _ _ _ _ hp fun x hx => ?_
  obtain ⟨k, hk, rfl⟩ := List.mem_map.1 hx
  refine (ih k hk).le ?_
  rw [SHP.nodes_mk]
  have := nodesG_kid hk
  omega
/-- What a shape makes is read as it is written. -/
theorem SHP.again (s : SHP) (ht : Tx s) (hn : s.nodes ≤ 30) (hz : s.re.cnt ≤ 300) : s.re.txt.length ≤ 65536 ∧ readQ s.re.txt = (s.re, ⟨[], 0, s.re.cost, 0, 0⟩) ∧ (rdEnd s.re.txt).err = 0 := by
  have h1 := txt_len s.re
  have h2 := s.wt ht
  have h3 := s.ht.pd
  have hl : s.re.txt.length ≤ 65536 := by omega
  exact ⟨hl, read_txt s.wf (by omega) (by omega) hl⟩
/-- Texts are of bytes. -/
theorem grpT_lt {k h : Nat} {t : List Nat} (ht : ∀ x ∈ t, x < 256) : ∀ x ∈ grpT k h t, x < 256 := by
  unfold grpT
  split
  · intro x hx
    simp at hx
    rcases hx with rfl | hx | rfl
    · decide
    · exact ht x hx
    · decide
  · exact ht
theorem kidsT_lt {o : Nat} {ks : List RE} (h : ∀ k ∈ ks, ∀ x ∈ k.txt, x < 256) (i : Nat) : ∀ x ∈ kidsT o i (kidL ks), x < 256 := by
  induction ks generalizing i with
  | nil => intro x hx; cases hx
  | cons k ks ih =>
    intro x hx
    rw [kidsT_cons] at hx
    rcases List.mem_append.1 hx with hx | hx
    · have : ∀ y ∈ sepB o, y < 256 := by
        unfold sepB
        repeat' split
        all_goals simp
      split at hx
      · exact this x hx
      · cases hx
    · rcases List.mem_append.1 hx with hx | hx
      · exact grpT_lt (h k (by simp)) x hx
      · exact ih (fun y hy => h y (by simp [hy])) (i + 1) x hx
theorem bW_lt : ∀ c < 256, ∀ x ∈ byteW c, x < 256 := by decide +kernel
theorem runsW_lt (l : List (Nat × Nat)) (hl : ∀ x ∈ l, x.1 ≤ x.2 ∧ x.2 < 256) : ∀ x ∈ runsW l, x < 256 := by
  intro x hx
  unfold runsW at hx
  obtain ⟨y, hy, hx⟩ := List.mem_flatMap.1 hx
  have := hl y hy
  unfold runW at hx
  rcases List.mem_append.1 hx with hx | hx
  · exact bW_lt _ (by omega) x hx
  · split at hx
    · rcases List.mem_cons.1 hx with rfl | hx
      · decide
      · exact bW_lt _ (by omega) x hx
    · cases hx
theorem classW_lt (s : BitVec 256) : ∀ x ∈ classW s, x < 256 := by
  have h1 := runsW_lt (runsOf s) (runsOf_ok s).1
  have h2 := runsW_lt (runsOf (~~~s)) (runsOf_ok _).1
  unfold classW
  repeat' split
  · exact h1
  · simp
  · intro x hx
    simp at hx
    rcases hx with rfl | rfl | hx | rfl
    · decide
    · decide
    · exact h2 x hx
    · decide
  · intro x hx
    simp at hx
    rcases hx with rfl | hx | rfl
    · decide
    · exact h1 x hx
    · decide
theorem txt_lt (r : RE) : ∀ x ∈ r.txt, x < 256 := by
  refine RE.ind (P := fun r => ∀ x ∈ r.txt, x < 256) ?_ r
  intro o s ks ih
  have h1 := kidsT_lt (o := o) ih 0
  have h2 := classW_lt s
  rw [RE.txt_mk]
  unfold opT
  repeat' split
  · simp
  · exact h2
  · exact h1
  · intro x hx
    rcases List.mem_append.1 hx with hx | hx
    · exact h1 x hx
    · simp at hx; omega
  · simp
end Go.Proofs.YtdbdjjjmomociaaGreatDoor
/- Shapes that came in. -/
namespace Go.Proofs.YtdbdjjjmomociaaGreatDoor
set_option maxRecDepth 100000
open Go.ChangeShapes Go.WideShapes Go.ChangeAt Go.WideMaps Go.WideElems Go.RowKit

theorem open_shape {H : Type} {enc : TypeId × Value → H} {w : World} {r : Reach} {b0 base : Nat} {sp : Nat → Bool} {held : Bool} {v : Value} {d : DataW H} {p : List MemPlace}
    (hv : Value.okWide Tryz.prog w r b0 61 v) (h : DataW.Trod enc Tryz.prog w base sp held 61 v d p) : ∃ s cs, v = ShVal cs ∧ ShC w cs s := by
  obtain ⟨cs, rfl, -⟩ := okWide_struct Tryz.underlying61 hv
  obtain ⟨fuel, hf⟩ := h
  obtain ⟨s, hs⟩ := open_shapeF fuel _ _ hf
  exact ⟨s, cs.toList, by simp [ShVal], hs⟩
theorem open_shapes {H : Type} {enc : TypeId × Value → H} {w : World} {r : Reach} {b0 base : Nat} {sp : Nat → Bool} {held : Bool} {v : Value} {d : DataW H} {p : List MemPlace}
    (hv : Value.okWide Tryz.prog w r b0 59 v) (h : DataW.Trod enc Tryz.prog w base sp held 59 v d p) : ∃ ks, ShsRow w v ks := by
  obtain ⟨a, len, cap, rfl⟩ := okWide_slice Tryz.underlying59 hv
  obtain ⟨fuel, hf⟩ := h
  exact open_shapesF (fun n _ cs y hy => open_shapeF n cs y hy) hf
end Go.Proofs.YtdbdjjjmomociaaGreatDoor
