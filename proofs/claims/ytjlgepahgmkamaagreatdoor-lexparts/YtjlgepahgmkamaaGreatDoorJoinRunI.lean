/- Texts of this claim put together: RunH, RunI. -/
import Derived.Test.YtjlgepahgmkamaaGreatDoorJoinRunC
/- Texts that can't go on: what the reader's run comes to. -/
namespace Go.Proofs.YtjlgepahgmkamaaGreatDoor
set_option maxRecDepth 100000
set_option linter.unusedSimpArgs false
set_option linter.unusedVariables false
open Go.RowKit Go.Shelf St

/-- It ends with an error there, and nothing is left. -/
def Fails (n : Nat) (m : Md) (st : St) (e p : Nat) : Prop := ∃ r st', Run n m st (r, st') ∧ st'.rest = [] ∧ st'.err = e ∧ st'.wh = p
section
variable {n e p : Nat} {st : St} {l : List RE}
theorem sign_nil {s : St} (h : s.rest = []) (b : Nat) : s.signB b = false ∧ s.sign b = s := by
  cases s with
  | mk r d c e w =>
    simp only at h
    subst h
    exact ⟨rfl, rfl⟩
theorem skip_nil {s : St} (h : s.rest = []) : s.skip = s := by
  cases s with
  | mk r d c e w =>
    simp only at h
    subst h
    rfl
theorem orL_nil {s : St} (h : s.rest = []) : Run n (.orL l) s (rAny l, s) := by
  have := Run.orLE (n := n) (l := l) (sign_nil h 124).1
  rw [(sign_nil h 124).2] at this; exact this
theorem andL_nil {s : St} (h : s.rest = []) : Run n (.andL l) s (rBoth l, s) := by
  have := Run.andLE (n := n) (l := l) (sign_nil h 38).1
  rw [(sign_nil h 38).2] at this; exact this
theorem minusL_nil {s : St} {r : RE} (h : s.rest = []) : Run n (.minusL r) s (r, s) := by
  have := Run.minusLE (n := n) (r := r) (sign_nil h 45).1
  rw [(sign_nil h 45).2] at this; exact this
theorem catL_nil {s : St} (h : s.rest = []) : Run n (.catL l) s (rThen l, s) := by
  have := Run.catLE (n := n) (l := l) (st := s) (.inl (by rw [skip_nil h]; exact h))
  rw [skip_nil h] at this; exact this
theorem postL_nil {s : St} {r : RE} (h : s.rest = []) : Run n (.postL r) s (r, s) := by
  have := Run.postLE (n := n) (r := r) (st := s) (sign_nil h 42).1 (by rw [(sign_nil h 42).2]; exact (sign_nil h 43).1) (by rw [(sign_nil h 42).2, (sign_nil h 43).2]; exact (sign_nil h 63).1)
  rw [(sign_nil h 42).2, (sign_nil h 43).2, (sign_nil h 63).2] at this; exact this
theorem Fails.post (h : Fails n .atom st e p) : Fails n .post st e p := by
  obtain ⟨r, s, h1, h2, h3⟩ := h
  exact ⟨_, _, Run.post h1 (postL_nil h2), h2, h3⟩
theorem Fails.cat (h : Fails n .post st e p) : Fails n .cat st e p := by
  obtain ⟨r, s, h1, h2, h3⟩ := h
  exact ⟨_, _, Run.cat h1 (catL_nil h2), h2, h3⟩
theorem Fails.and (h : Fails n .cat st e p) : Fails n .and st e p := by
  obtain ⟨r, s, h1, h2, h3⟩ := h
  exact ⟨_, _, Run.and h1 (andL_nil h2), h2, h3⟩
theorem Fails.minus (h : Fails n .and st e p) : Fails n .minus st e p := by
  obtain ⟨r, s, h1, h2, h3⟩ := h
  exact ⟨_, _, Run.minus h1 (minusL_nil h2), h2, h3⟩
theorem Fails.or (h : Fails n .minus st e p) : Fails n .or st e p := by
  obtain ⟨r, s, h1, h2, h3⟩ := h
  exact ⟨_, _, Run.or h1 (orL_nil h2), h2, h3⟩
theorem Fails.orL (hb : st.signB 124 = true) (h : Fails n .minus (st.sign 124) e p) : Fails n (.orL l) st e p := by
  obtain ⟨r, s, h1, h2, h3⟩ := h
  exact ⟨_, _, Run.orL hb h1 (orL_nil h2), h2, h3⟩
theorem Fails.andL (hb : st.signB 38 = true) (h : Fails n .cat (st.sign 38) e p) : Fails n (.andL l) st e p := by
  obtain ⟨r, s, h1, h2, h3⟩ := h
  exact ⟨_, _, Run.andL hb h1 (andL_nil h2), h2, h3⟩
theorem Fails.catL {b : Nat} {t : List Nat} (hs : st.skip.rest = b :: t) (hb : [124, 45, 38, 41].contains b = false) (h : Fails n .post st.skip e p) : Fails n (.catL l) st e p := by
  obtain ⟨r, s, h1, h2, h3⟩ := h
  exact ⟨_, _, Run.catL hs hb h1 (catL_nil h2), h2, h3⟩
theorem counted_bad {s : St} (h : s.rest = []) (he : s.err ≠ 0) : (s.counted n).rest = [] ∧ (s.counted n).err = s.err ∧ (s.counted n).wh = s.wh := by
  unfold St.counted
  split
  · unfold St.fail
    exact ⟨rfl, if_neg he, if_neg he⟩
  · exact ⟨h, rfl, rfl⟩
theorem Fails.group (he : e ≠ 0) (hb : (st.deeper n).signB 41 = false) (h : Fails n .or ((st.deeper n).sign 41) e p) : Fails n .group st e p := by
  obtain ⟨r, s, h1, h2, h3, h4⟩ := h
  have h := Run.group hb h1
  rw [if_neg (by rw [(sign_nil h2 41).1]; simp), (sign_nil h2 41).2] at h
  refine ⟨_, _, h, rfl, ?_, ?_⟩
  · show (s.fail 2 (s.pos n)).err = e
    unfold St.fail; simp only; rw [if_neg (by omega)]; exact h3
  · show (s.fail 2 (s.pos n)).wh = p
    unfold St.fail; simp only; rw [if_neg (by omega)]; exact h4
theorem Fails.paren (he : e ≠ 0) (hb : st.signB 40 = true) (h : Fails n .group (st.sign 40) e p) : Fails n .atom st e p := by
  obtain ⟨r, s, h1, h2, h3, h4⟩ := h
  obtain ⟨c1, c2, c3⟩ := counted_bad (n := n) h2 (by omega)
  exact ⟨_, _, Run.paren hb h1, c1, c2.trans h3, c3.trans h4⟩
end
/-- The sixteen texts, and where each fails. -/
def errT : List (List Nat × Nat) := [([40], 1), ([40, 97], 2), ([97, 41], 1), ([91, 97], 2), ([91, 98, 45, 97, 93], 4), ([92, 113], 0), ([92, 120, 49, 103], 0), ([124], 0), ([97, 124], 2), ([97, 38, 42], 2), ([40, 45, 97, 41], 1), ([1], 0), ([97, 93], 1), ([92], 0), ([91, 97, 45, 93], 3), ([91, 40, 93], 1)]
section
variable {n c : Nat}
end
end Go.Proofs.YtjlgepahgmkamaaGreatDoor
/- Texts that can't go on, behind others: the sixteen of TextErrors. -/
namespace Go.Proofs.YtjlgepahgmkamaaGreatDoor
set_option maxRecDepth 100000
set_option linter.unusedSimpArgs false
set_option linter.unusedVariables false
open Go.RowKit Go.Shelf St

/-- ab* so many times. -/
def abL : Nat → List Nat
  | 0 => []
  | k + 1 => 97 :: 98 :: 42 :: abL k
section
variable {n : Nat}
end
/-- What stands ahead: nothing, or some and an or. -/
def aheadL (k : Nat) : List Nat := if k = 0 then [] else abL k ++ [124]
end Go.Proofs.YtjlgepahgmkamaaGreatDoor
