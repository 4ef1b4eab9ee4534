/- Texts of this claim put together: RunA, MathSame. -/
import Derived.Test.YthhfpjehamhcbaaGreatDoorJoinRdK
import Derived.Test.YthhfpjehamhcbaaGreatDoorJoinMathWf
/- The reader with as much fuel as it takes; its rules; what it keeps of the first error. -/
namespace Go.Proofs.YthhfpjehamhcbaaGreatDoor
set_option maxRecDepth 100000
set_option linter.unusedSimpArgs false
set_option linter.unusedVariables false
open Go.RowKit Go.Shelf St

theorem classL_mono (n : Nat) : ∀ (f : Nat) (s : BitVec 256) (st : St) (q : BitVec 256 × St), classL n f s st = some q → classL n (f + 1) s st = some q
  | 0, s, st, q, h => by simp [classL] at h
  | f + 1, s, st, q, h => by
    unfold classL at h ⊢
    split at h
    · rename_i hb; rw [if_pos hb]; exact h
    · rename_i hb
      rw [if_neg hb]
      split at h
      · rename_i h0
        rw [if_pos h0]
        exact classL_mono n f _ _ q h
      · rename_i h0
        rw [if_neg h0]; exact h
theorem clas_mono {n f : Nat} {st : St} {q : BitVec 256 × St} (h : clas n f st = some q) : clas n (f + 1) st = some q := by
  unfold clas at h ⊢
  split at h
  · rename_i hb
    rw [if_pos hb]
    obtain ⟨a, h1, h2⟩ := Option.map_eq_some_iff.1 h
    rw [classL_mono n f _ _ _ h1, ← h2]; rfl
  · rename_i hb
    rw [if_neg hb]; exact classL_mono n f _ _ _ h
theorem P_mono (n : Nat) : ∀ (f : Nat) (m : Md) (st : St) (q : RE × St), P n f m st = some q → P n (f + 1) m st = some q
  | 0, m, st, q, h => by simp [P] at h
  | f + 1, .or, st, q, h => by
    rw [P] at h ⊢
    obtain ⟨a, h1, h2⟩ := Option.bind_eq_some_iff.1 h
    rw [P_mono n f _ _ _ h1]; exact P_mono n f _ _ _ h2
  | f + 1, .minus, st, q, h => by
    rw [P] at h ⊢
    obtain ⟨a, h1, h2⟩ := Option.bind_eq_some_iff.1 h
    rw [P_mono n f _ _ _ h1]; exact P_mono n f _ _ _ h2
  | f + 1, .and, st, q, h => by
    rw [P] at h ⊢
    obtain ⟨a, h1, h2⟩ := Option.bind_eq_some_iff.1 h
    rw [P_mono n f _ _ _ h1]; exact P_mono n f _ _ _ h2
  | f + 1, .cat, st, q, h => by
    rw [P] at h ⊢
    obtain ⟨a, h1, h2⟩ := Option.bind_eq_some_iff.1 h
    rw [P_mono n f _ _ _ h1]; exact P_mono n f _ _ _ h2
  | f + 1, .post, st, q, h => by
    rw [P] at h ⊢
    obtain ⟨a, h1, h2⟩ := Option.bind_eq_some_iff.1 h
    rw [P_mono n f _ _ _ h1]; exact P_mono n f _ _ _ h2
  | f + 1, .orL l, st, q, h => by
    rw [P] at h ⊢
    split at h
    · rename_i hb
      rw [if_pos hb]
      obtain ⟨a, h1, h2⟩ := Option.bind_eq_some_iff.1 h
      rw [P_mono n f _ _ _ h1]; exact P_mono n f _ _ _ h2
    · rename_i hb
      rw [if_neg hb]; exact h
  | f + 1, .minusL l, st, q, h => by
    rw [P] at h ⊢
    split at h
    · rename_i hb
      rw [if_pos hb]
      obtain ⟨a, h1, h2⟩ := Option.bind_eq_some_iff.1 h
      rw [P_mono n f _ _ _ h1]; exact P_mono n f _ _ _ h2
    · rename_i hb
      rw [if_neg hb]; exact h
  | f + 1, .andL l, st, q, h => by
    rw [P] at h ⊢
    split at h
    · rename_i hb
      rw [if_pos hb]
      obtain ⟨a, h1, h2⟩ := Option.bind_eq_some_iff.1 h
      rw [P_mono n f _ _ _ h1]; exact P_mono n f _ _ _ h2
    · rename_i hb
      rw [if_neg hb]; exact h
  | f + 1, .catL l, st, q, h => by
    rw [P] at h ⊢
    cases hr : st.skip.rest with
    | nil => rw [hr] at h; exact h
    | cons b t =>
      rw [hr] at h
      simp only at h ⊢
      split at h
      · rename_i hb
        rw [if_pos hb]; exact h
      · rename_i hb
        rw [if_neg hb]
        obtain ⟨a, h1, h2⟩ := Option.bind_eq_some_iff.1 h
        rw [P_mono n f _ _ _ h1]; exact P_mono n f _ _ _ h2
  | f + 1, .postL r, st, q, h => by
    rw [P] at h ⊢
    split at h
    · rename_i hb
      rw [if_pos hb]; exact P_mono n f _ _ _ h
    rename_i hb
    rw [if_neg hb]
    split at h
    · rename_i hb
      rw [if_pos hb]; exact P_mono n f _ _ _ h
    rename_i hb
    rw [if_neg hb]
    split at h
    · rename_i hb
      rw [if_pos hb]; exact P_mono n f _ _ _ h
    rename_i hb
    rw [if_neg hb]; exact h
  | f + 1, .atom, st, q, h => by
    rw [P] at h ⊢
    split at h
    · rename_i hb
      rw [if_pos hb]
      obtain ⟨a, h1, h2⟩ := Option.map_eq_some_iff.1 h
      rw [P_mono n f _ _ _ h1, ← h2]; rfl
    rename_i hb
    rw [if_neg hb]
    split at h
    · rename_i hb
      rw [if_pos hb]
      obtain ⟨a, h1, h2⟩ := Option.map_eq_some_iff.1 h
      rw [clas_mono h1, ← h2]; rfl
    rename_i hb
    rw [if_neg hb]; exact h
  | f + 1, .group, st, q, h => by
    rw [P] at h ⊢
    split at h
    · rename_i hb
      rw [if_pos hb]; exact h
    · rename_i hb
      rw [if_neg hb]
      obtain ⟨a, h1, h2⟩ := Option.map_eq_some_iff.1 h
      rw [P_mono n f _ _ _ h1, ← h2]; rfl
theorem P_add {n f : Nat} (k : Nat) {m : Md} {st : St} {q : RE × St} (h : P n f m st = some q) : P n (f + k) m st = some q := by
  induction k with
  | zero => exact h
  | succ k ih => exact P_mono n (f + k) m st q ih
theorem P_le {n f g : Nat} {m : Md} {st : St} {q : RE × St} (h : P n f m st = some q) (hg : f ≤ g) : P n g m st = some q := by
  have := P_add (g - f) h
  rwa [Nat.add_sub_cancel' hg] at this
theorem clas_le {n f g : Nat} {st : St} {q : BitVec 256 × St} (h : clas n f st = some q) (hg : f ≤ g) : clas n g st = some q := by
  obtain ⟨k, rfl⟩ := Nat.exists_eq_add_of_le hg
  clear hg
  induction k with
  | zero => exact h
  | succ k ih => exact clas_mono ih

/-- What is read, whatever fuel it takes. -/
def Run (n : Nat) (m : Md) (st : St) (q : RE × St) : Prop := ∃ f, P n f m st = some q
def RunC (n : Nat) (st : St) (q : BitVec 256 × St) : Prop := ∃ f, clas n f st = some q
theorem Run.det {n : Nat} {m : Md} {st : St} {q q' : RE × St} (h : Run n m st q) (h' : Run n m st q') : q = q' := by
  obtain ⟨f, h⟩ := h
  obtain ⟨g, h'⟩ := h'
  have h1 := P_le h (Nat.le_max_left f g)
  have h2 := P_le h' (Nat.le_max_right f g)
  rw [h1] at h2
  exact Option.some.inj h2
theorem readQ_run {l : List Nat} {q : RE × St} (hl : l.length ≤ 65536) (h : Run l.length .or (St.init l) q) : readQ l = q :=
  Run.det ⟨_, readQ_some hl⟩ h

section
variable {n : Nat} {st s1 s2 : St} {a : RE} {l : List RE} {z : RE × St}
theorem Run.both {m m' : Md} {sa sb : St} {x y : RE × St} (h1 : Run n m sa x) (h2 : Run n m' sb y) : ∃ f, P n f m sa = some x ∧ P n f m' sb = some y := by
  obtain ⟨f, h1⟩ := h1
  obtain ⟨g, h2⟩ := h2
  exact ⟨max f g, P_le h1 (Nat.le_max_left f g), P_le h2 (Nat.le_max_right f g)⟩
theorem Run.or (h1 : Run n .minus st (a, s1)) (h2 : Run n (.orL [a]) s1 z) : Run n .or st z := by
  obtain ⟨f, h1, h2⟩ := h1.both h2
  exact ⟨f + 1, P_or h1 h2⟩
theorem Run.minus (h1 : Run n .and st (a, s1)) (h2 : Run n (.minusL a) s1 z) : Run n .minus st z := by
  obtain ⟨f, h1, h2⟩ := h1.both h2
  exact ⟨f + 1, P_minus h1 h2⟩
theorem Run.and (h1 : Run n .cat st (a, s1)) (h2 : Run n (.andL [a]) s1 z) : Run n .and st z := by
  obtain ⟨f, h1, h2⟩ := h1.both h2
  exact ⟨f + 1, P_and h1 h2⟩
theorem Run.cat (h1 : Run n .post st (a, s1)) (h2 : Run n (.catL [a]) s1 z) : Run n .cat st z := by
  obtain ⟨f, h1, h2⟩ := h1.both h2
  exact ⟨f + 1, P_cat h1 h2⟩
theorem Run.post (h1 : Run n .atom st (a, s1)) (h2 : Run n (.postL a) s1 z) : Run n .post st z := by
  obtain ⟨f, h1, h2⟩ := h1.both h2
  exact ⟨f + 1, P_post h1 h2⟩
theorem Run.orL (hb : st.signB 124 = true) (h1 : Run n .minus (st.sign 124) (a, s1)) (h2 : Run n (.orL (l ++ [a])) s1 z) : Run n (.orL l) st z := by
  obtain ⟨f, h1, h2⟩ := h1.both h2
  exact ⟨f + 1, P_orL hb h1 h2⟩
theorem Run.orLE (hb : st.signB 124 = false) : Run n (.orL l) st (rAny l, st.sign 124) := ⟨1, P_orLE hb⟩
theorem Run.andL (hb : st.signB 38 = true) (h1 : Run n .cat (st.sign 38) (a, s1)) (h2 : Run n (.andL (l ++ [a])) s1 z) : Run n (.andL l) st z := by
  obtain ⟨f, h1, h2⟩ := h1.both h2
  exact ⟨f + 1, P_andL hb h1 h2⟩
theorem Run.andLE (hb : st.signB 38 = false) : Run n (.andL l) st (rBoth l, st.sign 38) := ⟨1, P_andLE hb⟩
theorem Run.minusL {r : RE} (hb : st.signB 45 = true) (h1 : Run n .and (st.sign 45) (a, s1)) (h2 : Run n (.minusL (rBut r a)) s1 z) : Run n (.minusL r) st z := by
  obtain ⟨f, h1, h2⟩ := h1.both h2
  exact ⟨f + 1, P_minusL hb h1 h2⟩
theorem Run.minusLE {r : RE} (hb : st.signB 45 = false) : Run n (.minusL r) st (r, st.sign 45) := ⟨1, P_minusLE hb⟩
theorem Run.catL {b : Nat} {t : List Nat} (hs : st.skip.rest = b :: t) (hb : [124, 45, 38, 41].contains b = false) (h1 : Run n .post st.skip (a, s1)) (h2 : Run n (.catL (l ++ [a])) s1 z) : Run n (.catL l) st z := by
  obtain ⟨f, h1, h2⟩ := h1.both h2
  exact ⟨f + 1, P_catL hs hb h1 h2⟩
theorem Run.catLE (h : st.skip.rest = [] ∨ ∃ b t, st.skip.rest = b :: t ∧ [124, 45, 38, 41].contains b = true) : Run n (.catL l) st (rThen l, st.skip) := by
  refine ⟨1, ?_⟩
  rw [P]
  rcases h with h | ⟨b, t, h, hb⟩
  · simp only [h]
  · simp only [h]
    rw [if_pos hb]
theorem Run.star {r : RE} (hb : st.signB 42 = true) (h2 : Run n (.postL (rMany r)) (sized n (rMany r, st.sign 42)) z) : Run n (.postL r) st z := by
  obtain ⟨f, h2⟩ := h2
  exact ⟨f + 1, by rw [P, if_pos hb]; exact h2⟩
theorem Run.plus {r : RE} (h0 : st.signB 42 = false) (hb : (st.sign 42).signB 43 = true) (h2 : Run n (.postL (rThen [r, rMany r])) (sized n (rThen [r, rMany r], (st.sign 42).sign 43)) z) : Run n (.postL r) st z := by
  obtain ⟨f, h2⟩ := h2
  exact ⟨f + 1, by rw [P, if_neg (by simp [h0]), if_pos hb]; exact h2⟩
theorem Run.maybe {r : RE} (h0 : st.signB 42 = false) (h1 : (st.sign 42).signB 43 = false) (hb : ((st.sign 42).sign 43).signB 63 = true) (h2 : Run n (.postL (rAny [r, rEmpty])) (sized n (rAny [r, rEmpty], ((st.sign 42).sign 43).sign 63)) z) : Run n (.postL r) st z := by
  obtain ⟨f, h2⟩ := h2
  exact ⟨f + 1, by rw [P, if_neg (by simp [h0]), if_neg (by simp [h1]), if_pos hb]; exact h2⟩
theorem Run.postLE {r : RE} (h0 : st.signB 42 = false) (h1 : (st.sign 42).signB 43 = false) (hb : ((st.sign 42).sign 43).signB 63 = false) : Run n (.postL r) st (r, ((st.sign 42).sign 43).sign 63) :=
  ⟨1, by rw [P, if_neg (by simp [h0]), if_neg (by simp [h1]), if_neg (by simp [hb])]⟩
theorem Run.paren (hb : st.signB 40 = true) (h1 : Run n .group (st.sign 40) (a, s1)) : Run n .atom st (a, s1.counted n) := by
  obtain ⟨f, h1⟩ := h1
  exact ⟨f + 1, P_paren hb h1 rfl⟩
theorem Run.group (hb : (st.deeper n).signB 41 = false) (h1 : Run n .or ((st.deeper n).sign 41) (a, s1)) : Run n .group st (a, (if s1.signB 41 then s1.sign 41 else (s1.sign 41).fail 2 ((s1.sign 41).pos n)).upper) := by
  obtain ⟨f, h1⟩ := h1
  exact ⟨f + 1, P_group hb h1 rfl⟩
theorem Run.groupE (hb : (st.deeper n).signB 41 = true) : Run n .group st (rEmpty, ((st.deeper n).sign 41).upper) := ⟨1, by rw [P, if_pos hb]⟩
theorem Run.set {s : BitVec 256} (h0 : st.signB 40 = false) (hb : (st.sign 40).signB 91 = true) (h1 : RunC n ((st.sign 40).sign 91) (s, s1)) : Run n .atom st (rOne s, s1.counted n) := by
  obtain ⟨f, h1⟩ := h1
  exact ⟨f + 1, by rw [P, if_neg (by simp [h0]), if_pos hb, h1]; rfl⟩
theorem Run.dot (h0 : st.signB 40 = false) (h1 : (st.sign 40).signB 91 = false) (hb : ((st.sign 40).sign 91).signB 46 = true) : Run n .atom st (rOne allB, (((st.sign 40).sign 91).sign 46).counted n) :=
  ⟨1, by rw [P, if_neg (by simp [h0]), if_neg (by simp [h1]), if_pos hb]⟩
theorem Run.byte (h0 : st.signB 40 = false) (h1 : (st.sign 40).signB 91 = false) (hb : ((st.sign 40).sign 91).signB 46 = false) : Run n .atom st (rOne (setOf [(((st.sign 40).sign 91).sign 46).byteV]), ((((st.sign 40).sign 91).sign 46).byte n).counted n) :=
  ⟨1, by rw [P, if_neg (by simp [h0]), if_neg (by simp [h1]), if_neg (by simp [hb])]⟩
end

/-- What holds of the first error and its place, and of each that can come, holds at the end. -/
def Kept (n : Nat) (J : Nat → Nat → Prop) : Prop := ∀ a b e p, J a b → (e = 2 ∨ e = 3 ∨ e = 4) → p ≤ n → J (if a = 0 then e else a) (if a = 0 then p else b)
section
variable {n : Nat} {J : Nat → Nat → Prop}
theorem keep_fail (hJ : Kept n J) {st : St} {e p : Nat} (h : J st.err st.wh) (he : e = 2 ∨ e = 3 ∨ e = 4) (hp : p ≤ n) : J (st.fail e p).err (st.fail e p).wh := hJ _ _ e p h he hp
theorem pos_le (st : St) : st.pos n ≤ n := Nat.sub_le _ _
theorem keep_sign {st : St} (b : Nat) (h : J st.err st.wh) : J (st.sign b).err (st.sign b).wh := by
  obtain ⟨-, -, h3, h4⟩ := sign_eq b st
  rw [h3, h4]; exact h
theorem keep_here {st : St} (b : Nat) (h : J st.err st.wh) : J (st.here b).err (st.here b).wh := by
  obtain ⟨-, -, h3, h4⟩ := here_eq b st
  rw [h3, h4]; exact h
theorem keep_counted (hJ : Kept n J) {st : St} (h : J st.err st.wh) : J (st.counted n).err (st.counted n).wh := by
  unfold counted
  split
  · exact keep_fail hJ (st := ⟨st.rest, st.deep, st.cnt + 1, st.err, st.wh⟩) h (.inr (.inl rfl)) (pos_le _)
  · exact h
theorem keep_byte (hJ : Kept n J) {st : St} (h : J st.err st.wh) : J (st.byte n).err (st.byte n).wh := by
  unfold byte
  split
  · exact keep_fail hJ h (.inl rfl) (pos_le _)
  · exact h
theorem keep_sized (hJ : Kept n J) {r : RE} {st : St} (h : J st.err st.wh) : J (sized n (r, st)).err (sized n (r, st)).wh := by
  unfold sized
  split
  · exact keep_fail hJ (keep_counted hJ h) (.inr (.inl rfl)) (pos_le _)
  · exact keep_counted hJ h
theorem keep_classL (hJ : Kept n J) : ∀ (f : Nat) (s : BitVec 256) (st : St) (q : BitVec 256) (st' : St), classL n f s st = some (q, st') → J st.err st.wh → J st'.err st'.wh
  | 0, s, st, q, st', h, _ => by simp [classL] at h
  | f + 1, s, st, q, st', h, h0 => by
    unfold classL at h
    split at h
    · injection h with h; injection h with h1 h2
      subst h2
      exact keep_here 93 h0
    · split at h
      · simp only at h
        have h2 := keep_byte hJ h0
        generalize st.byte n = st2 at *
        have h3 : J (if st2.isAt 45 = true then (st2.here 45).byte n else st2).err (if st2.isAt 45 = true then (st2.here 45).byte n else st2).wh := by
          split
          · exact keep_byte hJ (keep_here 45 h2)
          · exact h2
        generalize (if st2.isAt 45 = true then (st2.here 45).byte n else st2) = st3 at *
        generalize (if st2.isAt 45 = true then (st2.here 45).byteV else st.byteV) = high at *
        have h4 : J (if high < st.byteV then st3.fail 2 (st3.pos n) else st3).err (if high < st.byteV then st3.fail 2 (st3.pos n) else st3).wh := by
          split
          · exact keep_fail hJ h3 (.inl rfl) (pos_le _)
          · exact h3
        exact keep_classL hJ f _ _ q st' h h4
      · injection h with h; injection h with h1 h2
        subst h2
        exact h0
theorem keep_clas (hJ : Kept n J) {f : Nat} {st : St} {q : BitVec 256} {st' : St} (h : clas n f st = some (q, st')) (h0 : J st.err st.wh) : J st'.err st'.wh := by
  unfold clas at h
  split at h
  · obtain ⟨⟨a, b⟩, h1, h2⟩ := Option.map_eq_some_iff.1 h
    simp at h2
    obtain ⟨-, rfl⟩ := h2
    exact keep_classL hJ f _ _ _ _ h1 (keep_here 94 h0)
  · exact keep_classL hJ f _ _ _ _ h h0
theorem P_keep (hJ : Kept n J) : ∀ (f : Nat) (m : Md) (st : St) (q : RE) (st' : St), P n f m st = some (q, st') → J st.err st.wh → J st'.err st'.wh
  | 0, m, st, q, st', h, _ => by simp [P] at h
  | f + 1, .or, st, q, st', h, h0 => by
    rw [P] at h
    obtain ⟨⟨a, s1⟩, h1, h2⟩ := Option.bind_eq_some_iff.1 h
    exact P_keep hJ f _ _ _ _ h2 (P_keep hJ f _ _ _ _ h1 h0)
  | f + 1, .minus, st, q, st', h, h0 => by
    rw [P] at h
    obtain ⟨⟨a, s1⟩, h1, h2⟩ := Option.bind_eq_some_iff.1 h
    exact P_keep hJ f _ _ _ _ h2 (P_keep hJ f _ _ _ _ h1 h0)
  | f + 1, .and, st, q, st', h, h0 => by
    rw [P] at h
    obtain ⟨⟨a, s1⟩, h1, h2⟩ := Option.bind_eq_some_iff.1 h
    exact P_keep hJ f _ _ _ _ h2 (P_keep hJ f _ _ _ _ h1 h0)
  | f + 1, .cat, st, q, st', h, h0 => by
    rw [P] at h
    obtain ⟨⟨a, s1⟩, h1, h2⟩ := Option.bind_eq_some_iff.1 h
    exact P_keep hJ f _ _ _ _ h2 (P_keep hJ f _ _ _ _ h1 h0)
  | f + 1, .post, st, q, st', h, h0 => by
    rw [P] at h
    obtain ⟨⟨a, s1⟩, h1, h2⟩ := Option.bind_eq_some_iff.1 h
    exact P_keep hJ f _ _ _ _ h2 (P_keep hJ f _ _ _ _ h1 h0)
  | f + 1, .orL l, st, q, st', h, h0 => by
    rw [P] at h
    split at h
    · obtain ⟨⟨a, s1⟩, h1, h2⟩ := Option.bind_eq_some_iff.1 h
      exact P_keep hJ f _ _ _ _ h2 (P_keep hJ f _ _ _ _ h1 (keep_sign _ h0))
    · injection h with h; injection h with h1 h2
      subst h2
      exact keep_sign _ h0
  | f + 1, .minusL l, st, q, st', h, h0 => by
    rw [P] at h
    split at h
    · obtain ⟨⟨a, s1⟩, h1, h2⟩ := Option.bind_eq_some_iff.1 h
      exact P_keep hJ f _ _ _ _ h2 (P_keep hJ f _ _ _ _ h1 (keep_sign _ h0))
    · injection h with h; injection h with h1 h2
      subst h2
      exact keep_sign _ h0
  | f + 1, .andL l, st, q, st', h, h0 => by
    rw [P] at h
    split at h
    · obtain ⟨⟨a, s1⟩, h1, h2⟩ := Option.bind_eq_some_iff.1 h
      exact P_keep hJ f _ _ _ _ h2 (P_keep hJ f _ _ _ _ h1 (keep_sign _ h0))
    · injection h with h; injection h with h1 h2
      subst h2
      exact keep_sign _ h0
  | f + 1, .catL l, st, q, st', h, h0 => by
    rw [P] at h
    split at h
    · injection h with h; injection h with h1 h2
      subst h2
      exact h0
    · split at h
      · injection h with h; injection h with h1 h2
        subst h2
        exact h0
      · obtain ⟨⟨a, s1⟩, h1, h2⟩ := Option.bind_eq_some_iff.1 h
        exact P_keep hJ f _ _ _ _ h2 (P_keep hJ f _ _ _ _ h1 h0)
  | f + 1, .postL r, st, q, st', h, h0 => by
    rw [P] at h
    split at h
    · exact P_keep hJ f _ _ _ _ h (keep_sized hJ (keep_sign _ h0))
    split at h
    · exact P_keep hJ f _ _ _ _ h (keep_sized hJ (keep_sign _ (keep_sign _ h0)))
    split at h
    · exact P_keep hJ f _ _ _ _ h (keep_sized hJ (keep_sign _ (keep_sign _ (keep_sign _ h0))))
    · injection h with h; injection h with h1 h2
      subst h2
      exact keep_sign _ (keep_sign _ (keep_sign _ h0))
  | f + 1, .atom, st, q, st', h, h0 => by
    rw [P] at h
    split at h
    · obtain ⟨⟨a, s1⟩, h1, h2⟩ := Option.map_eq_some_iff.1 h
      injection h2 with h2 h3
      subst h3
      exact keep_counted hJ (P_keep hJ f _ _ _ _ h1 (keep_sign _ h0))
    split at h
    · obtain ⟨⟨a, s1⟩, h1, h2⟩ := Option.map_eq_some_iff.1 h
      injection h2 with h2 h3
      subst h3
      exact keep_counted hJ (keep_clas hJ h1 (keep_sign _ (keep_sign _ h0)))
    split at h
    · injection h with h; injection h with h1 h2
      subst h2
      exact keep_counted hJ (keep_sign _ (keep_sign _ (keep_sign _ h0)))
    · injection h with h; injection h with h1 h2
      subst h2
      exact keep_counted hJ (keep_byte hJ (keep_sign _ (keep_sign _ (keep_sign _ h0))))
  | f + 1, .group, st, q, st', h, h0 => by
    have hd : J (st.deeper n).err (st.deeper n).wh := by
      unfold deeper
      split
      · exact keep_fail hJ (st := ⟨st.rest, st.deep + 1, st.cnt, st.err, st.wh⟩) h0 (.inr (.inr rfl)) (by have := pos_le (n := n) st; show n - st.rest.length - 1 ≤ n; omega)
      · exact h0
    rw [P] at h
    generalize st.deeper n = sd at *
    split at h
    · injection h with h; injection h with h1 h2
      subst h2
      exact keep_sign 41 hd
    · obtain ⟨⟨a, s1⟩, h1, h2⟩ := Option.map_eq_some_iff.1 h
      injection h2 with h2 h3
      subst h3
      have h4 := P_keep hJ f _ _ _ _ h1 (keep_sign _ hd)
      show J (if s1.signB 41 = true then s1.sign 41 else (s1.sign 41).fail 2 ((s1.sign 41).pos n)).err (if s1.signB 41 = true then s1.sign 41 else (s1.sign 41).fail 2 ((s1.sign 41).pos n)).wh
      split
      · exact keep_sign 41 h4
      · exact keep_fail hJ (keep_sign 41 h4) (.inl rfl) (pos_le _)
end
/-- Once there is an error, it stays. -/
theorem Run.err {n : Nat} {m : Md} {st st' : St} {q : RE} (h : Run n m st (q, st')) (h0 : st.err ≠ 0) : st'.err = st.err ∧ st'.wh = st.wh := by
  obtain ⟨f, h⟩ := h
  exact P_keep (n := n) (J := fun a b => a = st.err ∧ b = st.wh) (fun a b e p hj _ _ => by
    obtain ⟨rfl, rfl⟩ := hj
    rw [if_neg h0, if_neg h0]; exact ⟨rfl, rfl⟩) f m st q st' h ⟨rfl, rfl⟩
/-- Which errors there are, and where. -/
theorem Run.errs {n : Nat} {m : Md} {st st' : St} {q : RE} (h : Run n m st (q, st')) (h0 : st.err = 0 ∨ st.err = 2 ∨ st.err = 3 ∨ st.err = 4) (h1 : st.wh ≤ n) : (st'.err = 0 ∨ st'.err = 2 ∨ st'.err = 3 ∨ st'.err = 4) ∧ st'.wh ≤ n := by
  obtain ⟨f, h⟩ := h
  exact P_keep (n := n) (J := fun a b => (a = 0 ∨ a = 2 ∨ a = 3 ∨ a = 4) ∧ b ≤ n) (fun a b e p hj he hp => by
    obtain ⟨hj, hb⟩ := hj
    split
    · exact ⟨.inr he, hp⟩
    · exact ⟨hj, hb⟩) f m st q st' h ⟨h0, h1⟩
/-- It always comes to an end. -/
theorem Run.total {n : Nat} {m : Md} {c0 : Nat} {st : St} (ho : Ok st) (hp : Pre c0 st m) : ∃ r st', Run n m st (r, st') := by
  obtain ⟨⟨r, st'⟩, h⟩ := P_total n (20 * st.rest.length + rankM m + 1) m c0 st ho hp (by omega)
  exact ⟨r, st', _, h⟩
end Go.Proofs.YthhfpjehamhcbaaGreatDoor
/- An expression in the settled form, with its own kids, is itself. -/
namespace Go.Proofs.YthhfpjehamhcbaaGreatDoor
set_option maxRecDepth 100000
set_option linter.unusedSimpArgs false
set_option linter.unusedVariables false
open Go.RowKit

theorem flatL_same {o : Nat} {l : List RE} (h : ∀ k ∈ l, k.op ≠ o) : flatL o l = l := by
  induction l with
  | nil => rfl
  | cons x l ih =>
    have hx := h x (by simp)
    have hl := ih fun k hk => h k (by simp [hk])
    unfold flatL at *
    rw [List.flatMap_cons, if_neg hx, hl]; rfl
theorem catL_same {l : List RE} (h : ∀ k ∈ l, k.op ≠ 1 ∧ k.op ≠ 3) : catL l = l := by
  induction l with
  | nil => rfl
  | cons x l ih =>
    have hx := h x (by simp)
    have hl := ih fun k hk => h k (by simp [hk])
    unfold catL at *
    rw [List.flatMap_cons, hl]
    unfold catK
    rw [if_neg hx.1, if_neg hx.2]; rfl
theorem rOne_set (c : BitVec 256) (h : c ≠ 0#256) : rOne c = .mk 2 c [] := by unfold rOne; rw [if_neg h]
theorem wf_class {r : RE} (hw : Wf r) (h : r.op = 2) : r = rOne r.set ∧ r.set ≠ 0#256 := by
  obtain ⟨h1, h2⟩ := hw.shp.cls h
  refine ⟨?_, h2⟩
  rw [rOne_set _ h2, ← h, ← h1]; exact r.eta
/-- At most one Class: what is gathered of them. -/
theorem orSet_one {l : List RE} : (∀ k ∈ l, k.op ≠ 2) → ∀ s, l.foldl (fun s r => if r.op = 2 then s ||| r.set else s) s = s := by
  induction l with
  | nil => intro _ s; rfl
  | cons x l ih =>
    intro h s
    rw [List.foldl_cons, if_neg (h x (by simp))]
    exact ih (fun k hk => h k (by simp [hk])) s
theorem andSet_one {l : List RE} : (∀ k ∈ l, k.op ≠ 2) → ∀ s, l.foldl (fun s r => if r.op = 2 then s &&& r.set else s) s = s := by
  induction l with
  | nil => intro _ s; rfl
  | cons x l ih =>
    intro h s
    rw [List.foldl_cons, if_neg (h x (by simp))]
    exact ih (fun k hk => h k (by simp [hk])) s
/-- A list with one Class at most, apart. -/
theorem one_class {l : List RE} (hc : (l.filter fun k => k.op == 2).length ≤ 1) : (∀ k ∈ l, k.op ≠ 2) ∨ ∃ a x b, l = a ++ x :: b ∧ x.op = 2 ∧ (∀ k ∈ a, k.op ≠ 2) ∧ ∀ k ∈ b, k.op ≠ 2 := by
  induction l with
  | nil => left; simp
  | cons x l ih =>
    by_cases hx : x.op = 2
    · right
      refine ⟨[], x, l, rfl, hx, by simp, fun k hk e => ?_⟩
      rw [List.filter_cons, if_pos (by simp [hx])] at hc
      have : k ∈ l.filter (fun k => k.op == 2) := List.mem_filter.2 ⟨hk, by simp [e]⟩
      have := List.length_pos_of_mem this
      rw [List.length_cons] at hc
      omega
    · rw [List.filter_cons, if_neg (by simp [hx])] at hc
      rcases ih hc with h | ⟨a, y, b, rfl, h1, h2, h3⟩
      · left
        intro k hk
        rcases List.mem_cons.1 hk with rfl | hk
        · exact hx
        · exact h k hk
      · right
        refine ⟨x :: a, y, b, rfl, h1, fun k hk => ?_, h3⟩
        rcases List.mem_cons.1 hk with rfl | hk
        · exact hx
        · exact h2 k hk
theorem mem_orKeep {l : List RE} (h0 : ∀ k ∈ l, k.op ≠ 0) (r : RE) : r ∈ orKeep l ↔ r ∈ l ∧ r.op ≠ 2 := by
  unfold orKeep
  rw [List.mem_filter]
  constructor
  · rintro ⟨h1, h2⟩; simp at h2; exact ⟨h1, h2.2⟩
  · rintro ⟨h1, h2⟩; exact ⟨h1, by simp [h0 r h1, h2]⟩
theorem any_same {r : RE} (hw : Wf r) (h4 : r.op = 4) : rAny r.kids = r := by
  obtain ⟨h2, hk, hup, hc⟩ := hw.shp.or (.inl h4)
  have hset := hw.shp.set (by omega)
  have hkw := hw.kid
  have hf : flatL 4 r.kids = r.kids := flatL_same fun k hk' => by have := (hk k hk').2; rwa [h4] at this
  have h0 : ∀ k ∈ r.kids, k.op ≠ 0 := fun k hk' => (hk k hk').1
  have key : ∀ ks, (∀ x, x ∈ ks ↔ x ∈ r.kids) → (∀ x ∈ ks, WfK x) → ordL ks = r.kids := fun ks h1 h3 => (ordL_eq h3 hup fun x => (h1 x).symm).symm
  have hne : r.kids ≠ [] := fun e => by rw [e] at h2; simp at h2
  have fin : ∀ ks, (∀ x, x ∈ ks ↔ x ∈ r.kids) → (∀ x ∈ ks, WfK x) → (if ks = [] then rNothing else rJoin 4 (ordL ks)) = r := fun ks h1 h3 => by
    rw [if_neg (fun e => hne (List.eq_nil_iff_forall_not_mem.2 fun x hx => by have := (h1 x).2 hx; rw [e] at this; simp at this)), key ks h1 h3, rJoin_more _ _ (by omega)]
    rw [← hset, ← h4]; exact r.eta.symm
  unfold rAny
  simp only [hf]
  rcases one_class hc with hn | ⟨a, x, b, e, hx, ha, hb⟩
  · have hs : orSet r.kids = 0#256 := orSet_one hn _
    rw [if_pos hs, List.append_nil]
    refine fin _ (fun y => ?_) (fun y hy => (hkw y ((mem_orKeep h0 y).1 hy).1).k)
    rw [mem_orKeep h0]
    exact ⟨fun h => h.1, fun h => ⟨h, hn y h⟩⟩
  · have hxm : x ∈ r.kids := by rw [e]; simp
    obtain ⟨hx1, hx2⟩ := wf_class (hkw x hxm) hx
    have hs : orSet r.kids = x.set := by
      unfold orSet
      rw [e, List.foldl_append, orSet_one ha, List.foldl_cons, if_pos hx, orSet_one hb]; simp
    rw [hs, if_neg hx2, ← hx1]
    have hm : ∀ y, y ∈ orKeep r.kids ++ [x] ↔ y ∈ r.kids := fun y => by
      rw [List.mem_append, mem_orKeep h0]
      constructor
      · rintro (h | h)
        · exact h.1
        · simp at h; subst h; exact hxm
      · intro h
        by_cases hy : y.op = 2
        · right
          rw [e] at h
          rcases List.mem_append.1 h with h | h
          · exact absurd hy (ha y h)
          · rcases List.mem_cons.1 h with rfl | h
            · simp
            · exact absurd hy (hb y h)
        · exact .inl ⟨h, hy⟩
    exact fin _ hm (fun y hy => (hkw y ((hm y).1 hy)).k)
theorem both_same {r : RE} (hw : Wf r) (h6 : r.op = 6) : rBoth r.kids = r := by
  obtain ⟨h2, hk, hup, hc⟩ := hw.shp.or (.inr h6)
  have hset := hw.shp.set (by omega)
  have hkw := hw.kid
  have hf : flatL 6 r.kids = r.kids := flatL_same fun k hk' => by have := (hk k hk').2; rwa [h6] at this
  have h0 : ∀ k ∈ r.kids, k.op ≠ 0 := fun k hk' => (hk k hk').1
  have hany : r.kids.any (fun r => r.op == 0) = false := List.any_eq_false.2 fun k hk' => by simp [h0 k hk']
  have key : ∀ ks, (∀ x, x ∈ ks ↔ x ∈ r.kids) → (∀ x ∈ ks, WfK x) → ordL ks = r.kids := fun ks h1 h3 => (ordL_eq h3 hup fun x => (h1 x).symm).symm
  have hne : r.kids ≠ [] := fun e => by rw [e] at h2; simp at h2
  have fin : ∀ ks, (∀ x, x ∈ ks ↔ x ∈ r.kids) → (∀ x ∈ ks, WfK x) → (if ks = [] then rMany (rOne allB) else rJoin 6 (ordL ks)) = r := fun ks h1 h3 => by
    rw [if_neg (fun e => hne (List.eq_nil_iff_forall_not_mem.2 fun x hx => by have := (h1 x).2 hx; rw [e] at this; simp at this)), key ks h1 h3, rJoin_more _ _ (by omega)]
    rw [← hset, ← h6]; exact r.eta.symm
  unfold rBoth
  simp only [hf]
  rw [if_neg (by rw [hany]; simp)]
  rcases one_class hc with hn | ⟨a, x, b, e, hx, ha, hb⟩
  · have hs : andSet r.kids = allB := andSet_one hn _
    have hm : met r.kids = false := List.any_eq_false.2 fun k hk' => by simp [hn k hk']
    rw [hs, if_neg (by decide +kernel), hm]
    simp only [Bool.false_eq_true, if_false, List.append_nil]
    refine fin _ (fun y => ?_) (fun y hy => (hkw y ((mem_orKeep h0 y).1 hy).1).k)
    rw [mem_orKeep h0]
    exact ⟨fun h => h.1, fun h => ⟨h, hn y h⟩⟩
  · have hxm : x ∈ r.kids := by rw [e]; simp
    obtain ⟨hx1, hx2⟩ := wf_class (hkw x hxm) hx
    have hs : andSet r.kids = x.set := by
      unfold andSet
      rw [e, List.foldl_append, andSet_one ha, List.foldl_cons, if_pos hx, andSet_one hb]
      have : allB = BitVec.allOnes 256 := by decide +kernel
      rw [this, BitVec.allOnes_and]
    have hm' : met r.kids = true := List.any_eq_true.2 ⟨x, hxm, by simp [hx]⟩
    rw [hs, if_neg hx2, hm', if_pos rfl, ← hx1]
    have hm : ∀ y, y ∈ orKeep r.kids ++ [x] ↔ y ∈ r.kids := fun y => by
      rw [List.mem_append, mem_orKeep h0]
      constructor
      · rintro (h | h)
        · exact h.1
        · simp at h; subst h; exact hxm
      · intro h
        by_cases hy : y.op = 2
        · right
          rw [e] at h
          rcases List.mem_append.1 h with h | h
          · exact absurd hy (ha y h)
          · rcases List.mem_cons.1 h with rfl | h
            · simp
            · exact absurd hy (hb y h)
        · exact .inl ⟨h, hy⟩
    exact fin _ hm (fun y hy => (hkw y ((hm y).1 hy)).k)
theorem with_same {r : RE} (hw : Wf r) : rWith r r.kids = r := by
  have hs := hw.shp
  unfold rWith
  split
  · rename_i h3
    obtain ⟨h2, hk⟩ := hs.cat h3
    unfold rThen
    rw [if_neg (by
      rw [List.any_eq_true]
      rintro ⟨k, hk', e⟩
      exact (hk k hk').1 (by simpa using e)), catL_same (fun k hk' => (hk k hk').2), if_neg (fun e => by rw [e] at h2; simp at h2), rJoin_more _ _ (by omega)]
    rw [← hs.set (by omega), ← h3]; exact r.eta.symm
  · split
    · exact any_same hw (by assumption)
    · split
      · exact both_same hw (by assumption)
      · split
        · rename_i h5
          obtain ⟨k, hk, h1, h2, h3⟩ := hs.star h5.1
          rw [hk]
          show rMany k = r
          unfold rMany
          rw [if_neg (by omega), if_neg h3, ← hk, ← hs.set (by omega), ← h5.1]; exact r.eta.symm
        · split
          · rename_i h7
            obtain ⟨a, b, hk, h1, h2, h3, h4⟩ := hs.minus h7.1
            have ha := (hw.kid a (by rw [hk]; simp)).k
            have hb := (hw.kid b (by rw [hk]; simp)).k
            rw [hk]
            show rBut a b = r
            unfold rBut
            rw [if_neg (by omega), if_neg h4, if_neg (fun e => h3 (key_inj ha hb (lexN_zero _ _ e))), ← hk, ← hs.set (by omega), ← h7.1]; exact r.eta.symm
          · rfl
theorem wf_with {r : RE} (hw : Wf r) {l : List RE} (hl : ∀ x ∈ l, Wf x) : Wf (rWith r l) := by
  have hg : ∀ i, Wf (l.getD i rNothing) := fun i => by
    by_cases hi : i < l.length
    · rw [show l.getD i rNothing = l[i] from by simp [List.getD_eq_getElem?_getD, hi]]; exact hl _ (List.getElem_mem hi)
    · rw [show l.getD i rNothing = rNothing from by simp [List.getD_eq_getElem?_getD, hi]]; exact wf_nothing
  unfold rWith
  split
  · exact wf_then hl
  · split
    · exact wf_any hl
    · split
      · exact wf_both hl
      · split
        · exact wf_many (hg 0)
        · split
          · exact wf_but (hg 0) (hg 1)
          · exact hw
end Go.Proofs.YthhfpjehamhcbaaGreatDoor
