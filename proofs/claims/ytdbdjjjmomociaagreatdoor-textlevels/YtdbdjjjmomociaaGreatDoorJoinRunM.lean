/- Texts of this claim put together: RunH, RunI, RunJ, RunK, RunL, RunM. -/
import Derived.Test.YtdbdjjjmomociaaGreatDoorJoinOpenS
import Derived.Test.YtdbdjjjmomociaaGreatDoorJoinMathSame
/- Texts that can't go on: what the reader's run comes to. -/
namespace Go.Proofs.YtdbdjjjmomociaaGreatDoor
set_option maxRecDepth 100000
set_option linter.unusedSimpArgs false
set_option linter.unusedVariables false
open Go.RowKit Go.Shelf St

/-- It ends with an error there, and nothing is left. -/
def Fails (n : Nat) (m : Md) (st : St) (e p : Nat) : Prop := ∃ r st', Run n m st (r, st') ∧ st'.rest = [] ∧ st'.err = e ∧ st'.wh = p
section
variable {n e p : Nat} {st : St} {l : List RE}
theorem sign_nil {s : St} (h : s.rest = []) (b : Nat) : s.signB b = false ∧ s.sign b = s := by
  cases s with
  | mk r d c e w =>
    simp only at h
    subst h
    exact ⟨rfl, rfl⟩
theorem skip_nil {s : St} (h : s.rest = []) : s.skip = s := by
  cases s with
  | mk r d c e w =>
    simp only at h
    subst h
    rfl
theorem orL_nil {s : St} (h : s.rest = []) : Run n (.orL l) s (rAny l, s) := by
  have := Run.orLE (n := n) (l := l) (sign_nil h 124).1
  rw [(sign_nil h 124).2] at this; exact this
theorem andL_nil {s : St} (h : s.rest = []) : Run n (.andL l) s (rBoth l, s) := by
  have := Run.andLE (n := n) (l := l) (sign_nil h 38).1
  rw [(sign_nil h 38).2] at this; exact this
theorem minusL_nil {s : St} {r : RE} (h : s.rest = []) : Run n (.minusL r) s (r, s) := by
  have := Run.minusLE (n := n) (r := r) (sign_nil h 45).1
  rw [(sign_nil h 45).2] at this; exact this
theorem catL_nil {s : St} (h : s.rest = []) : Run n (.catL l) s (rThen l, s) := by
  have := Run.catLE (n := n) (l := l) (st := s) (.inl (by rw [skip_nil h]; exact h))
  rw [skip_nil h] at this; exact this
theorem postL_nil {s : St} {r : RE} (h : s.rest = []) : Run n (.postL r) s (r, s) := by
  have := Run.postLE (n := n) (r := r) (st := s) (sign_nil h 42).1 (by rw [(sign_nil h 42).2]; exact (sign_nil h 43).1) (by rw [(sign_nil h 42).2, (sign_nil h 43).2]; exact (sign_nil h 63).1)
  rw [(sign_nil h 42).2, (sign_nil h 43).2, (sign_nil h 63).2] at this; exact this
theorem Fails.post (h : Fails n .atom st e p) : Fails n .post st e p := by
  obtain ⟨r, s, h1, h2, h3⟩ := h
  exact ⟨_, _, Run.post h1 (postL_nil h2), h2, h3⟩
theorem Fails.cat (h : Fails n .post st e p) : Fails n .cat st e p := by
  obtain ⟨r, s, h1, h2, h3⟩ := h
  exact ⟨_, _, Run.cat h1 (catL_nil h2), h2, h3⟩
theorem Fails.and (h : Fails n .cat st e p) : Fails n .and st e p := by
  obtain ⟨r, s, h1, h2, h3⟩ := h
  exact ⟨_, _, Run.and h1 (andL_nil h2), h2, h3⟩
theorem Fails.minus (h : Fails n .and st e p) : Fails n .minus st e p := by
  obtain ⟨r, s, h1, h2, h3⟩ := h
  exact ⟨_, _, Run.minus h1 (minusL_nil h2), h2, h3⟩
theorem Fails.or (h : Fails n .minus st e p) : Fails n .or st e p := by
  obtain ⟨r, s, h1, h2, h3⟩ := h
  exact ⟨_, _, Run.or h1 (orL_nil h2), h2, h3⟩
theorem Fails.toMinus (h : Fails n .atom st e p) : Fails n .minus st e p := h.post.cat.and.minus
theorem Fails.orL (hb : st.signB 124 = true) (h : Fails n .minus (st.sign 124) e p) : Fails n (.orL l) st e p := by
  obtain ⟨r, s, h1, h2, h3⟩ := h
  exact ⟨_, _, Run.orL hb h1 (orL_nil h2), h2, h3⟩
theorem Fails.andL (hb : st.signB 38 = true) (h : Fails n .cat (st.sign 38) e p) : Fails n (.andL l) st e p := by
  obtain ⟨r, s, h1, h2, h3⟩ := h
  exact ⟨_, _, Run.andL hb h1 (andL_nil h2), h2, h3⟩
theorem Fails.catL {b : Nat} {t : List Nat} (hs : st.skip.rest = b :: t) (hb : [124, 45, 38, 41].contains b = false) (h : Fails n .post st.skip e p) : Fails n (.catL l) st e p := by
  obtain ⟨r, s, h1, h2, h3⟩ := h
  exact ⟨_, _, Run.catL hs hb h1 (catL_nil h2), h2, h3⟩
theorem counted_bad {s : St} (h : s.rest = []) (he : s.err ≠ 0) : (s.counted n).rest = [] ∧ (s.counted n).err = s.err ∧ (s.counted n).wh = s.wh := by
  unfold St.counted
  split
  · unfold St.fail
    exact ⟨rfl, if_neg he, if_neg he⟩
  · exact ⟨h, rfl, rfl⟩
theorem Fails.group (he : e ≠ 0) (hb : (st.deeper n).signB 41 = false) (h : Fails n .or ((st.deeper n).sign 41) e p) : Fails n .group st e p := by
  obtain ⟨r, s, h1, h2, h3, h4⟩ := h
  have h := Run.group hb h1
  rw [if_neg (by rw [(sign_nil h2 41).1]; simp), (sign_nil h2 41).2] at h
  refine ⟨_, _, h, rfl, ?_, ?_⟩
  · show (s.fail 2 (s.pos n)).err = e
    unfold St.fail; simp only; rw [if_neg (by omega)]; exact h3
  · show (s.fail 2 (s.pos n)).wh = p
    unfold St.fail; simp only; rw [if_neg (by omega)]; exact h4
theorem Fails.paren (he : e ≠ 0) (hb : st.signB 40 = true) (h : Fails n .group (st.sign 40) e p) : Fails n .atom st e p := by
  obtain ⟨r, s, h1, h2, h3, h4⟩ := h
  obtain ⟨c1, c2, c3⟩ := counted_bad (n := n) h2 (by omega)
  exact ⟨_, _, Run.paren hb h1, c1, c2.trans h3, c3.trans h4⟩
end
/-- Where no byte stands. -/
theorem fails_byte {n d c : Nat} {t : List Nat} (hw : St.skip ⟨t, d, c, 0, 0⟩ = ⟨t, d, c, 0, 0⟩) (h0 : ∀ b u, t = b :: u → b ≠ 40 ∧ b ≠ 91 ∧ b ≠ 46) (hs : (scanN t).2 = 0) : Fails n .atom ⟨t, d, c, 0, 0⟩ 2 (n - t.length) := by
  have hno : ∀ b, b = 40 ∨ b = 91 ∨ b = 46 → St.signB b ⟨t, d, c, 0, 0⟩ = false ∧ St.sign b ⟨t, d, c, 0, 0⟩ = ⟨t, d, c, 0, 0⟩ := by
    intro b hb
    have : St.isAt b ⟨t, d, c, 0, 0⟩ = false := by
      cases t with
      | nil => rfl
      | cons x u =>
        have := h0 x u rfl
        have : x ≠ b := by omega
        simp [St.isAt, this]
    unfold St.signB St.sign St.here
    rw [hw, this]; exact ⟨rfl, rfl⟩
  obtain ⟨a1, a2⟩ := hno 40 (by omega)
  obtain ⟨b1, b2⟩ := hno 91 (by omega)
  obtain ⟨c1, c2⟩ := hno 46 (by omega)
  have h := Run.byte (n := n) (st := ⟨t, d, c, 0, 0⟩) a1 (by rw [a2]; exact b1) (by rw [a2, b2]; exact c1)
  rw [a2, b2, c2] at h
  have hb : St.byte n ⟨t, d, c, 0, 0⟩ = ⟨[], d, c, 2, n - t.length⟩ := by unfold St.byte; rw [if_pos hs]; rfl
  rw [hb] at h
  obtain ⟨q1, q2, q3⟩ := counted_bad (n := n) (s := ⟨[], d, c, 2, n - t.length⟩) rfl (by show (2 : Nat) ≠ 0; decide)
  exact ⟨_, _, h, q1, q2, q3⟩
theorem fails_class {n d c e p : Nat} {t : List Nat} {s : BitVec 256} (he : e ≠ 0) (h : RunC n ⟨t, d, c, 0, 0⟩ (s, ⟨[], d, c, e, p⟩)) : Fails n .atom ⟨91 :: t, d, c, 0, 0⟩ e p := by
  have h1 := Run.set (n := n) (st := ⟨91 :: t, d, c, 0, 0⟩) (signB_no (by decide) (by decide)) (by rw [sign_no (by decide) (by decide)]; exact signB_yes (by decide)) (by rw [sign_no (by decide) (by decide), sign_yes (by decide)]; exact h)
  obtain ⟨q1, q2, q3⟩ := counted_bad (n := n) (s := ⟨[], d, c, e, p⟩) rfl he
  exact ⟨_, _, h1, q1, q2, q3⟩
/-- A letter. -/
theorem letter_rd (n a : Nat) (h : byteW a = [a]) (ha : a < 256) : Rds n 5 [a] (rOne (setOf [a])) 1 0 := fun rest d c hs hd hc => by
  have := P_byte (n := n) (f := 0) (r := rest) (d := d) (c := c) ha (by omega)
  rw [h] at this
  exact ⟨_, this⟩

/-- The sixteen texts, and where each fails. -/
def errT : List (List Nat × Nat) := [([40], 1), ([40, 97], 2), ([97, 41], 1), ([91, 97], 2), ([91, 98, 45, 97, 93], 4), ([92, 113], 0), ([92, 120, 49, 103], 0), ([124], 0), ([97, 124], 2), ([97, 38, 42], 2), ([40, 45, 97, 41], 1), ([1], 0), ([97, 93], 1), ([92], 0), ([91, 97, 45, 93], 3), ([91, 40, 93], 1)]
section
variable {n c : Nat}
theorem f_paren {d : Nat} {t : List Nat} {e p : Nat} (he : e ≠ 0) (hd : d + 1 ≤ 60) (h41 : St.signB 41 ⟨t, d + 1, c, 0, 0⟩ = false) (hs : St.sign 41 ⟨t, d + 1, c, 0, 0⟩ = ⟨t, d + 1, c, 0, 0⟩) (h : Fails n .or ⟨t, d + 1, c, 0, 0⟩ e p) : Fails n .atom ⟨40 :: t, d, c, 0, 0⟩ e p := by
  refine Fails.paren he (signB_yes (by decide)) ?_
  rw [sign_yes (by decide)]
  refine Fails.group he ?_ ?_
  · rw [deeper_ok hd]; exact h41
  · rw [deeper_ok hd, hs]; exact h
theorem b97 : byteW 97 = [97] := by decide +kernel
theorem b98 : byteW 98 = [98] := by decide +kernel
theorem err_0 : Fails n .minus ⟨[40], 0, c, 0, 0⟩ 2 n := by
  have h : Fails n .or ⟨[], 1, c, 0, 0⟩ 2 (n - 0) := (fails_byte (n := n) (d := 1) (c := c) (t := []) rfl (fun b u h => by cases h) rfl).toMinus.or
  rw [Nat.sub_zero] at h
  exact (f_paren (by decide) (by decide) rfl rfl h).toMinus
/-- A letter, and then no closing. -/
theorem or_letter {d : Nat} {rest : List Nat} (hs : Stop 0 rest) (hd : d ≤ 60) (hc : c + 1 ≤ 1000) : Run n .or ⟨97 :: rest, d, c, 0, 0⟩ (rOne sa, ⟨rest, d, c + 1, 0, 0⟩) := by
  have h := (letter_rd n 97 b97 (by decide)).down4
  have h3 := h.down3 (then_one1 sa_ne)
  have h2 := h3.down2 (both_one1 sa_ne)
  exact h2.down1.down0 (any_one1 sa_ne) rest d c hs (by omega) (by omega)
theorem err_1 (hc : c + 1 ≤ 1000) : Fails n .minus ⟨[40, 97], 0, c, 0, 0⟩ 2 n := by
  have h := or_letter (n := n) (c := c) (d := 1) (rest := []) (.inl rfl) (by decide) hc
  have g := Run.group (n := n) (st := ⟨[97], 0, c, 0, 0⟩) (by rw [deeper_ok (by decide)]; exact signB_no (by decide) (by decide)) (by rw [deeper_ok (by decide), sign_no (by decide) (by decide)]; exact h)
  have k := Run.paren (n := n) (st := ⟨[40, 97], 0, c, 0, 0⟩) (signB_yes (by decide)) (by rw [sign_yes (by decide)]; exact g)
  have e : (if St.signB 41 ⟨[], 1, c + 1, 0, 0⟩ = true then St.sign 41 ⟨[], 1, c + 1, 0, 0⟩ else (St.sign 41 ⟨[], 1, c + 1, 0, 0⟩).fail 2 ((St.sign 41 ⟨[], 1, c + 1, 0, 0⟩).pos n)).upper = ⟨[], 0, c + 1, 2, n⟩ := rfl
  have e : (if St.signB 41 ⟨[], 0 + 1, c + 1, 0, 0⟩ = true then St.sign 41 ⟨[], 0 + 1, c + 1, 0, 0⟩ else (St.sign 41 ⟨[], 0 + 1, c + 1, 0, 0⟩).fail 2 ((St.sign 41 ⟨[], 0 + 1, c + 1, 0, 0⟩).pos n)).upper = ⟨[], 0, c + 1, 2, n⟩ := e
  rw [e] at k
  obtain ⟨q1, q2, q3⟩ := counted_bad (n := n) (s := ⟨[], 0, c + 1, 2, n⟩) rfl (by show (2 : Nat) ≠ 0; decide)
  exact Fails.toMinus ⟨_, _, k, q1, q2, q3⟩
theorem err_3 : Fails n .minus ⟨[91, 97], 0, c, 0, 0⟩ 2 n :=
  Fails.toMinus (fails_class (s := 0#256 ||| span 97 98 ||| span 0 1) (by decide) ⟨3, rfl⟩)
theorem err_4 : Fails n .minus ⟨[91, 98, 45, 97, 93], 0, c, 0, 0⟩ 2 (n - 1) :=
  Fails.toMinus (fails_class (s := 0#256 ||| span 98 98) (by decide) ⟨2, rfl⟩)
theorem err_5 : Fails n .minus ⟨[92, 113], 0, c, 0, 0⟩ 2 (n - 2) := Fails.toMinus (fails_byte rfl (fun b u h => by cases h; decide) rfl)
theorem err_6 : Fails n .minus ⟨[92, 120, 49, 103], 0, c, 0, 0⟩ 2 (n - 4) := Fails.toMinus (fails_byte rfl (fun b u h => by cases h; decide) rfl)
theorem err_7 : Fails n .minus ⟨[124], 0, c, 0, 0⟩ 2 (n - 1) := Fails.toMinus (fails_byte rfl (fun b u h => by cases h; decide) rfl)
theorem err_11 : Fails n .minus ⟨[1], 0, c, 0, 0⟩ 2 (n - 1) := Fails.toMinus (fails_byte rfl (fun b u h => by cases h; decide) rfl)
theorem err_13 : Fails n .minus ⟨[92], 0, c, 0, 0⟩ 2 (n - 1) := Fails.toMinus (fails_byte rfl (fun b u h => by cases h; decide) rfl)
theorem err_14 : Fails n .minus ⟨[91, 97, 45, 93], 0, c, 0, 0⟩ 2 (n - 1) :=
  Fails.toMinus (fails_class (s := 0#256 ||| span 97 1) (by decide) ⟨2, rfl⟩)
theorem err_15 : Fails n .minus ⟨[91, 40, 93], 0, c, 0, 0⟩ 2 (n - 2) :=
  Fails.toMinus (fails_class (s := 0#256 ||| span 0 1) (by decide) ⟨2, rfl⟩)
theorem post_letter {d : Nat} {rest : List Nat} (hs : Stop 4 rest) (hd : d ≤ 60) (hc : c + 1 ≤ 1000) : Run n .post ⟨97 :: rest, d, c, 0, 0⟩ (rOne sa, ⟨rest, d, c + 1, 0, 0⟩) := (letter_rd n 97 b97 (by decide)).down4 rest d c hs (by omega) (by omega)
theorem err_9 (hc : c + 1 ≤ 1000) : Fails n .minus ⟨[97, 38, 42], 0, c, 0, 0⟩ 2 (n - 1) := by
  have h : Run n .cat ⟨[97, 38, 42], 0, c, 0, 0⟩ (_, ⟨[38, 42], 0, c + 1, 0, 0⟩) := (letter_rd n 97 b97 (by decide)).down4.down3 (then_one1 sa_ne) [38, 42] 0 c (.inr ⟨38, _, rfl, rfl, rfl⟩) (by decide) (by omega)
  have h2 : Fails n (.andL [rOne (setOf [97])]) ⟨[38, 42], 0, c + 1, 0, 0⟩ 2 (n - 1) := Fails.andL (signB_yes (by decide)) (by
    rw [sign_yes (by decide)]
    exact (fails_byte (n := n) (d := 0) (c := c + 1) (t := [42]) rfl (fun b u h => by cases h; decide) rfl).post.cat)
  obtain ⟨r, s, g1, g2, g3⟩ := h2
  exact Fails.minus ⟨r, s, Run.and h g1, g2, g3⟩
theorem err_10 : Fails n .minus ⟨[40, 45, 97, 41], 0, c, 0, 0⟩ 2 (n - 3) := by
  have h : Fails n .or ⟨[45, 97, 41], 1, c, 0, 0⟩ 2 (n - 3) := (fails_byte (n := n) (d := 1) (c := c) (t := [45, 97, 41]) rfl (fun b u h => by cases h; decide) rfl).toMinus.or
  exact (f_paren (by decide) (by decide) rfl rfl h).toMinus
theorem err_12 (hc : c + 1 ≤ 1000) : Fails n .minus ⟨[97, 93], 0, c, 0, 0⟩ 2 (n - 1) := by
  have h := post_letter (n := n) (c := c) (d := 0) (rest := [93]) (.inr ⟨93, _, rfl, rfl, rfl⟩) (by decide) hc
  have h2 : Fails n (.catL [rOne sa]) ⟨[93], 0, c + 1, 0, 0⟩ 2 (n - 1) := Fails.catL (b := 93) (t := []) rfl rfl (fails_byte (n := n) (d := 0) (c := c + 1) (t := [93]) rfl (fun b u h => by cases h; decide) rfl).post
  obtain ⟨r, s, g1, g2, g3⟩ := h2
  exact Fails.minus (Fails.and ⟨r, s, Run.cat h g1, g2, g3⟩)
end
end Go.Proofs.YtdbdjjjmomociaaGreatDoor
/- Texts that can't go on, behind others: the sixteen of TextErrors. -/
namespace Go.Proofs.YtdbdjjjmomociaaGreatDoor
set_option maxRecDepth 100000
set_option linter.unusedSimpArgs false
set_option linter.unusedVariables false
open Go.RowKit Go.Shelf St

/-- ab* so many times. -/
def abL : Nat → List Nat
  | 0 => []
  | k + 1 => 97 :: 98 :: 42 :: abL k
theorem abL_len (k : Nat) : (abL k).length = 3 * k := by
  induction k with
  | zero => rfl
  | succ k ih => simp [abL, ih]; omega
theorem abL_snoc (k : Nat) : abL (k + 1) = abL k ++ [97, 98, 42] := by
  induction k with
  | zero => rfl
  | succ k ih =>
    have e : abL (k + 1 + 1) = 97 :: 98 :: 42 :: (abL k ++ [97, 98, 42]) := by rw [← ih]; rfl
    rw [e]
    rfl
section
variable {n : Nat}
theorem bstar_rd {c : Nat} {rest : List Nat} (hs : Stop 4 rest) (hc : c + 2 ≤ 1000) : Run n .post ⟨98 :: 42 :: rest, 0, c, 0, 0⟩ (rMany (rOne sb), ⟨rest, 0, c + 2, 0, 0⟩) := by
  have h1 : Run n .atom ⟨98 :: 42 :: rest, 0, c, 0, 0⟩ (rOne sb, ⟨42 :: rest, 0, c + 1, 0, 0⟩) := letter_rd n 98 b98 (by decide) (42 :: rest) 0 c (.inr ⟨42, _, rfl, rfl, rfl⟩) (by decide) (by omega)
  have hz : ¬ 1000 < (rMany (rOne sb)).size := by
    rw [one_mk sb_ne]
    unfold rMany
    rw [if_neg (by simp [RE.op]), if_neg (by simp [RE.op])]
    simp [RE.size_mk, sat]
  have e2 : sized n (rMany (rOne sb), ⟨rest, 0, c + 1, 0, 0⟩) = ⟨rest, 0, c + 2, 0, 0⟩ := by
    unfold sized
    rw [if_neg hz]
    show St.counted n ⟨rest, 0, c + 1, 0, 0⟩ = _
    rw [counted_ok (by omega)]
  exact Run.post h1 (Run.star (st := ⟨42 :: rest, 0, c + 1, 0, 0⟩) (r := rOne sb) (signB_yes (by decide)) (by rw [sign_yes (by decide), e2]; exact postL_end hs))
theorem abL_stop (j : Nat) {rest : List Nat} (hs : Stop 3 rest) : Stop 4 (abL j ++ rest) := by
  cases j with
  | zero => exact hs.up
  | succ j => exact .inr ⟨97, _, rfl, rfl, rfl⟩
theorem ab_loop : ∀ (j : Nat) (l : List RE) (c : Nat) (rest : List Nat), Stop 3 rest → c + 3 * j ≤ 1000 → ∃ X, Run n (.catL l) ⟨abL j ++ rest, 0, c, 0, 0⟩ (X, ⟨rest, 0, c + 3 * j, 0, 0⟩)
  | 0, l, c, rest, hs, hc => ⟨_, catL_end hs⟩
  | j + 1, l, c, rest, hs, hc => by
    obtain ⟨X, h⟩ := ab_loop j (l ++ [rOne sa] ++ [rMany (rOne sb)]) (c + 1 + 2) rest hs (by omega)
    refine ⟨X, ?_⟩
    have e : c + 1 + 2 + 3 * j = c + 3 * (j + 1) := by omega
    rw [e] at h
    refine Run.catL (b := 97) (t := 98 :: 42 :: (abL j ++ rest)) rfl rfl (post_letter (n := n) (c := c) (d := 0) (rest := 98 :: 42 :: (abL j ++ rest)) (.inr ⟨98, _, rfl, rfl, rfl⟩) (by decide) (by omega)) ?_
    exact Run.catL (b := 98) (t := 42 :: (abL j ++ rest)) rfl rfl (bstar_rd (c := c + 1) (abL_stop j hs) (by omega)) h
/-- The texts ahead. -/
theorem ab_minus (k : Nat) (rest : List Nat) (hs : Stop 1 rest) (hk : 3 * (k + 1) ≤ 1000) : ∃ X, Run n .minus ⟨abL (k + 1) ++ rest, 0, 0, 0, 0⟩ (X, ⟨rest, 0, 3 * (k + 1), 0, 0⟩) := by
  obtain ⟨X, h⟩ := ab_loop (n := n) k ([rOne sa] ++ [rMany (rOne sb)]) 3 rest hs.up.up (by omega)
  have e : 3 + 3 * k = 3 * (k + 1) := by omega
  rw [e] at h
  have h1 : Run n .cat ⟨abL (k + 1) ++ rest, 0, 0, 0, 0⟩ (X, ⟨rest, 0, 3 * (k + 1), 0, 0⟩) := Run.cat (post_letter (n := n) (c := 0) (d := 0) (rest := 98 :: 42 :: (abL k ++ rest)) (.inr ⟨98, _, rfl, rfl, rfl⟩) (by decide) (by omega))
    (Run.catL (b := 98) (t := 42 :: (abL k ++ rest)) rfl rfl (bstar_rd (c := 0 + 1) (abL_stop k hs.up.up) (by omega)) h)
  exact ⟨_, Run.minus (Run.and h1 (andL_end hs.up)) (minusL_end hs)⟩
end
/-- What stands ahead: nothing, or some and an or. -/
def aheadL (k : Nat) : List Nat := if k = 0 then [] else abL k ++ [124]
theorem rdEnd_bad {l : List Nat} {e p : Nat} (hl : l.length ≤ 65536) (he : e ≠ 0) (h : Fails l.length .or (St.init l) e p) : (rdEnd l).err = e ∧ (rdEnd l).wh = p := by
  obtain ⟨r, s, h1, h2, h3, h4⟩ := h
  have hq := readQ_run hl h1
  unfold rdEnd
  rw [hq]
  have hs : s.skip = s := skip_nil h2
  simp only [hs, h2, List.isEmpty_nil, if_true]
  rw [if_neg (fun h => he (h3 ▸ h.1))]
  exact ⟨h3, h4⟩
/-- Behind what stands ahead. -/
theorem ahead_fails {t : List Nat} {k p : Nat} (hk : k ≤ 15) (ht : t.length ≤ 5) (h0 : ∀ n c, c ≤ 45 → Fails n .minus ⟨t, 0, c, 0, 0⟩ 2 (n - p)) (hp : p ≤ t.length) : (rdEnd (aheadL k ++ t)).err = 2 ∧ (rdEnd (aheadL k ++ t)).wh = (aheadL k).length + (t.length - p) := by
  have hlen : (aheadL k ++ t).length = (aheadL k).length + t.length := List.length_append
  have hal : (aheadL k).length ≤ 46 := by
    unfold aheadL; split
    · simp
    · simp [abL_len]; omega
  have key : Fails (aheadL k ++ t).length .or (St.init (aheadL k ++ t)) 2 ((aheadL k ++ t).length - p) := by
    unfold aheadL St.init
    split
    · exact Fails.or (h0 _ 0 (by omega))
    · rename_i hk0
      obtain ⟨j, rfl⟩ : ∃ j, k = j + 1 := ⟨k - 1, by omega⟩
      have e : abL (j + 1) ++ [124] ++ t = abL (j + 1) ++ 124 :: t := by simp
      rw [e]
      obtain ⟨X, h1⟩ := ab_minus (n := (abL (j + 1) ++ 124 :: t).length) j (124 :: t) (.inr ⟨124, _, rfl, rfl, rfl⟩) (by omega)
      have h2 : Fails (abL (j + 1) ++ 124 :: t).length (.orL [X]) ⟨124 :: t, 0, 3 * (j + 1), 0, 0⟩ 2 ((abL (j + 1) ++ 124 :: t).length - p) := Fails.orL (signB_yes (by decide)) (by rw [sign_yes (by decide)]; exact h0 _ _ (by omega))
      obtain ⟨r, s, g1, g2, g3⟩ := h2
      exact ⟨r, s, Run.or h1 g1, g2, g3⟩
  have := rdEnd_bad (by omega) (by decide) key
  rw [hlen] at this
  refine ⟨this.1, this.2.trans (by omega)⟩
theorem minus_letter {n c : Nat} {rest : List Nat} (hs : Stop 1 rest) (hc : c + 1 ≤ 1000) : Run n .minus ⟨97 :: rest, 0, c, 0, 0⟩ (rOne sa, ⟨rest, 0, c + 1, 0, 0⟩) := by
  have h := (letter_rd n 97 b97 (by decide)).down4
  have h3 := h.down3 (then_one1 sa_ne)
  have h2 := h3.down2 (both_one1 sa_ne)
  exact h2.down1 rest 0 c hs (by omega) (by omega)
theorem ahead_8 {k : Nat} (hk : k ≤ 15) : (rdEnd (aheadL k ++ [97, 124])).err = 2 ∧ (rdEnd (aheadL k ++ [97, 124])).wh = (aheadL k).length + 2 := by
  have hlen : (aheadL k ++ [97, 124]).length = (aheadL k).length + 2 := List.length_append
  have hal : (aheadL k).length ≤ 46 := by
    unfold aheadL; split
    · simp
    · simp [abL_len]; omega
  have tail : ∀ n c l, Fails n (.orL l) ⟨[124], 0, c, 0, 0⟩ 2 n := fun n c l => Fails.orL (signB_yes (by decide)) (by
    rw [sign_yes (by decide)]
    have := (fails_byte (n := n) (d := 0) (c := c) (t := []) rfl (fun b u h => by cases h) rfl).toMinus
    rw [List.length_nil, Nat.sub_zero] at this; exact this)
  have key : Fails (aheadL k ++ [97, 124]).length .or (St.init (aheadL k ++ [97, 124])) 2 (aheadL k ++ [97, 124]).length := by
    unfold aheadL St.init
    split
    · obtain ⟨r, s, g1, g2, g3⟩ := tail ([] ++ [97, 124]).length (0 + 1) [rOne sa]
      exact ⟨r, s, Run.or (minus_letter (rest := [124]) (.inr ⟨124, _, rfl, rfl, rfl⟩) (by decide)) g1, g2, g3⟩
    · rename_i hk0
      obtain ⟨j, rfl⟩ : ∃ j, k = j + 1 := ⟨k - 1, by omega⟩
      have e : abL (j + 1) ++ [124] ++ [97, 124] = abL (j + 1) ++ 124 :: [97, 124] := by simp
      rw [e]
      obtain ⟨X, h1⟩ := ab_minus (n := (abL (j + 1) ++ 124 :: [97, 124]).length) j (124 :: [97, 124]) (.inr ⟨124, _, rfl, rfl, rfl⟩) (by omega)
      obtain ⟨r, s, g1, g2, g3⟩ := tail (abL (j + 1) ++ 124 :: [97, 124]).length (3 * (j + 1) + 1) ([X] ++ [rOne sa])
      exact ⟨r, s, Run.or h1 (Run.orL (signB_yes (by decide)) (by rw [sign_yes (by decide)]; exact minus_letter (.inr ⟨124, _, rfl, rfl, rfl⟩) (by omega)) g1), g2, g3⟩
  have := rdEnd_bad (by omega) (by decide) key
  rw [hlen] at this
  exact this
theorem ahead_2 {k : Nat} (hk : k ≤ 15) : (rdEnd (aheadL k ++ [97, 41])).err = 2 ∧ (rdEnd (aheadL k ++ [97, 41])).wh = (aheadL k).length + 1 := by
  have hlen : (aheadL k ++ [97, 41]).length = (aheadL k).length + 2 := List.length_append
  have hal : (aheadL k).length ≤ 46 := by
    unfold aheadL; split
    · simp
    · simp [abL_len]; omega
  have key : ∃ r c, Run (aheadL k ++ [97, 41]).length .or (St.init (aheadL k ++ [97, 41])) (r, ⟨[41], 0, c, 0, 0⟩) := by
    unfold aheadL St.init
    split
    · exact ⟨_, _, Run.or (minus_letter (rest := [41]) (.inr ⟨41, _, rfl, rfl, rfl⟩) (by decide)) (orL_end (.inr ⟨41, _, rfl, rfl, rfl⟩))⟩
    · rename_i hk0
      obtain ⟨j, rfl⟩ : ∃ j, k = j + 1 := ⟨k - 1, by omega⟩
      have e : abL (j + 1) ++ [124] ++ [97, 41] = abL (j + 1) ++ 124 :: [97, 41] := by simp
      rw [e]
      obtain ⟨X, h1⟩ := ab_minus (n := (abL (j + 1) ++ 124 :: [97, 41]).length) j (124 :: [97, 41]) (.inr ⟨124, _, rfl, rfl, rfl⟩) (by omega)
      exact ⟨_, _, Run.or h1 (Run.orL (signB_yes (by decide)) (by rw [sign_yes (by decide)]; exact minus_letter (.inr ⟨41, _, rfl, rfl, rfl⟩) (by omega)) (orL_end (.inr ⟨41, _, rfl, rfl, rfl⟩)))⟩
  obtain ⟨r, c, h⟩ := key
  have hq := readQ_run (by omega) h
  unfold rdEnd
  rw [hq]
  have hs : St.skip ⟨[41], 0, c, 0, 0⟩ = ⟨[41], 0, c, 0, 0⟩ := rfl
  simp only [hs, List.isEmpty_cons, Bool.false_eq_true, if_false]
  rw [if_neg (fun h => absurd (show (2 : Nat) = 0 from h.1) (by decide))]
  refine ⟨rfl, ?_⟩
  show (aheadL k ++ [97, 41]).length - 1 = _
  omega
/-- All sixteen. -/
theorem err_all (i k : Nat) (hi : i < 16) (hk : k ≤ 15) : (rdEnd (aheadL k ++ (errT.getD i ([], 0)).1)).err = 2 ∧ (rdEnd (aheadL k ++ (errT.getD i ([], 0)).1)).wh = (aheadL k).length + (errT.getD i ([], 0)).2 := by
  match i, hi with
  | 0, _ => exact ahead_fails (t := [40]) (p := 0) hk (by decide) (fun n c hc => by rw [Nat.sub_zero]; exact err_0) (by decide)
  | 1, _ => exact ahead_fails (t := [40, 97]) (p := 0) hk (by decide) (fun n c hc => by rw [Nat.sub_zero]; exact err_1 (by omega)) (by decide)
  | 2, _ => exact ahead_2 hk
  | 3, _ => exact ahead_fails (t := [91, 97]) (p := 0) hk (by decide) (fun n c hc => by rw [Nat.sub_zero]; exact err_3) (by decide)
  | 4, _ => exact ahead_fails (t := [91, 98, 45, 97, 93]) (p := 1) hk (by decide) (fun n c hc => err_4) (by decide)
  | 5, _ => exact ahead_fails (t := [92, 113]) (p := 2) hk (by decide) (fun n c hc => err_5) (by decide)
  | 6, _ => exact ahead_fails (t := [92, 120, 49, 103]) (p := 4) hk (by decide) (fun n c hc => err_6) (by decide)
  | 7, _ => exact ahead_fails (t := [124]) (p := 1) hk (by decide) (fun n c hc => err_7) (by decide)
  | 8, _ => exact ahead_8 hk
  | 9, _ => exact ahead_fails (t := [97, 38, 42]) (p := 1) hk (by decide) (fun n c hc => err_9 (by omega)) (by decide)
  | 10, _ => exact ahead_fails (t := [40, 45, 97, 41]) (p := 3) hk (by decide) (fun n c hc => err_10) (by decide)
  | 11, _ => exact ahead_fails (t := [1]) (p := 1) hk (by decide) (fun n c hc => err_11) (by decide)
  | 12, _ => exact ahead_fails (t := [97, 93]) (p := 1) hk (by decide) (fun n c hc => err_12 (by omega)) (by decide)
  | 13, _ => exact ahead_fails (t := [92]) (p := 1) hk (by decide) (fun n c hc => err_13) (by decide)
  | 14, _ => exact ahead_fails (t := [91, 97, 45, 93]) (p := 1) hk (by decide) (fun n c hc => err_14) (by decide)
  | 15, _ => exact ahead_fails (t := [91, 40, 93]) (p := 2) hk (by decide) (fun n c hc => err_15) (by decide)
  | i + 16, hi => omega
theorem aheadL_len {k : Nat} (hk : k ≤ 15) : (aheadL k).length ≤ 46 := by
  unfold aheadL; split
  · simp
  · simp [abL_len]; omega
end Go.Proofs.YtdbdjjjmomociaaGreatDoor
/- As deep as may be, and deeper; as many as may be, and more: what the reader's run comes to. -/
namespace Go.Proofs.YtdbdjjjmomociaaGreatDoor
set_option maxRecDepth 100000
set_option linter.unusedSimpArgs false
set_option linter.unusedVariables false
open Go.RowKit Go.Shelf St

/-- The letter a in so many parentheses. -/
def parL : Nat → List Nat
  | 0 => [97]
  | k + 1 => [40] ++ parL k ++ [41]
theorem parL_len (k : Nat) : (parL k).length = 2 * k + 1 := by
  induction k with
  | zero => rfl
  | succ k ih => simp [parL, ih]; omega
theorem parL_hd (k : Nat) : HeadOk (parL k) := by
  cases k with
  | zero => exact ⟨97, [], rfl, rfl, rfl⟩
  | succ k => exact ⟨40, _, rfl, rfl, rfl⟩
theorem par_rd (n : Nat) : ∀ k, Rds n 5 (parL k) (rOne sa) (k + 1) k
  | 0 => letter_rd n 97 b97 (by decide)
  | k + 1 => by
    have h4 := (par_rd n k).down4
    have h3 := h4.down3 (then_one1 sa_ne)
    have h2 := h3.down2 (both_one1 sa_ne)
    exact (h2.down1.down0 (any_one1 sa_ne)).paren (parL_hd k)
/-- The state at the end of a text that was read. -/
theorem rdEnd_ok {l : List Nat} {r : RE} {d c : Nat} (h : readQ l = (r, ⟨[], d, c, 0, 0⟩)) : (rdEnd l).err = if 1000 < r.size then 3 else 0 := by
  unfold rdEnd
  rw [h]
  show (if _ ∧ 1000 < r.size then _ else _ : St).err = _
  by_cases hs : 1000 < r.size
  · rw [if_pos ⟨rfl, hs⟩, if_pos hs]; rfl
  · rw [if_neg (fun h => hs h.2), if_neg hs]; rfl
theorem par_ok {k : Nat} (hk : k ≤ 60) : ∃ st, readQ (parL k) = (rOne sa, st) ∧ (rdEnd (parL k)).err = 0 := by
  have h4 := (par_rd (parL k).length k).down4
  have h3 := h4.down3 (then_one1 sa_ne)
  have h2 := h3.down2 (both_one1 sa_ne)
  have h := h2.down1.down0 (any_one1 sa_ne) [] 0 0 (.inl rfl) (by omega) (by omega)
  rw [List.append_nil] at h
  have hq : readQ (parL k) = _ := readQ_run (by rw [parL_len]; omega) h
  refine ⟨_, hq, ?_⟩
  rw [rdEnd_ok hq, if_neg (by rw [size_min, cnt_one]; omega)]
/-- Behind an error nothing is left. -/
theorem fails_nil {n e p d c : Nat} (h0 : e ≠ 0) : Fails n .atom ⟨[], d, c, e, p⟩ e p := by
  have h := Run.byte (n := n) (st := ⟨[], d, c, e, p⟩) (sign_nil rfl 40).1 (by rw [(sign_nil rfl 40).2]; exact (sign_nil rfl 91).1) (by rw [(sign_nil rfl 40).2, (sign_nil rfl 91).2]; exact (sign_nil rfl 46).1)
  rw [(sign_nil (s := ⟨[], d, c, e, p⟩) rfl 40).2, (sign_nil (s := ⟨[], d, c, e, p⟩) rfl 91).2, (sign_nil (s := ⟨[], d, c, e, p⟩) rfl 46).2] at h
  have hb : St.byte n ⟨[], d, c, e, p⟩ = ⟨[], d, c, e, p⟩ := by
    unfold St.byte
    rw [if_pos (show (scanN ([] : List Nat)).2 = 0 from rfl)]
    unfold St.fail
    simp [h0]
  rw [hb] at h
  obtain ⟨q1, q2, q3⟩ := counted_bad (n := n) (s := ⟨[], d, c, e, p⟩) rfl h0
  exact ⟨_, _, h, q1, q2, q3⟩
theorem par_fail (n : Nat) : ∀ (k d c : Nat) (rest : List Nat), d ≤ 60 → 60 < d + k → (parL k ++ rest).length ≤ n → Fails n .atom ⟨parL k ++ rest, d, c, 0, 0⟩ 4 (n - (parL k ++ rest).length + (60 - d))
  | 0, d, c, rest, hd, hk, _ => by omega
  | k + 1, d, c, rest, hd, hk, hl => by
    have e : parL (k + 1) ++ rest = 40 :: (parL k ++ 41 :: rest) := by simp [parL]
    have hlen : (40 :: (parL k ++ 41 :: rest)).length = (parL k ++ 41 :: rest).length + 1 := rfl
    rw [e] at hl ⊢
    obtain ⟨b, u, hb, hw, hn⟩ := (parL_hd k).append (41 :: rest)
    have hb41 : b ≠ 41 := by rintro rfl; simp at hn
    by_cases h60 : d = 60
    · subst h60
      refine Fails.paren (by decide) (signB_yes (by decide)) ?_
      rw [sign_yes (by decide)]
      have hdp : St.deeper n ⟨parL k ++ 41 :: rest, 60, c, 0, 0⟩ = ⟨[], 61, c, 4, n - (parL k ++ 41 :: rest).length - 1⟩ := rfl
      have hp : n - (40 :: (parL k ++ 41 :: rest)).length + (60 - 60) = n - (parL k ++ 41 :: rest).length - 1 := by rw [hlen]; omega
      rw [hp]
      refine Fails.group (by decide) ?_ ?_
      · rw [hdp]; rfl
      · rw [hdp]; exact (fails_nil (e := 4) (by decide)).toMinus.or
    · have ih := par_fail n k (d + 1) c (41 :: rest) (by omega) (by omega) (by rw [hlen] at hl; omega)
      have hp : n - (40 :: (parL k ++ 41 :: rest)).length + (60 - d) = n - (parL k ++ 41 :: rest).length + (60 - (d + 1)) := by rw [hlen] at hl ⊢; omega
      rw [hp]
      refine f_paren (by decide) (by omega) ?_ ?_ ih.toMinus.or
      · rw [hb]; exact signB_no hw hb41
      · rw [hb]; exact sign_no hw hb41
theorem par_bad {k : Nat} (hk : 60 < k) (h : k ≤ 1000) : (rdEnd (parL k)).err = 4 ∧ (rdEnd (parL k)).wh = 60 := by
  have hf := par_fail (parL k).length k 0 0 [] (by omega) (by omega) (by rw [List.append_nil]; exact Nat.le_refl _)
  rw [List.append_nil, Nat.sub_self, Nat.zero_add] at hf
  exact rdEnd_bad (by rw [parL_len]; omega) (by decide) hf.toMinus.or

/-- So many letters. -/
theorem let_stop (j : Nat) {rest : List Nat} (hs : Stop 3 rest) : Stop 4 (List.replicate j 97 ++ rest) := by
  cases j with
  | zero => exact hs.up
  | succ j => exact .inr ⟨97, _, rfl, rfl, rfl⟩
theorem let_loop {n : Nat} : ∀ (j : Nat) (l : List RE) (c : Nat) (rest : List Nat), Stop 3 rest → c + j ≤ 1000 → Run n (.catL l) ⟨List.replicate j 97 ++ rest, 0, c, 0, 0⟩ (rThen (l ++ List.replicate j (rOne sa)), ⟨rest, 0, c + j, 0, 0⟩)
  | 0, l, c, rest, hs, hc => by
    have := catL_end (n := n) (d := 0) (c := c) (l := l) hs
    simpa using this
  | j + 1, l, c, rest, hs, hc => by
    have ih := let_loop (n := n) j (l ++ [rOne sa]) (c + 1) rest hs (by omega)
    have e : l ++ [rOne sa] ++ List.replicate j (rOne sa) = l ++ List.replicate (j + 1) (rOne sa) := by rw [List.append_assoc]; rfl
    have e2 : c + 1 + j = c + (j + 1) := by omega
    rw [e, e2] at ih
    exact Run.catL (b := 97) (t := List.replicate j 97 ++ rest) rfl rfl (post_letter (n := n) (c := c) (d := 0) (rest := List.replicate j 97 ++ rest) (let_stop j hs) (by decide) (by omega)) ih
theorem let_then {m : Nat} (hm : 2 ≤ m) : rThen (List.replicate m (rOne sa)) = .mk 3 0#256 (List.replicate m (rOne sa)) := by
  have ho : (rOne sa).op = 2 := one_op _ sa_ne
  have hm' : ∀ x ∈ List.replicate m (rOne sa), x.op = 2 := fun x hx => by rw [List.eq_of_mem_replicate hx]; exact ho
  have hc : catL (List.replicate m (rOne sa)) = List.replicate m (rOne sa) := catL_same fun k hk => by rw [hm' k hk]; decide
  unfold rThen
  rw [if_neg (by
    simp only [List.any_eq_true, not_exists, not_and]
    intro x hx; rw [hm' x hx]; decide), hc, if_neg (by intro h; have := congrArg List.length h; simp at this; omega), rJoin_more _ _ (by simp; omega)]
theorem let_cnt (m : Nat) : cntL (List.replicate m (rOne sa)) = m := by
  induction m with
  | zero => rfl
  | succ m ih => rw [List.replicate_succ, cntL_cons, ih, cnt_one]; omega
theorem let_ok {m : Nat} (h2 : 2 ≤ m) (hm : m ≤ 1000) : (rdEnd (List.replicate m 97)).err = if m ≤ 999 then 0 else 3 := by
  have hw : Wf (RE.mk 3 0#256 (List.replicate m (rOne sa))) := by
    rw [← let_then h2]
    exact wf_then fun r hr => by rw [List.eq_of_mem_replicate hr]; exact wf_one _
  obtain ⟨j, rfl⟩ : ∃ j, m = j + 1 := ⟨m - 1, by omega⟩
  have hl := let_loop (n := (List.replicate (j + 1) 97).length) j [rOne sa] 1 [] (.inl rfl) (by omega)
  rw [List.append_nil] at hl
  have e : [rOne sa] ++ List.replicate j (rOne sa) = List.replicate (j + 1) (rOne sa) := rfl
  rw [e, let_then h2] at hl
  have h1 : Run (List.replicate (j + 1) 97).length .cat ⟨List.replicate (j + 1) 97, 0, 0, 0, 0⟩ (RE.mk 3 0#256 (List.replicate (j + 1) (rOne sa)), ⟨[], 0, 1 + j, 0, 0⟩) :=
    Run.cat (post_letter (c := 0) (d := 0) (rest := List.replicate j 97) (by have := let_stop j (rest := []) (.inl rfl); rwa [List.append_nil] at this) (by decide) (by decide)) hl
  have h3 := andL_end (n := (List.replicate (j + 1) 97).length) (d := 0) (c := 1 + j) (l := [RE.mk 3 0#256 (List.replicate (j + 1) (rOne sa))]) (rest := []) (.inl rfl)
  rw [both_w hw (by show 3 ≠ 6; decide)] at h3
  have h4 := Run.minus (Run.and h1 h3) (minusL_end (.inl rfl))
  have h5 := orL_end (n := (List.replicate (j + 1) 97).length) (d := 0) (c := 1 + j) (l := [RE.mk 3 0#256 (List.replicate (j + 1) (rOne sa))]) (rest := []) (.inl rfl)
  rw [any_w hw (by show 3 ≠ 4; decide)] at h5
  have hq := readQ_run (l := List.replicate (j + 1) 97) (by simp; omega) (Run.or h4 h5)
  rw [rdEnd_ok hq, size_min, RE.cnt_mk, let_cnt]
  by_cases h9 : j + 1 ≤ 999
  · rw [if_pos h9, if_neg (by omega)]
  · rw [if_neg h9, if_pos (by omega)]
theorem let_fail {n : Nat} : ∀ (j : Nat) (l : List RE) (c : Nat) (rest : List Nat), c ≤ 1000 → 1000 < c + j → ∃ p, Fails n (.catL l) ⟨List.replicate j 97 ++ rest, 0, c, 0, 0⟩ 3 p
  | 0, l, c, rest, hc, h => by omega
  | j + 1, l, c, rest, hc, h => by
    by_cases h1 : c = 1000
    · subst h1
      have hb := Run.byte (n := n) (st := ⟨97 :: (List.replicate j 97 ++ rest), 0, 1000, 0, 0⟩) (signB_no (by decide) (by decide)) (by rw [sign_no (by decide) (by decide)]; exact signB_no (by decide) (by decide)) (by rw [sign_no (by decide) (by decide), sign_no (by decide) (by decide)]; exact signB_no (by decide) (by decide))
      have hf : Fails n .atom ⟨97 :: (List.replicate j 97 ++ rest), 0, 1000, 0, 0⟩ 3 (n - (List.replicate j 97 ++ rest).length) := by
        refine ⟨_, _, hb, ?_⟩
        rw [sign_no (by decide) (by decide), sign_no (by decide) (by decide), sign_no (by decide) (by decide)]
        exact ⟨rfl, rfl, rfl⟩
      exact ⟨_, Fails.catL (b := 97) (t := List.replicate j 97 ++ rest) rfl rfl hf.post⟩
    · have hs : Stop 4 (List.replicate j 97 ++ rest) := by
        cases j with
        | zero => omega
        | succ j => exact .inr ⟨97, _, rfl, rfl, rfl⟩
      obtain ⟨p, r, s, g1, g2⟩ := let_fail (n := n) j (l ++ [rOne sa]) (c + 1) rest (by omega) (by omega)
      exact ⟨p, r, s, Run.catL (b := 97) (t := List.replicate j 97 ++ rest) rfl rfl (post_letter (n := n) (c := c) (d := 0) (rest := List.replicate j 97 ++ rest) hs (by decide) (by omega)) g1, g2⟩
theorem let_bad {m : Nat} (hm : 1000 < m) (h : m ≤ 2000) : (rdEnd (List.replicate m 97)).err = 3 := by
  obtain ⟨j, rfl⟩ : ∃ j, m = j + 1 := ⟨m - 1, by omega⟩
  obtain ⟨p, r, s, g1, g2⟩ := let_fail (n := (List.replicate (j + 1) 97).length) j [rOne sa] 1 [] (by omega) (by omega)
  rw [List.append_nil] at g1
  have hf : Fails (List.replicate (j + 1) 97).length .cat (St.init (List.replicate (j + 1) 97)) 3 p := by
    obtain ⟨i, rfl⟩ : ∃ i, j = i + 1 := ⟨j - 1, by omega⟩
    exact ⟨r, s, Run.cat (post_letter (c := 0) (d := 0) (rest := List.replicate (i + 1) 97) (.inr ⟨97, _, rfl, rfl, rfl⟩) (by decide) (by decide)) g1, g2⟩
  exact (rdEnd_bad (by simp; omega) (by decide) hf.and.minus.or).1
/-- As many letters as may be, and more. -/
theorem let_all {m : Nat} (h2 : 2 ≤ m) (hm : m ≤ 2000) : (rdEnd (List.replicate m 97)).err = if m ≤ 999 then 0 else 3 := by
  by_cases h : m ≤ 1000
  · exact let_ok h2 h
  · rw [let_bad (by omega) hm, if_neg (by omega)]
end Go.Proofs.YtdbdjjjmomociaaGreatDoor
/- Letters with signs between them, and no parentheses: what holds closer is put together first. -/
namespace Go.Proofs.YtdbdjjjmomociaaGreatDoor
set_option maxRecDepth 100000
set_option linter.unusedSimpArgs false
set_option linter.unusedVariables false
open Go.RowKit Go.Shelf St

def lvL (i : Nat) : RE := rOne (setOf [97 + i])
def lvS (o : Nat) : List Nat := if o = 0 then [124] else if o = 1 then [45] else if o = 2 then [38] else []
/-- The text from letter i on. -/
def lvT : Nat → List Nat → List Nat
  | _, [] => []
  | i, o :: os => lvS o ++ (97 + i) :: lvT (i + 1) os
/-- One taken away from what is left, from the left on. -/
def butF : List RE → RE
  | [] => rNothing
  | x :: l => l.foldl rBut x
theorem butF_snoc {l : List RE} (h : l ≠ []) (y : RE) : butF (l ++ [y]) = rBut (butF l) y := by
  cases l with
  | nil => exact absurd rfl h
  | cons x l => simp [butF]
/-- What they are put together to. -/
def lvF : Nat → List Nat → List RE → List RE → List RE → List RE → RE
  | _, [], or, mi, an, ca => rAny (or ++ [butF (mi ++ [rBoth (an ++ [rThen ca])])])
  | i, o :: os, or, mi, an, ca =>
    if o = 0 then lvF (i + 1) os (or ++ [butF (mi ++ [rBoth (an ++ [rThen ca])])]) [] [] [lvL i]
    else if o = 1 then lvF (i + 1) os or (mi ++ [rBoth (an ++ [rThen ca])]) [] [lvL i]
    else if o = 2 then lvF (i + 1) os or mi (an ++ [rThen ca]) [lvL i]
    else lvF (i + 1) os or mi an (ca ++ [lvL i])
theorem lv_let : ∀ i < 26, byteW (97 + i) = [97 + i] ∧ isWs (97 + i) = false ∧ [124, 45, 38, 41].contains (97 + i) = false ∧ stopB 4 (97 + i) = true ∧ setOf [97 + i] ≠ 0#256 := by decide +kernel
theorem lvT_stop (i : Nat) (os : List Nat) (hi : i + os.length ≤ 20) : Stop 4 (lvT i os) := by
  cases os with
  | nil => exact .inl rfl
  | cons o os =>
    obtain ⟨-, h2, -, h4, -⟩ := lv_let i (by simp at hi; omega)
    unfold lvT lvS
    split
    · exact .inr ⟨124, _, rfl, rfl, rfl⟩
    split
    · exact .inr ⟨45, _, rfl, rfl, rfl⟩
    split
    · exact .inr ⟨38, _, rfl, rfl, rfl⟩
    · exact .inr ⟨97 + i, _, rfl, h2, h4⟩
theorem lv_post {n i c : Nat} {os : List Nat} (hi : i + 1 + os.length ≤ 20) (hc : c + 1 ≤ 1000) : Run n .post ⟨(97 + i) :: lvT (i + 1) os, 0, c, 0, 0⟩ (lvL i, ⟨lvT (i + 1) os, 0, c + 1, 0, 0⟩) := by
  obtain ⟨h1, -⟩ := lv_let i (by omega)
  exact (letter_rd n (97 + i) h1 (by omega)).down4 (lvT (i + 1) os) 0 c (lvT_stop _ _ hi) (by omega) (by omega)
theorem lv_chain {n : Nat} : ∀ (os : List Nat) (i c : Nat) (or mi an ca : List RE), i + os.length ≤ 20 → c + os.length ≤ 1000 →
    ∃ c' s1 a' s2 m' s3, Run n (.catL ca) ⟨lvT i os, 0, c, 0, 0⟩ (c', s1) ∧ Run n (.andL (an ++ [c'])) s1 (a', s2) ∧ Run n (.minusL (butF (mi ++ [a']))) s2 (m', s3) ∧ Run n (.orL (or ++ [m'])) s3 (lvF i os or mi an ca, ⟨[], 0, c + os.length, 0, 0⟩)
  | [], i, c, or, mi, an, ca, _, _ => ⟨_, _, _, _, _, _, catL_end (.inl rfl), andL_end (.inl rfl), minusL_end (.inl rfl), orL_end (.inl rfl)⟩
  | o :: os, i, c, or, mi, an, ca, hi, hc => by
    simp only [List.length_cons] at hi hc ⊢
    obtain ⟨l1, l2, l3, l4, -⟩ := lv_let i (by omega)
    have hp := lv_post (n := n) (i := i) (c := c) (os := os) (by omega) (by omega)
    have e : c + (os.length + 1) = c + 1 + os.length := by omega
    rw [e]
    unfold lvT lvF lvS
    by_cases h0 : o = 0
    · rw [if_pos h0, if_pos h0]
      obtain ⟨c', s1, a', s2, m', s3, q1, q2, q3, q4⟩ := lv_chain (n := n) os (i + 1) (c + 1) (or ++ [butF (mi ++ [rBoth (an ++ [rThen ca])])]) [] [] [lvL i] (by omega) (by omega)
      have hst : Stop 1 ([124] ++ (97 + i) :: lvT (i + 1) os) := .inr ⟨124, _, rfl, rfl, rfl⟩
      refine ⟨_, _, _, _, _, _, catL_end hst.up.up, andL_end hst.up, minusL_end hst, ?_⟩
      exact Run.orL (signB_yes (by decide)) (by
        show Run n .minus (St.sign 124 ⟨124 :: ((97 + i) :: lvT (i + 1) os), 0, c, 0, 0⟩) (m', s3)
        rw [sign_yes (by decide)]
        exact Run.minus (Run.and (Run.cat hp q1) q2) q3) q4
    by_cases h1 : o = 1
    · rw [if_neg h0, if_neg h0, if_pos h1, if_pos h1]
      obtain ⟨c', s1, a', s2, m', s3, q1, q2, q3, q4⟩ := lv_chain (n := n) os (i + 1) (c + 1) or (mi ++ [rBoth (an ++ [rThen ca])]) [] [lvL i] (by omega) (by omega)
      have hst : Stop 2 ([45] ++ (97 + i) :: lvT (i + 1) os) := .inr ⟨45, _, rfl, rfl, rfl⟩
      refine ⟨_, _, _, _, _, _, catL_end hst.up, andL_end hst, ?_, q4⟩
      rw [butF_snoc (by simp)] at q3
      exact Run.minusL (signB_yes (by decide)) (by
        show Run n .and (St.sign 45 ⟨45 :: ((97 + i) :: lvT (i + 1) os), 0, c, 0, 0⟩) (a', s2)
        rw [sign_yes (by decide)]
        exact Run.and (Run.cat hp q1) q2) q3
    by_cases h2 : o = 2
    · rw [if_neg h0, if_neg h0, if_neg h1, if_neg h1, if_pos h2, if_pos h2]
      obtain ⟨c', s1, a', s2, m', s3, q1, q2, q3, q4⟩ := lv_chain (n := n) os (i + 1) (c + 1) or mi (an ++ [rThen ca]) [lvL i] (by omega) (by omega)
      have hst : Stop 3 ([38] ++ (97 + i) :: lvT (i + 1) os) := .inr ⟨38, _, rfl, rfl, rfl⟩
      refine ⟨_, _, _, _, _, _, catL_end hst, ?_, q3, q4⟩
      exact Run.andL (signB_yes (by decide)) (by
        show Run n .cat (St.sign 38 ⟨38 :: ((97 + i) :: lvT (i + 1) os), 0, c, 0, 0⟩) (c', s1)
        rw [sign_yes (by decide)]
        exact Run.cat hp q1) q2
    · rw [if_neg h0, if_neg h0, if_neg h1, if_neg h1, if_neg h2, if_neg h2]
      obtain ⟨c', s1, a', s2, m', s3, q1, q2, q3, q4⟩ := lv_chain (n := n) os (i + 1) (c + 1) or mi an (ca ++ [lvL i]) (by omega) (by omega)
      refine ⟨_, _, _, _, _, _, ?_, q2, q3, q4⟩
      have hsk : St.skip ⟨[] ++ (97 + i) :: lvT (i + 1) os, 0, c, 0, 0⟩ = ⟨(97 + i) :: lvT (i + 1) os, 0, c, 0, 0⟩ := skip_no l2
      exact Run.catL (b := 97 + i) (t := lvT (i + 1) os) (by rw [hsk]) l3 (by rw [hsk]; exact hp) q1
theorem cnt_butF (l : List RE) (h : l ≠ []) : (butF l).cnt ≤ cntL l + l.length := by
  cases l with
  | nil => exact absurd rfl h
  | cons x l =>
    have key : ∀ (l : List RE) (x : RE), (l.foldl rBut x).cnt ≤ x.cnt + cntL l + l.length := fun l => by
      induction l with
      | nil => intro x; simp [cntL]
      | cons y l ih =>
        intro x
        have h1 := ih (rBut x y)
        have h2 := cnt_but x y
        rw [List.foldl_cons, cntL_cons, List.length_cons]
        omega
    have := key l x
    rw [cntL_cons, List.length_cons]
    show (l.foldl rBut x).cnt ≤ _
    omega
theorem lvL_cnt (i : Nat) : (lvL i).cnt = 1 := cnt_one _
theorem cntL_one (x : RE) : cntL [x] = x.cnt := by rw [cntL_cons]; rfl
theorem lvF_cnt : ∀ (os : List Nat) (i : Nat) (or mi an ca : List RE), (lvF i os or mi an ca).cnt ≤ 10 + 2 * mi.length + cntL or + cntL mi + cntL an + cntL ca + 8 * os.length
  | os, i, or, mi, an, ca => by
    have h1 := cnt_then ca
    have h2 := cnt_both (an ++ [rThen ca])
    have h3 := cnt_butF (mi ++ [rBoth (an ++ [rThen ca])]) (by simp)
    have h4 := cnt_any (or ++ [butF (mi ++ [rBoth (an ++ [rThen ca])])])
    have hl := lvL_cnt i
    rw [cntL_append, cntL_one] at h2 h3 h4
    rw [List.length_append, List.length_singleton] at h3
    cases os with
    | nil =>
      unfold lvF
      omega
    | cons o os =>
      unfold lvF
      rw [List.length_cons]
      split
      · have := lvF_cnt os (i + 1) (or ++ [butF (mi ++ [rBoth (an ++ [rThen ca])])]) [] [] [lvL i]
        rw [cntL_append, cntL_one, cntL_one] at this
        have e : cntL [] = 0 := rfl
        have e2 : ([] : List RE).length = 0 := rfl
        omega
      split
      · have := lvF_cnt os (i + 1) or (mi ++ [rBoth (an ++ [rThen ca])]) [] [lvL i]
        rw [cntL_append, cntL_one, cntL_one, List.length_append, List.length_singleton] at this
        have e : cntL [] = 0 := rfl
        omega
      split
      · have := lvF_cnt os (i + 1) or mi (an ++ [rThen ca]) [lvL i]
        rw [cntL_append, cntL_one, cntL_one] at this
        omega
      · have := lvF_cnt os (i + 1) or mi an (ca ++ [lvL i])
        rw [cntL_append, cntL_one] at this
        omega
theorem lvT_len : ∀ (os : List Nat) (i : Nat), (lvT i os).length ≤ 2 * os.length
  | [], i => Nat.le_refl _
  | o :: os, i => by
    have := lvT_len os (i + 1)
    have h : (lvS o).length ≤ 1 := by unfold lvS; repeat' split
                                      all_goals simp
    unfold lvT
    rw [List.length_append, List.length_cons, List.length_cons]
    omega
/-- The whole text is read so. -/
theorem lv_read (os : List Nat) (h : os.length ≤ 12) : (∃ st, readQ (97 :: lvT 1 os) = (lvF 1 os [] [] [] [lvL 0], st)) ∧ (rdEnd (97 :: lvT 1 os)).err = 0 := by
  have hl := lvT_len os 1
  obtain ⟨c', s1, a', s2, m', s3, q1, q2, q3, q4⟩ := lv_chain (n := (97 :: lvT 1 os).length) os 1 1 [] [] [] [lvL 0] (by omega) (by omega)
  have hp := lv_post (n := (97 :: lvT 1 os).length) (i := 0) (c := 0) (os := os) (by omega) (by omega)
  have hr := Run.or (Run.minus (Run.and (Run.cat hp q1) q2) q3) q4
  have hq : readQ (97 :: lvT 1 os) = _ := readQ_run (by rw [List.length_cons]; omega) hr
  refine ⟨⟨_, hq⟩, ?_⟩
  have hc := lvF_cnt os 1 [] [] [] [lvL 0]
  rw [cntL_one, lvL_cnt] at hc
  have e : cntL [] = 0 := rfl
  have e2 : ([] : List RE).length = 0 := rfl
  rw [rdEnd_ok hq, if_neg (by rw [size_min]; omega)]
end Go.Proofs.YtdbdjjjmomociaaGreatDoor
/- Pieces as they are written by the grammar, with gaps: what the reader makes of them. -/
namespace Go.Proofs.YtdbdjjjmomociaaGreatDoor
set_option maxRecDepth 100000
set_option linter.unusedSimpArgs false
set_option linter.unusedVariables false
open Go.RowKit Go.Shelf St

theorem then_g {r : RE} (h : Wf r) : rThen [r] = r := by
  by_cases h3 : r.op = 3
  · have hs := h.shp.cat h3
    have hc : catL [r] = r.kids := by simp [catL, catK, h3]
    have hk : catL r.kids = r.kids := catL_same fun k hk => ⟨(hs.2 k hk).2.1, (hs.2 k hk).2.2⟩
    unfold rThen
    rw [if_neg (by simp [h3]), hc, if_neg (by intro e; rw [e] at hs; simp at hs), rJoin_more _ _ (by omega)]
    conv => rhs; rw [r.eta]
    rw [h3, h.shp.set (by omega)]
  · exact then_w h h3
theorem any_g {r : RE} (h : Wf r) : rAny [r] = r := by
  by_cases h4 : r.op = 4
  · have hs := h.shp.or (.inl h4)
    rw [h4] at hs
    have hf : flatL 4 [r] = flatL 4 r.kids := by rw [flatL_same (fun k hk => (hs.2.1 k hk).2)]; simp [flatL, h4]
    have := any_same h h4
    unfold rAny at this ⊢
    rw [hf]; exact this
  · exact any_w h h4
theorem both_g {r : RE} (h : Wf r) : rBoth [r] = r := by
  by_cases h6 : r.op = 6
  · have hs := h.shp.or (.inr h6)
    rw [h6] at hs
    have hf : flatL 6 [r] = flatL 6 r.kids := by rw [flatL_same (fun k hk => (hs.2.1 k hk).2)]; simp [flatL, h6]
    have := both_same h h6
    unfold rBoth at this ⊢
    rw [hf]; exact this
  · exact both_w h h6

/-- What is left without the gap ahead. -/
def dw (l : List Nat) : List Nat := l.dropWhile isWs
theorem dw_dw (l : List Nat) : dw (dw l) = dw l := by
  induction l with
  | nil => rfl
  | cons b l ih =>
    by_cases h : isWs b
    · have e : dw (b :: l) = dw l := by simp [dw, List.dropWhile, h]
      rw [e]; exact ih
    · have e : dw (b :: l) = b :: l := by simp [dw, List.dropWhile, h]
      rw [e, e]
theorem dw_no {b : Nat} {l : List Nat} (h : isWs b = false) : dw (b :: l) = b :: l := by simp [dw, List.dropWhile, h]
theorem skip_dw (l : List Nat) (d c e w : Nat) : St.skip ⟨l, d, c, e, w⟩ = ⟨dw l, d, c, e, w⟩ := rfl
theorem skip_skip (st : St) : st.skip.skip = st.skip := by
  cases st with
  | mk r d c e w => rw [skip_dw, skip_dw, dw_dw]
theorem signB_skip (st : St) (b : Nat) : st.skip.signB b = st.signB b := by unfold St.signB; rw [skip_skip]
theorem sign_skip (st : St) (b : Nat) : st.skip.sign b = st.sign b := by unfold St.sign; rw [skip_skip]
section
variable {n : Nat} {st : St}
theorem P_skip_atom (f : Nat) : P n f .atom st.skip = P n f .atom st := by
  cases f with
  | zero => rfl
  | succ f => rw [P, P, signB_skip, sign_skip]
theorem P_skip_post (f : Nat) : P n f .post st.skip = P n f .post st := by
  cases f with
  | zero => rfl
  | succ f => rw [P, P, P_skip_atom]
theorem P_skip_cat (f : Nat) : P n f .cat st.skip = P n f .cat st := by
  cases f with
  | zero => rfl
  | succ f => rw [P, P, P_skip_post]
theorem P_skip_and (f : Nat) : P n f .and st.skip = P n f .and st := by
  cases f with
  | zero => rfl
  | succ f => rw [P, P, P_skip_cat]
theorem P_skip_minus (f : Nat) : P n f .minus st.skip = P n f .minus st := by
  cases f with
  | zero => rfl
  | succ f => rw [P, P, P_skip_and]
theorem P_skip_or (f : Nat) : P n f .or st.skip = P n f .or st := by
  cases f with
  | zero => rfl
  | succ f => rw [P, P, P_skip_minus]
theorem P_skip_postL {r : RE} (f : Nat) : P n f (.postL r) st.skip = P n f (.postL r) st := by
  cases f with
  | zero => rfl
  | succ f => rw [P, P, signB_skip, sign_skip]
theorem Run.sk {k : Nat} {q : RE × St} (h : Run n (modeL k) st.skip q) : Run n (modeL k) st q := by
  obtain ⟨f, h⟩ := h
  refine ⟨f, ?_⟩
  match k, h with
  | 0, h => rw [← h]; exact (P_skip_or f).symm
  | 1, h => rw [← h]; exact (P_skip_minus f).symm
  | 2, h => rw [← h]; exact (P_skip_and f).symm
  | 3, h => rw [← h]; exact (P_skip_cat f).symm
  | 4, h => rw [← h]; exact (P_skip_post f).symm
  | k + 5, h => rw [← h]; exact (P_skip_atom f).symm
theorem Fails.sk {k e p : Nat} (h : Fails n (modeL k) st.skip e p) : Fails n (modeL k) st e p := by
  obtain ⟨r, s, h1, h2⟩ := h
  exact ⟨r, s, h1.sk, h2⟩
theorem postL_sk {r : RE} {q : RE × St} (h : Run n (.postL r) st.skip q) : Run n (.postL r) st q := by
  obtain ⟨f, h⟩ := h
  exact ⟨f, by rw [← h]; exact (P_skip_postL f).symm⟩
end

/-- A text with a gap ahead is read so, at a level; or too many parts are told. -/
def Pk (n k : Nat) (t : List Nat) (x : RE) (cost pd : Nat) : Prop :=
  ∀ rest d c, Stop k (dw rest) → d + pd ≤ 60 → c + cost ≤ 1000 →
    Run n (modeL k) ⟨t ++ rest, d, c, 0, 0⟩ (x, ⟨dw rest, d, c + cost, 0, 0⟩) ∨ ∃ p, Fails n (modeL k) ⟨t ++ rest, d, c, 0, 0⟩ 3 p
/-- How a piece begins, behind its gap. -/
def HdW (t : List Nat) : Prop := ∀ rest, ∃ b u, dw (t ++ rest) = b :: u ∧ isWs b = false ∧ [124, 45, 38, 41, 42, 43, 63].contains b = false
section
variable {n : Nat} {t : List Nat} {x : RE} {cost pd : Nat}
theorem Pk.d3 (h : Pk n 4 t x cost pd) (hw : Wf x) : Pk n 3 t x cost pd := fun rest d c hs hd hc => by
  rcases h rest d c hs.up hd hc with h | ⟨p, h⟩
  · left
    have := catL_end (n := n) (d := d) (c := c + cost) (l := [x]) hs
    rw [then_g hw] at this
    exact Run.cat h this
  · exact .inr ⟨p, Fails.cat h⟩
theorem Pk.d2 (h : Pk n 3 t x cost pd) (hw : Wf x) : Pk n 2 t x cost pd := fun rest d c hs hd hc => by
  rcases h rest d c hs.up hd hc with h | ⟨p, h⟩
  · left
    have := andL_end (n := n) (d := d) (c := c + cost) (l := [x]) hs
    rw [both_g hw] at this
    exact Run.and h this
  · exact .inr ⟨p, Fails.and h⟩
theorem Pk.d1 (h : Pk n 2 t x cost pd) : Pk n 1 t x cost pd := fun rest d c hs hd hc => by
  rcases h rest d c hs.up hd hc with h | ⟨p, h⟩
  · exact .inl (Run.minus h (minusL_end hs))
  · exact .inr ⟨p, Fails.minus h⟩
theorem Pk.d0 (h : Pk n 1 t x cost pd) (hw : Wf x) : Pk n 0 t x cost pd := fun rest d c hs hd hc => by
  rcases h rest d c hs.up hd hc with h | ⟨p, h⟩
  · left
    have := orL_end (n := n) (d := d) (c := c + cost) (l := [x]) hs
    rw [any_g hw] at this
    exact Run.or h this
  · exact .inr ⟨p, Fails.or h⟩
end
section
variable {n : Nat} {a b g : List Nat} {x y : RE} {ca cb pa pb : Nat}
theorem dw_gap (hg : ∀ z ∈ g, isWs z = true) (l : List Nat) : dw (g ++ l) = dw l := by
  induction g with
  | nil => rfl
  | cons z g ih =>
    have h := hg z (by simp)
    have : dw (z :: (g ++ l)) = dw (g ++ l) := by simp [dw, List.dropWhile, h]
    rw [List.cons_append, this]
    exact ih fun z hz => hg z (by simp [hz])
/-- One of both. -/
theorem in_or (ha : Pk n 4 a x ca pa) (hb : Pk n 4 b y cb pb) (hx : Wf x) (hy : Wf y) (hg : ∀ z ∈ g, isWs z = true) : Pk n 0 (a ++ (g ++ 124 :: b)) (rAny [x, y]) (ca + cb) (max pa pb) := fun rest d c hs hd hc => by
  have e : a ++ (g ++ 124 :: b) ++ rest = a ++ (g ++ 124 :: (b ++ rest)) := by simp
  have e1 : dw (g ++ 124 :: (b ++ rest)) = 124 :: (b ++ rest) := by rw [dw_gap hg, dw_no (by decide)]
  rw [e]
  have h1 := ((ha.d3 hx).d2 hx).d1 (g ++ 124 :: (b ++ rest)) d c (by rw [e1]; exact .inr ⟨124, _, rfl, rfl, rfl⟩) (by omega) (by omega)
  have h2 := ((hb.d3 hy).d2 hy).d1 rest d (c + ca) hs.up (by omega) (by omega)
  rw [e1] at h1
  rcases h1 with h1 | ⟨p, h1⟩
  · rcases h2 with h2 | ⟨p, h2⟩
    · left
      have h3 := orL_end (n := n) (d := d) (c := c + ca + cb) (l := [x] ++ [y]) hs
      have := Run.or h1 (Run.orL (signB_yes (by decide)) (by rw [sign_yes (by decide)]; exact h2) h3)
      rw [Nat.add_assoc] at this
      exact this
    · right
      obtain ⟨r, s, g1, g2⟩ := Fails.orL (l := [x]) (st := ⟨124 :: (b ++ rest), d, c + ca, 0, 0⟩) (signB_yes (by decide)) (by rw [sign_yes (by decide)]; exact h2)
      exact ⟨p, r, s, Run.or h1 g1, g2⟩
  · exact .inr ⟨p, Fails.or h1⟩
/-- One without the other. -/
theorem Fails.minusL {e p : Nat} {st : St} {r : RE} (hb : st.signB 45 = true) (h : Fails n .and (st.sign 45) e p) : Fails n (.minusL r) st e p := by
  obtain ⟨z, s, h1, h2, h3⟩ := h
  exact ⟨_, _, Run.minusL hb h1 (minusL_nil h2), h2, h3⟩
theorem in_minus (ha : Pk n 4 a x ca pa) (hb : Pk n 4 b y cb pb) (hx : Wf x) (hy : Wf y) (hg : ∀ z ∈ g, isWs z = true) : Pk n 0 (a ++ 45 :: (b ++ g)) (rBut x y) (ca + cb) (max pa pb) := fun rest d c hs hd hc => by
  have e : a ++ 45 :: (b ++ g) ++ rest = a ++ 45 :: (b ++ (g ++ rest)) := by simp
  have e1 : dw (45 :: (b ++ (g ++ rest))) = 45 :: (b ++ (g ++ rest)) := dw_no (by decide)
  have e2 : dw (g ++ rest) = dw rest := dw_gap hg rest
  rw [e]
  have h1 := ((ha.d3 hx).d2 hx) (45 :: (b ++ (g ++ rest))) d c (by rw [e1]; exact .inr ⟨45, _, rfl, rfl, rfl⟩) (by omega) (by omega)
  have h2 := ((hb.d3 hy).d2 hy) (g ++ rest) d (c + ca) (by rw [e2]; exact hs.up.up) (by omega) (by omega)
  rw [e1] at h1
  rw [e2] at h2
  rcases h1 with h1 | ⟨p, h1⟩
  · rcases h2 with h2 | ⟨p, h2⟩
    · left
      have h3 := orL_end (n := n) (d := d) (c := c + ca + cb) (l := [rBut x y]) hs
      rw [any_g (wf_but hx hy)] at h3
      have := Run.or (Run.minus h1 (Run.minusL (signB_yes (by decide)) (by rw [sign_yes (by decide)]; exact h2) (minusL_end hs.up))) h3
      rw [Nat.add_assoc] at this
      exact this
    · right
      obtain ⟨r, s, g1, g2⟩ := Fails.minusL (r := x) (st := ⟨45 :: (b ++ (g ++ rest)), d, c + ca, 0, 0⟩) (signB_yes (by decide)) (by rw [sign_yes (by decide)]; exact h2)
      exact ⟨p, Fails.or ⟨r, s, Run.minus h1 g1, g2⟩⟩
  · exact .inr ⟨p, Fails.or (Fails.minus h1)⟩
/-- Both. -/
theorem in_and (ha : Pk n 4 a x ca pa) (hb : Pk n 4 b y cb pb) (hx : Wf x) (hy : Wf y) (hg : ∀ z ∈ g, isWs z = true) : Pk n 0 (a ++ (g ++ 38 :: b)) (rBoth [x, y]) (ca + cb) (max pa pb) := fun rest d c hs hd hc => by
  have e : a ++ (g ++ 38 :: b) ++ rest = a ++ (g ++ 38 :: (b ++ rest)) := by simp
  have e1 : dw (g ++ 38 :: (b ++ rest)) = 38 :: (b ++ rest) := by rw [dw_gap hg, dw_no (by decide)]
  have hw : Wf (rBoth [x, y]) := wf_both fun r hr => by simp at hr; rcases hr with rfl | rfl <;> assumption
  rw [e]
  have h1 := (ha.d3 hx) (g ++ 38 :: (b ++ rest)) d c (by rw [e1]; exact .inr ⟨38, _, rfl, rfl, rfl⟩) (by omega) (by omega)
  have h2 := (hb.d3 hy) rest d (c + ca) hs.up.up.up (by omega) (by omega)
  rw [e1] at h1
  rcases h1 with h1 | ⟨p, h1⟩
  · rcases h2 with h2 | ⟨p, h2⟩
    · left
      have h3 := orL_end (n := n) (d := d) (c := c + ca + cb) (l := [rBoth [x, y]]) hs
      rw [any_g hw] at h3
      have h4 := andL_end (n := n) (d := d) (c := c + ca + cb) (l := [x] ++ [y]) hs.up.up
      have := Run.or (Run.minus (Run.and h1 (Run.andL (signB_yes (by decide)) (by rw [sign_yes (by decide)]; exact h2) h4)) (minusL_end hs.up)) h3
      rw [Nat.add_assoc] at this
      exact this
    · right
      obtain ⟨r, s, g1, g2⟩ := Fails.andL (l := [x]) (st := ⟨38 :: (b ++ rest), d, c + ca, 0, 0⟩) (signB_yes (by decide)) (by rw [sign_yes (by decide)]; exact h2)
      exact ⟨p, Fails.or (Fails.minus ⟨r, s, Run.and h1 g1, g2⟩)⟩
  · exact .inr ⟨p, Fails.or (Fails.minus (Fails.and h1))⟩
/-- One behind the other. -/
theorem in_cat (ha : Pk n 4 a x ca pa) (hb : Pk n 4 b y cb pb) (hx : Wf x) (hy : Wf y) (hg : ∀ z ∈ g, isWs z = true) (hh : HdW b) : Pk n 0 (a ++ (b ++ g)) (rThen [x, y]) (ca + cb) (max pa pb) := fun rest d c hs hd hc => by
  have e : a ++ (b ++ g) ++ rest = a ++ (b ++ (g ++ rest)) := by simp
  have e2 : dw (g ++ rest) = dw rest := dw_gap hg rest
  have hw : Wf (rThen [x, y]) := wf_then fun r hr => by simp at hr; rcases hr with rfl | rfl <;> assumption
  obtain ⟨b0, u, hb0, hb1, hb2⟩ := hh (g ++ rest)
  rw [e]
  have h1 := ha (b ++ (g ++ rest)) d c (by rw [hb0]; refine .inr ⟨b0, u, rfl, hb1, ?_⟩; simp at hb2; simp [stopB, hb2]) (by omega) (by omega)
  have h2 := hb (g ++ rest) d (c + ca) (by rw [e2]; exact hs.up.up.up.up) (by omega) (by omega)
  rw [e2] at h2
  have hsk : St.skip ⟨dw (b ++ (g ++ rest)), d, c + ca, 0, 0⟩ = ⟨dw (b ++ (g ++ rest)), d, c + ca, 0, 0⟩ := by rw [skip_dw, dw_dw]
  have hc4 : [124, 45, 38, 41].contains b0 = false := by simp at hb2 ⊢; omega
  rcases h1 with h1 | ⟨p, h1⟩
  · rcases h2 with h2 | ⟨p, h2⟩
    · left
      have h3 := orL_end (n := n) (d := d) (c := c + ca + cb) (l := [rThen [x, y]]) hs
      rw [any_g hw] at h3
      have h4 := andL_end (n := n) (d := d) (c := c + ca + cb) (l := [rThen [x, y]]) hs.up.up
      rw [both_g hw] at h4
      have h2' : Run n .post (St.skip ⟨dw (b ++ (g ++ rest)), d, c + ca, 0, 0⟩) (y, ⟨dw rest, d, c + ca + cb, 0, 0⟩) := by
        obtain ⟨f, h2⟩ := h2
        refine ⟨f, ?_⟩
        rw [hsk, ← skip_dw (b ++ (g ++ rest)) d (c + ca) 0 0, P_skip_post]
        exact h2
      have h5 := Run.catL (l := [x]) (st := ⟨dw (b ++ (g ++ rest)), d, c + ca, 0, 0⟩) (b := b0) (t := u) (by rw [hsk]; exact hb0) hc4 h2' (catL_end hs.up.up.up)
      have := Run.or (Run.minus (Run.and (Run.cat h1 h5) h4) (minusL_end hs.up)) h3
      rw [Nat.add_assoc] at this
      exact this
    · right
      have h2' : Fails n .post (St.skip ⟨dw (b ++ (g ++ rest)), d, c + ca, 0, 0⟩) 3 p := by
        obtain ⟨r, s, ⟨f, h2⟩, g2⟩ := h2
        refine ⟨r, s, ⟨f, ?_⟩, g2⟩
        rw [hsk, ← skip_dw (b ++ (g ++ rest)) d (c + ca) 0 0, P_skip_post]
        exact h2
      obtain ⟨r, s, g1, g2⟩ := Fails.catL (l := [x]) (st := ⟨dw (b ++ (g ++ rest)), d, c + ca, 0, 0⟩) (b := b0) (t := u) (by rw [hsk]; exact hb0) hc4 h2'
      exact ⟨p, Fails.or (Fails.minus (Fails.and ⟨r, s, Run.cat h1 g1, g2⟩))⟩
  · exact .inr ⟨p, Fails.or (Fails.minus (Fails.and (Fails.cat h1)))⟩
/-- In parentheses: an atom, with what is behind it as it is. -/
theorem paren_w (h : Pk n 0 a x ca pa) (hh : HdW a) (rest : List Nat) (d c : Nat) (hd : d + pa + 1 ≤ 60) (hc : c + ca + 1 ≤ 1000) :
    Run n .atom ⟨40 :: (a ++ 41 :: rest), d, c, 0, 0⟩ (x, ⟨rest, d, c + (ca + 1), 0, 0⟩) ∨ ∃ p, Fails n .atom ⟨40 :: (a ++ 41 :: rest), d, c, 0, 0⟩ 3 p := by
  have e41 : dw (41 :: rest) = 41 :: rest := dw_no (by decide)
  obtain ⟨b, u, hb, hw, hn⟩ := hh (41 :: rest)
  have hb41 : b ≠ 41 := by rintro rfl; simp at hn
  have hsB : St.signB 41 ⟨a ++ 41 :: rest, d + 1, c, 0, 0⟩ = false := by
    rw [← signB_skip, skip_dw, hb]; exact signB_no hw hb41
  have hsS : St.sign 41 ⟨a ++ 41 :: rest, d + 1, c, 0, 0⟩ = St.skip ⟨a ++ 41 :: rest, d + 1, c, 0, 0⟩ := by
    rw [← sign_skip, skip_dw, hb]; exact sign_no hw hb41
  have h1 := h (41 :: rest) (d + 1) c (by rw [e41]; exact .inr ⟨41, rest, rfl, rfl, rfl⟩) (by omega) (by omega)
  rw [e41] at h1
  rcases h1 with h1 | ⟨p, h1⟩
  · left
    have h2 : Run n .or (St.skip ⟨a ++ 41 :: rest, d + 1, c, 0, 0⟩) (x, ⟨41 :: rest, d + 1, c + ca, 0, 0⟩) := by
      obtain ⟨f, h1⟩ := h1
      exact ⟨f, by rw [P_skip_or]; exact h1⟩
    have g := Run.group (n := n) (st := ⟨a ++ 41 :: rest, d, c, 0, 0⟩) (by rw [deeper_ok (by omega)]; exact hsB) (by rw [deeper_ok (by omega), hsS]; exact h2)
    rw [if_pos (signB_yes (by decide)), sign_yes (by decide)] at g
    have k := Run.paren (n := n) (st := ⟨40 :: (a ++ 41 :: rest), d, c, 0, 0⟩) (signB_yes (by decide)) (by rw [sign_yes (by decide)]; exact g)
    have e2 : St.counted n (St.upper ⟨rest, d + 1, c + ca, 0, 0⟩) = ⟨rest, d, c + (ca + 1), 0, 0⟩ := by
      show St.counted n ⟨rest, d + 1 - 1, c + ca, 0, 0⟩ = _
      rw [Nat.add_sub_cancel, counted_ok (by omega), Nat.add_assoc]
    rw [e2] at k
    exact k
  · right
    refine ⟨p, Fails.paren (by decide) (signB_yes (by decide)) ?_⟩
    rw [sign_yes (by decide)]
    refine Fails.group (by decide) (by rw [deeper_ok (by omega)]; exact hsB) ?_
    rw [deeper_ok (by omega), hsS]
    obtain ⟨r, s, ⟨f, h1⟩, g2⟩ := h1
    exact ⟨r, s, ⟨f, by rw [P_skip_or]; exact h1⟩, g2⟩
theorem postL_endW {r : RE} {rest : List Nat} {d c : Nat} (h : Stop 4 (dw rest)) : Run n (.postL r) ⟨rest, d, c, 0, 0⟩ (r, ⟨dw rest, d, c, 0, 0⟩) :=
  postL_sk (by rw [skip_dw]; exact postL_end h)
/-- An atom with a gap ahead. -/
theorem atom_gap {t : List Nat} {cost pd : Nat} (hg : ∀ z ∈ g, isWs z = true) (h : ∀ rest d c, d + pd ≤ 60 → c + cost ≤ 1000 → Run n .atom ⟨t ++ rest, d, c, 0, 0⟩ (x, ⟨rest, d, c + cost, 0, 0⟩) ∨ ∃ p, Fails n .atom ⟨t ++ rest, d, c, 0, 0⟩ 3 p)
    (ht : HeadOk t) : Pk n 4 (g ++ t) x cost pd := fun rest d c hs hd hc => by
  obtain ⟨b, u, hb, hw, -⟩ := ht.append rest
  have e : St.skip ⟨g ++ t ++ rest, d, c, 0, 0⟩ = ⟨t ++ rest, d, c, 0, 0⟩ := by
    rw [skip_dw, List.append_assoc, dw_gap hg, hb, dw_no hw]
  rcases h rest d c hd hc with h | ⟨p, h⟩
  · left
    refine Run.post (Run.sk (k := 5) ?_) (postL_endW hs)
    rw [e]; exact h
  · right
    refine ⟨p, Fails.post (Fails.sk (k := 5) ?_)⟩
    rw [e]; exact h
/-- A sign behind what is in parentheses. -/
theorem sized_or {r : RE} {rest : List Nat} {d c : Nat} (hc : c + 1 ≤ 1000) : sized n (r, ⟨rest, d, c, 0, 0⟩) = ⟨rest, d, c + 1, 0, 0⟩ ∨ ∃ p, sized n (r, ⟨rest, d, c, 0, 0⟩) = ⟨[], d, c + 1, 3, p⟩ := by
  unfold sized
  have e : St.counted n ⟨rest, d, c, 0, 0⟩ = ⟨rest, d, c + 1, 0, 0⟩ := counted_ok (by omega)
  split
  · right
    refine ⟨St.pos n ⟨rest, d, c + 1, 0, 0⟩, ?_⟩
    show (St.counted n ⟨rest, d, c, 0, 0⟩).fail 3 ((St.counted n ⟨rest, d, c, 0, 0⟩).pos n) = _
    rw [e]; rfl
  · left; exact e
theorem postL_fin {r : RE} {rest : List Nat} {d c : Nat} {st : St} (hs : Stop 4 (dw rest)) (h : st = ⟨rest, d, c, 0, 0⟩ ∨ ∃ p, st = ⟨[], d, c, 3, p⟩) : Run n (.postL r) st (r, ⟨dw rest, d, c, 0, 0⟩) ∨ ∃ p, Fails n (.postL r) st 3 p := by
  rcases h with rfl | ⟨p, rfl⟩
  · exact .inl (postL_endW hs)
  · exact .inr ⟨p, _, _, postL_nil rfl, rfl, rfl, rfl⟩
/-- (a)*, (a)+ and (a)?, with gaps. -/
theorem post_sign (h : Pk n 0 a x ca pa) (hh : HdW a) (g1 g2 : List Nat) (hg1 : ∀ z ∈ g1, isWs z = true) (hg2 : ∀ z ∈ g2, isWs z = true) (k : Nat) (r : RE) (hk : k = 42 ∧ r = rMany x ∨ k = 43 ∧ r = rThen [x, rMany x] ∨ k = 63 ∧ r = rAny [x, rEmpty]) :
    Pk n 4 (g1 ++ 40 :: (a ++ 41 :: (g2 ++ [k]))) r (ca + 2) (pa + 1) := fun rest d c hs hd hc => by
  have e : g1 ++ 40 :: (a ++ 41 :: (g2 ++ [k])) ++ rest = g1 ++ 40 :: (a ++ 41 :: (g2 ++ k :: rest)) := by simp
  have e1 : St.skip ⟨g1 ++ 40 :: (a ++ 41 :: (g2 ++ k :: rest)), d, c, 0, 0⟩ = ⟨40 :: (a ++ 41 :: (g2 ++ k :: rest)), d, c, 0, 0⟩ := by
    rw [skip_dw, dw_gap hg1, dw_no (by decide)]
  have hkw : isWs k = false := by rcases hk with ⟨rfl, -⟩ | ⟨rfl, -⟩ | ⟨rfl, -⟩ <;> rfl
  have e2 : St.skip ⟨g2 ++ k :: rest, d, c + (ca + 1), 0, 0⟩ = ⟨k :: rest, d, c + (ca + 1), 0, 0⟩ := by
    rw [skip_dw, dw_gap hg2, dw_no hkw]
  rw [e]
  rcases paren_w h hh (g2 ++ k :: rest) d c (by omega) (by omega) with h1 | ⟨p, h1⟩
  · have h1' : Run n .atom ⟨g1 ++ 40 :: (a ++ 41 :: (g2 ++ k :: rest)), d, c, 0, 0⟩ (x, ⟨g2 ++ k :: rest, d, c + (ca + 1), 0, 0⟩) := Run.sk (k := 5) (by rw [e1]; exact h1)
    have fin := postL_fin (n := n) (r := r) (rest := rest) (d := d) (c := c + (ca + 1) + 1) hs (sized_or (n := n) (r := r) (rest := rest) (d := d) (c := c + (ca + 1)) (by omega))
    have hL : ∀ z, Run n (.postL r) (sized n (r, ⟨rest, d, c + (ca + 1), 0, 0⟩)) z → Run n (.postL x) ⟨k :: rest, d, c + (ca + 1), 0, 0⟩ z := fun z hz => by
      rcases hk with ⟨rfl, rfl⟩ | ⟨rfl, rfl⟩ | ⟨rfl, rfl⟩
      · exact Run.star (signB_yes (by decide)) (by rw [sign_yes (by decide)]; exact hz)
      · exact Run.plus (signB_no (by decide) (by decide)) (by rw [sign_no (by decide) (by decide)]; exact signB_yes (by decide)) (by rw [sign_no (by decide) (by decide), sign_yes (by decide)]; exact hz)
      · exact Run.maybe (signB_no (by decide) (by decide)) (by rw [sign_no (by decide) (by decide)]; exact signB_no (by decide) (by decide)) (by rw [sign_no (by decide) (by decide), sign_no (by decide) (by decide)]; exact signB_yes (by decide)) (by rw [sign_no (by decide) (by decide), sign_no (by decide) (by decide), sign_yes (by decide)]; exact hz)
    rcases fin with fin | ⟨p, z, s, fin, g4⟩
    · left
      have := Run.post h1' (postL_sk (by rw [e2]; exact hL _ fin))
      rw [Nat.add_assoc, Nat.add_assoc] at this
      exact this
    · exact .inr ⟨p, z, s, Run.post h1' (postL_sk (by rw [e2]; exact hL _ fin)), g4⟩
  · exact .inr ⟨p, Fails.post (Fails.sk (k := 5) (by rw [e1]; exact h1))⟩
theorem HdW.gap {t : List Nat} (hg : ∀ z ∈ g, isWs z = true) (ht : HeadOk t) : HdW (g ++ t) := fun rest => by
  obtain ⟨b, u, hb, hw, hn⟩ := ht.append rest
  exact ⟨b, u, by rw [List.append_assoc, dw_gap hg, hb, dw_no hw], hw, hn⟩
theorem HdW.app {t : List Nat} (h : HdW t) (s : List Nat) : HdW (t ++ s) := fun rest => by rw [List.append_assoc]; exact h (s ++ rest)
end
end Go.Proofs.YtdbdjjjmomociaaGreatDoor
/- Pieces: what they are written as, and what is read of that. -/
namespace Go.Proofs.YtdbdjjjmomociaaGreatDoor
set_option maxRecDepth 100000
set_option linter.unusedSimpArgs false
set_option linter.unusedVariables false
open Go.RowKit Go.Shelf St

inductive PC : Type where
  | mk (op gap : Int) (a b : Nat) (kids : List PC) : PC
def PC.op : PC → Int | .mk o _ _ _ _ => o
def PC.gap : PC → Int | .mk _ g _ _ _ => g
def PC.a : PC → Nat | .mk _ _ a _ _ => a
def PC.b : PC → Nat | .mk _ _ _ b _ => b
def PC.kids : PC → List PC | .mk _ _ _ _ ks => ks
theorem PC.ind {P : PC → Prop} (h : ∀ o g a b ks, (∀ k ∈ ks, P k) → P (.mk o g a b ks)) (s : PC) : P s := by
  cases s with
  | mk o g a b ks => exact h o g a b ks fun k hk => PC.ind h k
termination_by SizeOf.sizeOf s
decreasing_by
  have := List.sizeOf_lt_of_mem hk
  simp; omega
def PC.k (p : PC) : Nat := ((p.op % 18446744073709551616) % 12).toNat
def PC.g (p : PC) : Nat := (p.gap % 4).toNat
def PC.lo (p : PC) : Nat := 97 + p.a % 8
def PC.hi (p : PC) : Nat := 97 + p.a % 8 + p.b % 4
theorem PC.k_lt (p : PC) : p.k < 12 := by unfold PC.k; omega
theorem PC.g_lt (p : PC) : p.g < 4 := by unfold PC.g; omega
def gapT (g : Nat) : List Nat := if g = 2 then [32] else if g = 3 then [10, 9] else []
theorem gapT_ws (g : Nat) : ∀ z ∈ gapT g, isWs z = true := by
  unfold gapT
  split
  · simp [isWs]
  split
  · simp [isWs]
  · simp
theorem gapT_len (g : Nat) : (gapT g).length ≤ 2 := by unfold gapT; repeat' split
                                                       all_goals simp
/-- A text, the expression that it is, how many parts it takes, how deep. -/
structure W4 where
  t : List Nat
  x : RE
  c : Nat
  p : Nat
def w4D : W4 := ⟨[98], rOne (setOf [98]), 1, 0⟩
def pcW (k g lo hi : Nat) (u v : W4) : W4 :=
  if k = 0 then ⟨gapT g ++ (40 :: ((u.t ++ (gapT g ++ 124 :: v.t)) ++ [41])), rAny [u.x, v.x], u.c + v.c + 1, max u.p v.p + 1⟩
  else if k = 1 then ⟨gapT g ++ (40 :: ((u.t ++ 45 :: (v.t ++ gapT g)) ++ [41])), rBut u.x v.x, u.c + v.c + 1, max u.p v.p + 1⟩
  else if k = 2 then ⟨gapT g ++ (40 :: ((u.t ++ (gapT g ++ 38 :: v.t)) ++ [41])), rBoth [u.x, v.x], u.c + v.c + 1, max u.p v.p + 1⟩
  else if k = 3 then ⟨gapT g ++ (40 :: ((u.t ++ (v.t ++ gapT g)) ++ [41])), rThen [u.x, v.x], u.c + v.c + 1, max u.p v.p + 1⟩
  else if k = 4 then ⟨[] ++ 40 :: (u.t ++ 41 :: (gapT g ++ [42])), rMany u.x, u.c + 2, u.p + 1⟩
  else if k = 5 then ⟨[] ++ 40 :: (u.t ++ 41 :: (gapT g ++ [43])), rThen [u.x, rMany u.x], u.c + 2, u.p + 1⟩
  else if k = 6 then ⟨gapT g ++ 40 :: (u.t ++ 41 :: ([] ++ [63])), rAny [u.x, rEmpty], u.c + 2, u.p + 1⟩
  else if k = 7 then ⟨gapT g ++ [lo], rOne (setOf [lo]), 1, 0⟩
  else if k = 8 then ⟨gapT g ++ [91, lo, 45, hi, 93], rOne (span lo (hi + 1)), 1, 0⟩
  else if k = 9 then ⟨gapT g ++ (40 :: (gapT g ++ [41])), rEmpty, 1, 1⟩
  else if k = 10 then ⟨gapT g ++ [91, 93], rNothing, 1, 0⟩
  else ⟨gapT g ++ [46], rOne allB, 1, 0⟩
def PC.wr : PC → W4
  | .mk o g a b ks => pcW (PC.mk o g a b ks).k (PC.mk o g a b ks).g (PC.mk o g a b ks).lo (PC.mk o g a b ks).hi ((ks.map fun k => k.wr).getD 0 w4D) ((ks.map fun k => k.wr).getD 1 w4D)
def PC.kid (p : PC) (i : Nat) : PC := p.kids.getD i (.mk 7 0 97 0 [])
theorem PC.wr_mk (o g : Int) (a b : Nat) (ks : List PC) : (PC.mk o g a b ks).wr = pcW (PC.mk o g a b ks).k (PC.mk o g a b ks).g (PC.mk o g a b ks).lo (PC.mk o g a b ks).hi ((ks.map PC.wr).getD 0 w4D) ((ks.map PC.wr).getD 1 w4D) := by rw [PC.wr]
theorem w4D_wr : (PC.mk 7 0 97 0 []).wr = w4D := by rw [PC.wr_mk]; rfl
theorem PC.wr_kid (p : PC) : p.wr = pcW p.k p.g p.lo p.hi (p.kid 0).wr (p.kid 1).wr := by
  cases p with
  | mk o g a b ks =>
    have h : ∀ i, (ks.map PC.wr).getD i w4D = ((PC.mk o g a b ks).kid i).wr := fun i => by
      unfold PC.kid PC.kids
      rw [List.getD_eq_getElem?_getD, List.getD_eq_getElem?_getD, List.getElem?_map]
      cases ks[i]? with
      | none => exact w4D_wr.symm
      | some z => rfl
    rw [PC.wr_mk, h 0, h 1]
/-- What holds of each piece's text. -/
structure Good (n : Nat) (u : W4) : Prop where
  pk : Pk n 4 u.t u.x u.c u.p
  wf : Wf u.x
  hd : HdW u.t
theorem pc_let : ∀ a < 8, ∀ b < 4, byteW (97 + a) = [97 + a] ∧ byteW (97 + a + b) = [97 + a + b] ∧ isWs (97 + a) = false ∧ [124, 45, 38, 41, 42, 43, 63].contains (97 + a) = false ∧ setOf [97 + a] ≠ 0#256 := by decide +kernel
theorem letter_at {n lo : Nat} (h : byteW lo = [lo]) (hl : lo < 256) (rest : List Nat) (d c : Nat) (hc : c + 1 ≤ 1000) : Run n .atom ⟨[lo] ++ rest, d, c, 0, 0⟩ (rOne (setOf [lo]), ⟨rest, d, c + 1, 0, 0⟩) := by
  have := P_byte (n := n) (f := 0) (r := rest) (d := d) (c := c) hl (by omega)
  rw [h] at this
  exact ⟨_, this⟩
theorem span_at {n lo hi : Nat} (h : byteW lo = [lo]) (h' : byteW hi = [hi]) (hl : lo ≤ hi) (hh : hi < 256) (rest : List Nat) (d c : Nat) (hc : c + 1 ≤ 1000) : Run n .atom ⟨[91, lo, 45, hi, 93] ++ rest, d, c, 0, 0⟩ (rOne (span lo (hi + 1)), ⟨rest, d, c + 1, 0, 0⟩) := by
  have hcl : clas n 2 ⟨lo :: 45 :: hi :: 93 :: rest, d, c, 0, 0⟩ = some (span lo (hi + 1), ⟨rest, d, c, 0, 0⟩) := by
    unfold clas
    have h94 := w_isAt94 (a := lo) (d := d) (c := c) (e := 0) (w := 0) (r := 45 :: hi :: 93 :: rest) (by omega)
    rw [h] at h94
    have h1 := class_range (n := n) (f := 1) (a := lo) (b := hi) (d := d) (c := c) (s := 0#256) (r := 93 :: rest) (by omega) hh hl
    rw [h, h'] at h1
    rw [show [lo] ++ 45 :: hi :: 93 :: rest = lo :: 45 :: hi :: 93 :: rest from rfl] at h94
    rw [if_neg (by rw [h94]; decide)]
    have h2 : classL n 1 (0#256 ||| span lo (hi + 1)) ⟨93 :: rest, d, c, 0, 0⟩ = some (0#256 ||| span lo (hi + 1), ⟨rest, d, c, 0, 0⟩) := class_end
    rw [BitVec.zero_or] at h1 h2
    exact h1.trans h2
  exact ⟨3, P_set hcl (by omega)⟩
theorem pcW_good {n k g a b : Nat} {u v : W4} (hk : k < 12) (ha : a < 8) (hb : b < 4) (hu : Good n u) (hv : Good n v) : Good n (pcW k g (97 + a) (97 + a + b) u v) := by
  obtain ⟨l1, l2, l3, l4, l5⟩ := pc_let a ha b hb
  have hg := gapT_ws g
  have par : ∀ (t : List Nat) (x : RE) (c p : Nat), Pk n 0 t x c p → HdW t → Pk n 4 (gapT g ++ (40 :: (t ++ [41]))) x (c + 1) (p + 1) := fun t x c p h1 h2 => by
    refine atom_gap hg (fun rest d c' hd hc => ?_) ⟨40, _, rfl, rfl, rfl⟩
    have := paren_w h1 h2 rest d c' (by omega) (by omega)
    have e : 40 :: (t ++ [41]) ++ rest = 40 :: (t ++ 41 :: rest) := by simp
    rw [e]; exact this
  have h40 : ∀ t : List Nat, HdW (gapT g ++ 40 :: t) := fun t => HdW.gap hg ⟨40, _, rfl, rfl, rfl⟩
  have w2 : ∀ r ∈ [u.x, v.x], Wf r := fun r hr => by
    simp at hr
    rcases hr with rfl | rfl
    · exact hu.wf
    · exact hv.wf
  unfold pcW
  by_cases h0 : k = 0
  · rw [if_pos h0]
    exact ⟨par _ _ _ _ (in_or hu.pk hv.pk hu.wf hv.wf hg) (hu.hd.app _), wf_any w2, h40 _⟩
  rw [if_neg h0]
  by_cases h1 : k = 1
  · rw [if_pos h1]
    exact ⟨par _ _ _ _ (in_minus hu.pk hv.pk hu.wf hv.wf hg) (hu.hd.app _), wf_but hu.wf hv.wf, h40 _⟩
  rw [if_neg h1]
  by_cases h2 : k = 2
  · rw [if_pos h2]
    exact ⟨par _ _ _ _ (in_and hu.pk hv.pk hu.wf hv.wf hg) (hu.hd.app _), wf_both w2, h40 _⟩
  rw [if_neg h2]
  by_cases h3 : k = 3
  · rw [if_pos h3]
    exact ⟨par _ _ _ _ (in_cat hu.pk hv.pk hu.wf hv.wf hg hv.hd) (hu.hd.app _), wf_then w2, h40 _⟩
  rw [if_neg h3]
  have hu0 : Pk n 0 u.t u.x u.c u.p := (((hu.pk.d3 hu.wf).d2 hu.wf).d1).d0 hu.wf
  by_cases h4 : k = 4
  · rw [if_pos h4]
    exact ⟨post_sign hu0 hu.hd [] (gapT g) (by simp) hg 42 _ (.inl ⟨rfl, rfl⟩), wf_many hu.wf, HdW.gap (g := []) (by simp) ⟨40, _, rfl, rfl, rfl⟩⟩
  rw [if_neg h4]
  by_cases h5 : k = 5
  · rw [if_pos h5]
    exact ⟨post_sign hu0 hu.hd [] (gapT g) (by simp) hg 43 _ (.inr (.inl ⟨rfl, rfl⟩)), wf_then (fun r hr => by
      simp at hr
      rcases hr with rfl | rfl
      · exact hu.wf
      · exact wf_many hu.wf), HdW.gap (g := []) (by simp) ⟨40, _, rfl, rfl, rfl⟩⟩
  rw [if_neg h5]
  by_cases h6 : k = 6
  · rw [if_pos h6]
    exact ⟨post_sign hu0 hu.hd (gapT g) [] hg (by simp) 63 _ (.inr (.inr ⟨rfl, rfl⟩)), wf_any (fun r hr => by
      simp at hr
      rcases hr with rfl | rfl
      · exact hu.wf
      · exact wf_empty), h40 _⟩
  rw [if_neg h6]
  by_cases h7 : k = 7
  · rw [if_pos h7]
    exact ⟨atom_gap hg (fun rest d c hd hc => .inl (letter_at l1 (by omega) rest d c hc)) ⟨97 + a, [], rfl, l3, l4⟩, wf_one _, HdW.gap hg ⟨97 + a, [], rfl, l3, l4⟩⟩
  rw [if_neg h7]
  by_cases h8 : k = 8
  · rw [if_pos h8]
    exact ⟨atom_gap hg (fun rest d c hd hc => .inl (span_at l1 l2 (by omega) (by omega) rest d c hc)) ⟨91, _, rfl, rfl, rfl⟩, wf_one _, HdW.gap hg ⟨91, _, rfl, rfl, rfl⟩⟩
  rw [if_neg h8]
  by_cases h9 : k = 9
  · rw [if_pos h9]
    refine ⟨atom_gap hg (fun rest d c hd hc => .inl ?_) ⟨40, _, rfl, rfl, rfl⟩, wf_empty, h40 _⟩
    have hd : d + 1 ≤ 60 := hd
    have hc : c + 1 ≤ 1000 := hc
    have e : 40 :: (gapT g ++ [41]) ++ rest = 40 :: (gapT g ++ 41 :: rest) := by simp
    rw [e]
    have hsB : St.signB 41 ⟨gapT g ++ 41 :: rest, d + 1, c, 0, 0⟩ = true := by rw [← signB_skip, skip_dw, dw_gap hg, dw_no (by decide)]; exact signB_yes (by decide)
    have hsS : St.sign 41 ⟨gapT g ++ 41 :: rest, d + 1, c, 0, 0⟩ = ⟨rest, d + 1, c, 0, 0⟩ := by rw [← sign_skip, skip_dw, dw_gap hg, dw_no (by decide)]; exact sign_yes (by decide)
    have gq := Run.groupE (n := n) (st := ⟨gapT g ++ 41 :: rest, d, c, 0, 0⟩) (by rw [deeper_ok (by omega)]; exact hsB)
    rw [deeper_ok (by omega), hsS] at gq
    have k' := Run.paren (n := n) (st := ⟨40 :: (gapT g ++ 41 :: rest), d, c, 0, 0⟩) (signB_yes (by decide)) (by rw [sign_yes (by decide)]; exact gq)
    have e2 : St.counted n (St.upper ⟨rest, d + 1, c, 0, 0⟩) = ⟨rest, d, c + 1, 0, 0⟩ := by
      show St.counted n ⟨rest, d + 1 - 1, c, 0, 0⟩ = _
      rw [Nat.add_sub_cancel, counted_ok (by omega)]
    rw [e2] at k'
    exact k'
  rw [if_neg h9]
  by_cases h10 : k = 10
  · rw [if_pos h10]
    refine ⟨atom_gap hg (fun rest d c hd hc => .inl ?_) ⟨91, _, rfl, rfl, rfl⟩, wf_nothing, HdW.gap hg ⟨91, _, rfl, rfl, rfl⟩⟩
    have hc : c + 1 ≤ 1000 := hc
    have hcl : clas n 1 ⟨93 :: rest, d, c, 0, 0⟩ = some (0#256, ⟨rest, d, c, 0, 0⟩) := by
      unfold clas
      rw [if_neg (by simp [St.isAt])]
      exact class_end
    exact ⟨2, P_set hcl (by omega)⟩
  rw [if_neg h10]
  refine ⟨atom_gap hg (fun rest d c hd hc => .inl ?_) ⟨46, _, rfl, rfl, rfl⟩, show Wf (rOne allB) from wf_one _, HdW.gap hg ⟨46, _, rfl, rfl, rfl⟩⟩
  have hc : c + 1 ≤ 1000 := hc
  have h := Run.dot (n := n) (st := ⟨46 :: rest, d, c, 0, 0⟩) (signB_no (by decide) (by decide)) (by rw [sign_no (by decide) (by decide)]; exact signB_no (by decide) (by decide)) (by rw [sign_no (by decide) (by decide), sign_no (by decide) (by decide)]; exact signB_yes (by decide))
  rw [sign_no (by decide) (by decide), sign_no (by decide) (by decide), sign_yes (by decide), counted_ok (by omega)] at h
  exact h
theorem w4D_good (n : Nat) : Good n w4D := by
  obtain ⟨l1, l2, l3, l4, l5⟩ := pc_let 1 (by decide) 0 (by decide)
  exact ⟨atom_gap (g := []) (by simp) (fun rest d c hd hc => .inl (letter_at l1 (by omega) rest d c hc)) ⟨98, [], rfl, rfl, rfl⟩, show Wf (rOne (setOf [98])) from wf_one _, HdW.gap (g := []) (by simp) ⟨98, [], rfl, rfl, rfl⟩⟩
theorem PC.good (n : Nat) (p : PC) : Good n p.wr := by
  refine PC.ind (P := fun p => Good n p.wr) ?_ p
  intro o g a b ks ih
  have hd : ∀ i, Good n ((ks.map PC.wr).getD i w4D) := fun i => by
    rw [List.getD_eq_getElem?_getD, List.getElem?_map]
    cases h : ks[i]? with
    | none => exact w4D_good n
    | some z => exact ih z (List.mem_of_getElem? h)
  rw [PC.wr_mk]
  exact pcW_good (PC.k_lt _) (Nat.mod_lt _ (by decide)) (Nat.mod_lt _ (by decide)) (hd 0) (hd 1)
/-- How many pieces. -/
def PC.nodes : PC → Nat
  | .mk _ _ _ _ ks => 1 + (ks.map fun k => k.nodes).sum
theorem PC.nodes_mk (o g : Int) (a b : Nat) (ks : List PC) : (PC.mk o g a b ks).nodes = 1 + (ks.map PC.nodes).sum := by rw [PC.nodes]
theorem pcW_bounds (k g lo hi : Nat) (u v : W4) : (pcW k g lo hi u v).c ≤ u.c + v.c + 2 ∧ (pcW k g lo hi u v).p ≤ max u.p v.p + 1 ∧ (pcW k g lo hi u v).t.length ≤ u.t.length + v.t.length + 9 := by
  have hg := gapT_len g
  unfold pcW
  generalize gapT g = gt at *
  by_cases h0 : k = 0
  · simp only [h0, if_true, List.length_append, List.length_cons, List.length_nil]; omega
  by_cases h1 : k = 1
  · simp only [h1, if_neg, if_true, List.length_append, List.length_cons, List.length_nil]; simp; omega
  by_cases h2 : k = 2
  · simp [h2]; omega
  by_cases h3 : k = 3
  · simp [h3]; omega
  by_cases h4 : k = 4
  · simp [h4]; omega
  by_cases h5 : k = 5
  · simp [h5]; omega
  by_cases h6 : k = 6
  · simp [h6]; omega
  by_cases h7 : k = 7
  · simp [h7]; omega
  by_cases h8 : k = 8
  · simp [h8]; omega
  by_cases h9 : k = 9
  · simp [h9]; omega
  by_cases h10 : k = 10
  · simp [h10]; omega
  · simp [h0, h1, h2, h3, h4, h5, h6, h7, h8, h9, h10]; omega
theorem PC.bounds (p : PC) : p.wr.c + 1 ≤ 8 * p.nodes ∧ p.wr.p ≤ p.nodes ∧ p.wr.t.length + 1 ≤ 16 * p.nodes := by
  refine PC.ind (P := fun p => p.wr.c + 1 ≤ 8 * p.nodes ∧ p.wr.p ≤ p.nodes ∧ p.wr.t.length + 1 ≤ 16 * p.nodes) ?_ p
  intro o g a b ks ih
  have key : ∀ l : List PC, (∀ k ∈ l, k.wr.c + 1 ≤ 8 * k.nodes ∧ k.wr.p ≤ k.nodes ∧ k.wr.t.length + 1 ≤ 16 * k.nodes) →
      ((l.map PC.wr).getD 0 w4D).c + ((l.map PC.wr).getD 1 w4D).c ≤ 2 + 8 * (l.map PC.nodes).sum ∧ max ((l.map PC.wr).getD 0 w4D).p ((l.map PC.wr).getD 1 w4D).p ≤ (l.map PC.nodes).sum ∧
      ((l.map PC.wr).getD 0 w4D).t.length + ((l.map PC.wr).getD 1 w4D).t.length ≤ 2 + 16 * (l.map PC.nodes).sum := fun l h => by
    match l, h with
    | [], _ => exact ⟨by decide, by decide, by decide⟩
    | [x], h =>
      have h1 := h x (by simp)
      have e1 : w4D.c = 1 := rfl
      have e2 : w4D.p = 0 := rfl
      have e3 : w4D.t.length = 1 := rfl
      simp [e1, e2, e3]; omega
    | x :: y :: r, h =>
      have h1 := h x (by simp)
      have h2 := h y (by simp)
      simp; omega
  obtain ⟨k1, k2, k3⟩ := key ks ih
  have hb := pcW_bounds (PC.mk o g a b ks).k (PC.mk o g a b ks).g (PC.mk o g a b ks).lo (PC.mk o g a b ks).hi ((ks.map PC.wr).getD 0 w4D) ((ks.map PC.wr).getD 1 w4D)
  rw [PC.wr_mk, PC.nodes_mk]
  omega
/-- The whole text is read so, or it is told that there are too many. -/
theorem PC.read (p : PC) (h : p.nodes ≤ 25) : p.wr.t.length ≤ 65536 ∧ ((∃ st, readQ p.wr.t = (p.wr.x, st) ∧ (rdEnd p.wr.t).err = if 1000 < p.wr.x.size then 3 else 0) ∨ (rdEnd p.wr.t).err = 3) := by
  obtain ⟨b1, b2, b3⟩ := p.bounds
  have hl : p.wr.t.length ≤ 65536 := by omega
  refine ⟨hl, ?_⟩
  have hp := p.good p.wr.t.length
  rcases ((((hp.pk.d3 hp.wf).d2 hp.wf).d1).d0 hp.wf) [] 0 0 (.inl rfl) (by omega) (by omega) with h | ⟨q, h⟩
  · rw [List.append_nil] at h
    have hq : readQ p.wr.t = _ := readQ_run hl h
    exact .inl ⟨_, hq, rdEnd_ok hq⟩
  · rw [List.append_nil] at h
    exact .inr (rdEnd_bad hl (by decide) h).1
end Go.Proofs.YtdbdjjjmomociaaGreatDoor
