/- Texts of this claim put together: RunH, RunI. -/
import Derived.Test.YtjlgepahgmkamaaGreatDoorJoinRunC
/- Texts that can't go on: what the reader's run comes to. -/
namespace Go.Proofs.YtjlgepahgmkamaaGreatDoor
set_option maxRecDepth 100000
set_option linter.unusedSimpArgs false
set_option linter.unusedVariables false
open Go.RowKit Go.Shelf St

/-- It ends with an error there, and nothing is left. -/
def Fails (n : Nat) (m : Md) (st : St) (e p : Nat) : Prop := ∃ r st', Run n m st (r, st') ∧ st'.rest = [] ∧ st'.err = e ∧ st'.wh = p
section
variable {n e p : Nat} {st : St} {l : List RE}
theorem sign_nil {s : St} (h : s.rest = []) (b : Nat) : s.signB b = false ∧ s.sign b = s := by
  cases s with
  | mk r d c e w =>
    simp only at h
    subst h
    exact ⟨rfl, rfl⟩
theorem skip_nil {s : St} (h : s.rest = []) : s.skip = s := by
  cases s with
  | mk r d c e w =>
    simp only at h
    subst h
    rfl
theorem orL_nil {s : St} (h : s.rest = []) : Run n (.orL l) s (rAny l, s) := by
  have := Run.orLE (n := n) (l := l) (sign_nil h 124).1
  rw [(sign_nil h 124).2] at this; exact this
theorem andL_nil {s : St} (h : s.rest = []) : Run n (.andL l) s (rBoth l, s) := by
  have := Run.andLE (n := n) (l := l) (sign_nil h 38).1
  rw [(sign_nil h 38).2] at this; exact this
theorem minusL_nil {s : St} {r : RE} (h : s.rest = []) : Run n (.minusL r) s (r, s) := by
  have := Run.minusLE (n := n) (r := r) (sign_nil h 45).1
  rw [(sign_nil h 45).2] at this; exact this
theorem catL_nil {s : St} (h : s.rest = []) : Run n (.catL l) s (rThen l, s) := by
  have := Run.catLE (n := n) (l := l) (st := s) (.inl (by rw [skip_nil h]; exact h))
  rw [skip_nil h] at this; exact this
theorem postL_nil {s : St} {r : RE} (h : s.rest = []) : Run n (.postL r) s (r, s) := by
  have := Run.postLE (n := n) (r := r) (st := s) (sign_nil h 42).1 (by rw [(sign_nil h 42).2]; exact (sign_nil h 43).1) (by rw [(sign_nil h 42).2, (sign_nil h 43).2]; exact (sign_nil h 63).1)
  rw [(sign_nil h 42).2, (sign_nil h 43).2, (sign_nil h 63).2] at this; exact this
theorem Fails.post (h : Fails n .atom st e p) : Fails n .post st e p := by
  obtain ⟨r, s, h1, h2, h3⟩ := h
  exact ⟨_, _, Run.post h1 (postL_nil h2), h2, h3⟩
theorem Fails.cat (h : Fails n .post st e p) : Fails n .cat st e p := by
  obtain ⟨r, s, h1, h2, h3⟩ := h
  exact ⟨_, _, Run.cat h1 (catL_nil h2), h2, h3⟩
theorem Fails.and (h : Fails n .cat st e p) : Fails n .and st e p := by
  obtain ⟨r, s, h1, h2, h3⟩ := h
  exact ⟨_, _, Run.and h1 (andL_nil h2), h2, h3⟩
theorem Fails.minus (h : Fails n .and st e p) : Fails n .minus st e p := by
  obtain ⟨r, s, h1, h2, h3⟩ := h
  exact ⟨_, _, Run.minus h1 (minusL_nil h2), h2, h3⟩
theorem Fails.or (h : Fails n .minus st e p) : Fails n .or st e p := by
  obtain ⟨r, s, h1, h2, h3⟩ := h
  exact ⟨_, _, Run.or h1 (orL_nil h2), h2, h3⟩
theorem Fails.toMinus (h : Fails n .atom st e p) : Fails n .minus st e p := h.post.cat.and.minus
theorem Fails.orL (hb : st.signB 124 = true) (h : Fails n .minus (st.sign 124) e p) : Fails n (.orL l) st e p := by
  obtain ⟨r, s, h1, h2, h3⟩ := h
  exact ⟨_, _, Run.orL hb h1 (orL_nil h2), h2, h3⟩
theorem Fails.andL (hb : st.signB 38 = true) (h : Fails n .cat (st.sign 38) e p) : Fails n (.andL l) st e p := by
  obtain ⟨r, s, h1, h2, h3⟩ := h
  exact ⟨_, _, Run.andL hb h1 (andL_nil h2), h2, h3⟩
theorem Fails.catL {b : Nat} {t : List Nat} (hs : st.skip.rest = b :: t) (hb : [124, 45, 38, 41].contains b = false) (h : Fails n .post st.skip e p) : Fails n (.catL l) st e p := by
  obtain ⟨r, s, h1, h2, h3⟩ := h
  exact ⟨_, _, Run.catL hs hb h1 (catL_nil h2), h2, h3⟩
theorem counted_bad {s : St} (h : s.rest = []) (he : s.err ≠ 0) : (s.counted n).rest = [] ∧ (s.counted n).err = s.err ∧ (s.counted n).wh = s.wh := by
  unfold St.counted
  split
  · unfold St.fail
    exact ⟨rfl, if_neg he, if_neg he⟩
  · exact ⟨h, rfl, rfl⟩
theorem Fails.group (he : e ≠ 0) (hb : (st.deeper n).signB 41 = false) (h : Fails n .or ((st.deeper n).sign 41) e p) : Fails n .group st e p := by
  obtain ⟨r, s, h1, h2, h3, h4⟩ := h
  have h := Run.group hb h1
  rw [if_neg (by rw [(sign_nil h2 41).1]; simp), (sign_nil h2 41).2] at h
  refine ⟨_, _, h, rfl, ?_, ?_⟩
  · show (s.fail 2 (s.pos n)).err = e
    unfold St.fail; simp only; rw [if_neg (by omega)]; exact h3
  · show (s.fail 2 (s.pos n)).wh = p
    unfold St.fail; simp only; rw [if_neg (by omega)]; exact h4
theorem Fails.paren (he : e ≠ 0) (hb : st.signB 40 = true) (h : Fails n .group (st.sign 40) e p) : Fails n .atom st e p := by
  obtain ⟨r, s, h1, h2, h3, h4⟩ := h
  obtain ⟨c1, c2, c3⟩ := counted_bad (n := n) h2 (by omega)
  exact ⟨_, _, Run.paren hb h1, c1, c2.trans h3, c3.trans h4⟩
end
/-- Where no byte stands. -/
theorem fails_byte {n d c : Nat} {t : List Nat} (hw : St.skip ⟨t, d, c, 0, 0⟩ = ⟨t, d, c, 0, 0⟩) (h0 : ∀ b u, t = b :: u → b ≠ 40 ∧ b ≠ 91 ∧ b ≠ 46) (hs : (scanN t).2 = 0) : Fails n .atom ⟨t, d, c, 0, 0⟩ 2 (n - t.length) := by
  have hno : ∀ b, b = 40 ∨ b = 91 ∨ b = 46 → St.signB b ⟨t, d, c, 0, 0⟩ = false ∧ St.sign b ⟨t, d, c, 0, 0⟩ = ⟨t, d, c, 0, 0⟩ := by
    intro b hb
    have : St.isAt b ⟨t, d, c, 0, 0⟩ = false := by
      cases t with
      | nil => rfl
      | cons x u =>
        have := h0 x u rfl
        have : x ≠ b := by omega
        simp [St.isAt, this]
    unfold St.signB St.sign St.here
    rw [hw, this]; exact ⟨rfl, rfl⟩
  obtain ⟨a1, a2⟩ := hno 40 (by omega)
  obtain ⟨b1, b2⟩ := hno 91 (by omega)
  obtain ⟨c1, c2⟩ := hno 46 (by omega)
  have h := Run.byte (n := n) (st := ⟨t, d, c, 0, 0⟩) a1 (by rw [a2]; exact b1) (by rw [a2, b2]; exact c1)
  rw [a2, b2, c2] at h
  have hb : St.byte n ⟨t, d, c, 0, 0⟩ = ⟨[], d, c, 2, n - t.length⟩ := by unfold St.byte; rw [if_pos hs]; rfl
  rw [hb] at h
  obtain ⟨q1, q2, q3⟩ := counted_bad (n := n) (s := ⟨[], d, c, 2, n - t.length⟩) rfl (by show (2 : Nat) ≠ 0; decide)
  exact ⟨_, _, h, q1, q2, q3⟩
theorem fails_class {n d c e p : Nat} {t : List Nat} {s : BitVec 256} (he : e ≠ 0) (h : RunC n ⟨t, d, c, 0, 0⟩ (s, ⟨[], d, c, e, p⟩)) : Fails n .atom ⟨91 :: t, d, c, 0, 0⟩ e p := by
  have h1 := Run.set (n := n) (st := ⟨91 :: t, d, c, 0, 0⟩) (signB_no (by decide) (by decide)) (by rw [sign_no (by decide) (by decide)]; exact signB_yes (by decide)) (by rw [sign_no (by decide) (by decide), sign_yes (by decide)]; exact h)
  obtain ⟨q1, q2, q3⟩ := counted_bad (n := n) (s := ⟨[], d, c, e, p⟩) rfl he
  exact ⟨_, _, h1, q1, q2, q3⟩
/-- A letter. -/
theorem letter_rd (n a : Nat) (h : byteW a = [a]) (ha : a < 256) : Rds n 5 [a] (rOne (setOf [a])) 1 0 := fun rest d c hs hd hc => by
  have := P_byte (n := n) (f := 0) (r := rest) (d := d) (c := c) ha (by omega)
  rw [h] at this
  exact ⟨_, this⟩

/-- The sixteen texts, and where each fails. -/
def errT : List (List Nat × Nat) := [([40], 1), ([40, 97], 2), ([97, 41], 1), ([91, 97], 2), ([91, 98, 45, 97, 93], 4), ([92, 113], 0), ([92, 120, 49, 103], 0), ([124], 0), ([97, 124], 2), ([97, 38, 42], 2), ([40, 45, 97, 41], 1), ([1], 0), ([97, 93], 1), ([92], 0), ([91, 97, 45, 93], 3), ([91, 40, 93], 1)]
section
variable {n c : Nat}
theorem f_paren {d : Nat} {t : List Nat} {e p : Nat} (he : e ≠ 0) (hd : d + 1 ≤ 60) (h41 : St.signB 41 ⟨t, d + 1, c, 0, 0⟩ = false) (hs : St.sign 41 ⟨t, d + 1, c, 0, 0⟩ = ⟨t, d + 1, c, 0, 0⟩) (h : Fails n .or ⟨t, d + 1, c, 0, 0⟩ e p) : Fails n .atom ⟨40 :: t, d, c, 0, 0⟩ e p := by
  refine Fails.paren he (signB_yes (by decide)) ?_
  rw [sign_yes (by decide)]
  refine Fails.group he ?_ ?_
  · rw [deeper_ok hd]; exact h41
  · rw [deeper_ok hd, hs]; exact h
theorem b97 : byteW 97 = [97] := by decide +kernel
theorem b98 : byteW 98 = [98] := by decide +kernel
theorem err_0 : Fails n .minus ⟨[40], 0, c, 0, 0⟩ 2 n := by
  have h : Fails n .or ⟨[], 1, c, 0, 0⟩ 2 (n - 0) := (fails_byte (n := n) (d := 1) (c := c) (t := []) rfl (fun b u h => by cases h) rfl).toMinus.or
  rw [Nat.sub_zero] at h
  exact (f_paren (by decide) (by decide) rfl rfl h).toMinus
/-- A letter, and then no closing. -/
theorem or_letter {d : Nat} {rest : List Nat} (hs : Stop 0 rest) (hd : d ≤ 60) (hc : c + 1 ≤ 1000) : Run n .or ⟨97 :: rest, d, c, 0, 0⟩ (rOne sa, ⟨rest, d, c + 1, 0, 0⟩) := by
  have h := (letter_rd n 97 b97 (by decide)).down4
  have h3 := h.down3 (then_one1 sa_ne)
  have h2 := h3.down2 (both_one1 sa_ne)
  exact h2.down1.down0 (any_one1 sa_ne) rest d c hs (by omega) (by omega)
theorem err_1 (hc : c + 1 ≤ 1000) : Fails n .minus ⟨[40, 97], 0, c, 0, 0⟩ 2 n := by
  have h := or_letter (n := n) (c := c) (d := 1) (rest := []) (.inl rfl) (by decide) hc
  have g := Run.group (n := n) (st := ⟨[97], 0, c, 0, 0⟩) (by rw [deeper_ok (by decide)]; exact signB_no (by decide) (by decide)) (by rw [deeper_ok (by decide), sign_no (by decide) (by decide)]; exact h)
  have k := Run.paren (n := n) (st := ⟨[40, 97], 0, c, 0, 0⟩) (signB_yes (by decide)) (by rw [sign_yes (by decide)]; exact g)
  have e : (if St.signB 41 ⟨[], 1, c + 1, 0, 0⟩ = true then St.sign 41 ⟨[], 1, c + 1, 0, 0⟩ else (St.sign 41 ⟨[], 1, c + 1, 0, 0⟩).fail 2 ((St.sign 41 ⟨[], 1, c + 1, 0, 0⟩).pos n)).upper = ⟨[], 0, c + 1, 2, n⟩ := rfl
  have e : (if St.signB 41 ⟨[], 0 + 1, c + 1, 0, 0⟩ = true then St.sign 41 ⟨[], 0 + 1, c + 1, 0, 0⟩ else (St.sign 41 ⟨[], 0 + 1, c + 1, 0, 0⟩).fail 2 ((St.sign 41 ⟨[], 0 + 1, c + 1, 0, 0⟩).pos n)).upper = ⟨[], 0, c + 1, 2, n⟩ := e
  rw [e] at k
  obtain ⟨q1, q2, q3⟩ := counted_bad (n := n) (s := ⟨[], 0, c + 1, 2, n⟩) rfl (by show (2 : Nat) ≠ 0; decide)
  exact Fails.toMinus ⟨_, _, k, q1, q2, q3⟩
theorem err_3 : Fails n .minus ⟨[91, 97], 0, c, 0, 0⟩ 2 n :=
  Fails.toMinus (fails_class (s := 0#256 ||| span 97 98 ||| span 0 1) (by decide) ⟨3, rfl⟩)
theorem err_4 : Fails n .minus ⟨[91, 98, 45, 97, 93], 0, c, 0, 0⟩ 2 (n - 1) :=
  Fails.toMinus (fails_class (s := 0#256 ||| span 98 98) (by decide) ⟨2, rfl⟩)
theorem err_5 : Fails n .minus ⟨[92, 113], 0, c, 0, 0⟩ 2 (n - 2) := Fails.toMinus (fails_byte rfl (fun b u h => by cases h; decide) rfl)
theorem err_6 : Fails n .minus ⟨[92, 120, 49, 103], 0, c, 0, 0⟩ 2 (n - 4) := Fails.toMinus (fails_byte rfl (fun b u h => by cases h; decide) rfl)
theorem err_7 : Fails n .minus ⟨[124], 0, c, 0, 0⟩ 2 (n - 1) := Fails.toMinus (fails_byte rfl (fun b u h => by cases h; decide) rfl)
theorem err_11 : Fails n .minus ⟨[1], 0, c, 0, 0⟩ 2 (n - 1) := Fails.toMinus (fails_byte rfl (fun b u h => by cases h; decide) rfl)
theorem err_13 : Fails n .minus ⟨[92], 0, c, 0, 0⟩ 2 (n - 1) := Fails.toMinus (fails_byte rfl (fun b u h => by cases h; decide) rfl)
theorem err_14 : Fails n .minus ⟨[91, 97, 45, 93], 0, c, 0, 0⟩ 2 (n - 1) :=
  Fails.toMinus (fails_class (s := 0#256 ||| span 97 1) (by decide) ⟨2, rfl⟩)
theorem err_15 : Fails n .minus ⟨[91, 40, 93], 0, c, 0, 0⟩ 2 (n - 2) :=
  Fails.toMinus (fails_class (s := 0#256 ||| span 0 1) (by decide) ⟨2, rfl⟩)
theorem post_letter {d : Nat} {rest : List Nat} (hs : Stop 4 rest) (hd : d ≤ 60) (hc : c + 1 ≤ 1000) : Run n .post ⟨97 :: rest, d, c, 0, 0⟩ (rOne sa, ⟨rest, d, c + 1, 0, 0⟩) := (letter_rd n 97 b97 (by decide)).down4 rest d c hs (by omega) (by omega)
theorem err_9 (hc : c + 1 ≤ 1000) : Fails n .minus ⟨[97, 38, 42], 0, c, 0, 0⟩ 2 (n - 1) := by
  have h : Run n .cat ⟨[97, 38, 42], 0, c, 0, 0⟩ (_, ⟨[38, 42], 0, c + 1, 0, 0⟩) := (letter_rd n 97 b97 (by decide)).down4.down3 (then_one1 sa_ne) [38, 42] 0 c (.inr ⟨38, _, rfl, rfl, rfl⟩) (by decide) (by omega)
  have h2 : Fails n (.andL [rOne (setOf [97])]) ⟨[38, 42], 0, c + 1, 0, 0⟩ 2 (n - 1) := Fails.andL (signB_yes (by decide)) (by
    rw [sign_yes (by decide)]
    exact (fails_byte (n := n) (d := 0) (c := c + 1) (t := [42]) rfl (fun b u h => by cases h; decide) rfl).post.cat)
  obtain ⟨r, s, g1, g2, g3⟩ := h2
  exact Fails.minus ⟨r, s, Run.and h g1, g2, g3⟩
theorem err_10 : Fails n .minus ⟨[40, 45, 97, 41], 0, c, 0, 0⟩ 2 (n - 3) := by
  have h : Fails n .or ⟨[45, 97, 41], 1, c, 0, 0⟩ 2 (n - 3) := (fails_byte (n := n) (d := 1) (c := c) (t := [45, 97, 41]) rfl (fun b u h => by cases h; decide) rfl).toMinus.or
  exact (f_paren (by decide) (by decide) rfl rfl h).toMinus
theorem err_12 (hc : c + 1 ≤ 1000) : Fails n .minus ⟨[97, 93], 0, c, 0, 0⟩ 2 (n - 1) := by
  have h := post_letter (n := n) (c := c) (d := 0) (rest := [93]) (.inr ⟨93, _, rfl, rfl, rfl⟩) (by decide) hc
  have h2 : Fails n (.catL [rOne sa]) ⟨[93], 0, c + 1, 0, 0⟩ 2 (n - 1) := Fails.catL (b := 93) (t := []) rfl rfl (fails_byte (n := n) (d := 0) (c := c + 1) (t := [93]) rfl (fun b u h => by cases h; decide) rfl).post
  obtain ⟨r, s, g1, g2, g3⟩ := h2
  exact Fails.minus (Fails.and ⟨r, s, Run.cat h g1, g2, g3⟩)
end
end Go.Proofs.YtjlgepahgmkamaaGreatDoor
/- Texts that can't go on, behind others: the sixteen of TextErrors. -/
namespace Go.Proofs.YtjlgepahgmkamaaGreatDoor
set_option maxRecDepth 100000
set_option linter.unusedSimpArgs false
set_option linter.unusedVariables false
open Go.RowKit Go.Shelf St

/-- ab* so many times. -/
def abL : Nat → List Nat
  | 0 => []
  | k + 1 => 97 :: 98 :: 42 :: abL k
theorem abL_len (k : Nat) : (abL k).length = 3 * k := by
  induction k with
  | zero => rfl
  | succ k ih => simp [abL, ih]; omega
theorem abL_snoc (k : Nat) : abL (k + 1) = abL k ++ [97, 98, 42] := by
  induction k with
  | zero => rfl
  | succ k ih =>
    have e : abL (k + 1 + 1) = 97 :: 98 :: 42 :: (abL k ++ [97, 98, 42]) := by rw [← ih]; rfl
    rw [e]
    rfl
section
variable {n : Nat}
theorem bstar_rd {c : Nat} {rest : List Nat} (hs : Stop 4 rest) (hc : c + 2 ≤ 1000) : Run n .post ⟨98 :: 42 :: rest, 0, c, 0, 0⟩ (rMany (rOne sb), ⟨rest, 0, c + 2, 0, 0⟩) := by
  have h1 : Run n .atom ⟨98 :: 42 :: rest, 0, c, 0, 0⟩ (rOne sb, ⟨42 :: rest, 0, c + 1, 0, 0⟩) := letter_rd n 98 b98 (by decide) (42 :: rest) 0 c (.inr ⟨42, _, rfl, rfl, rfl⟩) (by decide) (by omega)
  have hz : ¬ 1000 < (rMany (rOne sb)).size := by
    rw [one_mk sb_ne]
    unfold rMany
    rw [if_neg (by simp [RE.op]), if_neg (by simp [RE.op])]
    simp [RE.size_mk, sat]
  have e2 : sized n (rMany (rOne sb), ⟨rest, 0, c + 1, 0, 0⟩) = ⟨rest, 0, c + 2, 0, 0⟩ := by
    unfold sized
    rw [if_neg hz]
    show St.counted n ⟨rest, 0, c + 1, 0, 0⟩ = _
    rw [counted_ok (by omega)]
  exact Run.post h1 (Run.star (st := ⟨42 :: rest, 0, c + 1, 0, 0⟩) (r := rOne sb) (signB_yes (by decide)) (by rw [sign_yes (by decide), e2]; exact postL_end hs))
theorem abL_stop (j : Nat) {rest : List Nat} (hs : Stop 3 rest) : Stop 4 (abL j ++ rest) := by
  cases j with
  | zero => exact hs.up
  | succ j => exact .inr ⟨97, _, rfl, rfl, rfl⟩
theorem ab_loop : ∀ (j : Nat) (l : List RE) (c : Nat) (rest : List Nat), Stop 3 rest → c + 3 * j ≤ 1000 → ∃ X, Run n (.catL l) ⟨abL j ++ rest, 0, c, 0, 0⟩ (X, ⟨rest, 0, c + 3 * j, 0, 0⟩)
  | 0, l, c, rest, hs, hc => ⟨_, catL_end hs⟩
  | j + 1, l, c, rest, hs, hc => by
    obtain ⟨X, h⟩ := ab_loop j (l ++ [rOne sa] ++ [rMany (rOne sb)]) (c + 1 + 2) rest hs (by omega)
    refine ⟨X, ?_⟩
    have e : c + 1 + 2 + 3 * j = c + 3 * (j + 1) := by omega
    rw [e] at h
    refine Run.catL (b := 97) (t := 98 :: 42 :: (abL j ++ rest)) rfl rfl (post_letter (n := n) (c := c) (d := 0) (rest := 98 :: 42 :: (abL j ++ rest)) (.inr ⟨98, _, rfl, rfl, rfl⟩) (by decide) (by omega)) ?_
    exact Run.catL (b := 98) (t := 42 :: (abL j ++ rest)) rfl rfl (bstar_rd (c := c + 1) (abL_stop j hs) (by omega)) h
/-- The texts ahead. -/
theorem ab_minus (k : Nat) (rest : List Nat) (hs : Stop 1 rest) (hk : 3 * (k + 1) ≤ 1000) : ∃ X, Run n .minus ⟨abL (k + 1) ++ rest, 0, 0, 0, 0⟩ (X, ⟨rest, 0, 3 * (k + 1), 0, 0⟩) := by
  obtain ⟨X, h⟩ := ab_loop (n := n) k ([rOne sa] ++ [rMany (rOne sb)]) 3 rest hs.up.up (by omega)
  have e : 3 + 3 * k = 3 * (k + 1) := by omega
  rw [e] at h
  have h1 : Run n .cat ⟨abL (k + 1) ++ rest, 0, 0, 0, 0⟩ (X, ⟨rest, 0, 3 * (k + 1), 0, 0⟩) := Run.cat (post_letter (n := n) (c := 0) (d := 0) (rest := 98 :: 42 :: (abL k ++ rest)) (.inr ⟨98, _, rfl, rfl, rfl⟩) (by decide) (by omega))
    (Run.catL (b := 98) (t := 42 :: (abL k ++ rest)) rfl rfl (bstar_rd (c := 0 + 1) (abL_stop k hs.up.up) (by omega)) h)
  exact ⟨_, Run.minus (Run.and h1 (andL_end hs.up)) (minusL_end hs)⟩
end
/-- What stands ahead: nothing, or some and an or. -/
def aheadL (k : Nat) : List Nat := if k = 0 then [] else abL k ++ [124]
theorem rdEnd_bad {l : List Nat} {e p : Nat} (hl : l.length ≤ 65536) (he : e ≠ 0) (h : Fails l.length .or (St.init l) e p) : (rdEnd l).err = e ∧ (rdEnd l).wh = p := by
  obtain ⟨r, s, h1, h2, h3, h4⟩ := h
  have hq := readQ_run hl h1
  unfold rdEnd
  rw [hq]
  have hs : s.skip = s := skip_nil h2
  simp only [hs, h2, List.isEmpty_nil, if_true]
  rw [if_neg (fun h => he (h3 ▸ h.1))]
  exact ⟨h3, h4⟩
/-- Behind what stands ahead. -/
theorem ahead_fails {t : List Nat} {k p : Nat} (hk : k ≤ 15) (ht : t.length ≤ 5) (h0 : ∀ n c, c ≤ 45 → Fails n .minus ⟨t, 0, c, 0, 0⟩ 2 (n - p)) (hp : p ≤ t.length) : (rdEnd (aheadL k ++ t)).err = 2 ∧ (rdEnd (aheadL k ++ t)).wh = (aheadL k).length + (t.length - p) := by
  have hlen : (aheadL k ++ t).length = (aheadL k).length + t.length := List.length_append
  have hal : (aheadL k).length ≤ 46 := by
    unfold aheadL; split
    · simp
    · simp [abL_len]; omega
  have key : Fails (aheadL k ++ t).length .or (St.init (aheadL k ++ t)) 2 ((aheadL k ++ t).length - p) := by
    unfold aheadL St.init
    split
    · exact Fails.or (h0 _ 0 (by omega))
    · rename_i hk0
      obtain ⟨j, rfl⟩ : ∃ j, k = j + 1 := ⟨k - 1, by omega⟩
      have e : abL (j + 1) ++ [124] ++ t = abL (j + 1) ++ 124 :: t := by simp
      rw [e]
      obtain ⟨X, h1⟩ := ab_minus (n := (abL (j + 1) ++ 124 :: t).length) j (124 :: t) (.inr ⟨124, _, rfl, rfl, rfl⟩) (by omega)
      have h2 : Fails (abL (j + 1) ++ 124 :: t).length (.orL [X]) ⟨124 :: t, 0, 3 * (j + 1), 0, 0⟩ 2 ((abL (j + 1) ++ 124 :: t).length - p) := Fails.orL (signB_yes (by decide)) (by rw [sign_yes (by decide)]; exact h0 _ _ (by omega))
      obtain ⟨r, s, g1, g2, g3⟩ := h2
      exact ⟨r, s, Run.or h1 g1, g2, g3⟩
  have := rdEnd_bad (by omega) (by decide) key
  rw [hlen] at this
  refine ⟨this.1, this.2.trans (by omega)⟩
theorem minus_letter {n c : Nat} {rest : List Nat} (hs : Stop 1 rest) (hc : c + 1 ≤ 1000) : Run n .minus ⟨97 :: rest, 0, c, 0, 0⟩ (rOne sa, ⟨rest, 0, c + 1, 0, 0⟩) := by
  have h := (letter_rd n 97 b97 (by decide)).down4
  have h3 := h.down3 (then_one1 sa_ne)
  have h2 := h3.down2 (both_one1 sa_ne)
  exact h2.down1 rest 0 c hs (by omega) (by omega)
theorem ahead_8 {k : Nat} (hk : k ≤ 15) : (rdEnd (aheadL k ++ [97, 124])).err = 2 ∧ (rdEnd (aheadL k ++ [97, 124])).wh = (aheadL k).length + 2 := by
  have hlen : (aheadL k ++ [97, 124]).length = (aheadL k).length + 2 := List.length_append
  have hal : (aheadL k).length ≤ 46 := by
    unfold aheadL; split
    · simp
    · simp [abL_len]; omega
  have tail : ∀ n c l, Fails n (.orL l) ⟨[124], 0, c, 0, 0⟩ 2 n := fun n c l => Fails.orL (signB_yes (by decide)) (by
    rw [sign_yes (by decide)]
    have := (fails_byte (n := n) (d := 0) (c := c) (t := []) rfl (fun b u h => by cases h) rfl).toMinus
    rw [List.length_nil, Nat.sub_zero] at this; exact this)
  have key : Fails (aheadL k ++ [97, 124]).length .or (St.init (aheadL k ++ [97, 124])) 2 (aheadL k ++ [97, 124]).length := by
    unfold aheadL St.init
    split
    · obtain ⟨r, s, g1, g2, g3⟩ := tail ([] ++ [97, 124]).length (0 + 1) [rOne sa]
      exact ⟨r, s, Run.or (minus_letter (rest := [124]) (.inr ⟨124, _, rfl, rfl, rfl⟩) (by decide)) g1, g2, g3⟩
    · rename_i hk0
      obtain ⟨j, rfl⟩ : ∃ j, k = j + 1 := ⟨k - 1, by omega⟩
      have e : abL (j + 1) ++ [124] ++ [97, 124] = abL (j + 1) ++ 124 :: [97, 124] := by simp
      rw [e]
      obtain ⟨X, h1⟩ := ab_minus (n := (abL (j + 1) ++ 124 :: [97, 124]).length) j (124 :: [97, 124]) (.inr ⟨124, _, rfl, rfl, rfl⟩) (by omega)
      obtain ⟨r, s, g1, g2, g3⟩ := tail (abL (j + 1) ++ 124 :: [97, 124]).length (3 * (j + 1) + 1) ([X] ++ [rOne sa])
      exact ⟨r, s, Run.or h1 (Run.orL (signB_yes (by decide)) (by rw [sign_yes (by decide)]; exact minus_letter (.inr ⟨124, _, rfl, rfl, rfl⟩) (by omega)) g1), g2, g3⟩
  have := rdEnd_bad (by omega) (by decide) key
  rw [hlen] at this
  exact this
theorem ahead_2 {k : Nat} (hk : k ≤ 15) : (rdEnd (aheadL k ++ [97, 41])).err = 2 ∧ (rdEnd (aheadL k ++ [97, 41])).wh = (aheadL k).length + 1 := by
  have hlen : (aheadL k ++ [97, 41]).length = (aheadL k).length + 2 := List.length_append
  have hal : (aheadL k).length ≤ 46 := by
    unfold aheadL; split
    · simp
    · simp [abL_len]; omega
  have key : ∃ r c, Run (aheadL k ++ [97, 41]).length .or (St.init (aheadL k ++ [97, 41])) (r, ⟨[41], 0, c, 0, 0⟩) := by
    unfold aheadL St.init
    split
    · exact ⟨_, _, Run.or (minus_letter (rest := [41]) (.inr ⟨41, _, rfl, rfl, rfl⟩) (by decide)) (orL_end (.inr ⟨41, _, rfl, rfl, rfl⟩))⟩
    · rename_i hk0
      obtain ⟨j, rfl⟩ : ∃ j, k = j + 1 := ⟨k - 1, by omega⟩
      have e : abL (j + 1) ++ [124] ++ [97, 41] = abL (j + 1) ++ 124 :: [97, 41] := by simp
      rw [e]
      obtain ⟨X, h1⟩ := ab_minus (n := (abL (j + 1) ++ 124 :: [97, 41]).length) j (124 :: [97, 41]) (.inr ⟨124, _, rfl, rfl, rfl⟩) (by omega)
      exact ⟨_, _, Run.or h1 (Run.orL (signB_yes (by decide)) (by rw [sign_yes (by decide)]; exact minus_letter (.inr ⟨41, _, rfl, rfl, rfl⟩) (by omega)) (orL_end (.inr ⟨41, _, rfl, rfl, rfl⟩)))⟩
  obtain ⟨r, c, h⟩ := key
  have hq := readQ_run (by omega) h
  unfold rdEnd
  rw [hq]
  have hs : St.skip ⟨[41], 0, c, 0, 0⟩ = ⟨[41], 0, c, 0, 0⟩ := rfl
  simp only [hs, List.isEmpty_cons, Bool.false_eq_true, if_false]
  rw [if_neg (fun h => absurd (show (2 : Nat) = 0 from h.1) (by decide))]
  refine ⟨rfl, ?_⟩
  show (aheadL k ++ [97, 41]).length - 1 = _
  omega
/-- All sixteen. -/
theorem err_all (i k : Nat) (hi : i < 16) (hk : k ≤ 15) : (rdEnd (aheadL k ++ (errT.getD i ([], 0)).1)).err = 2 ∧ (rdEnd (aheadL k ++ (errT.getD i ([], 0)).1)).wh = (aheadL k).length + (errT.getD i ([], 0)).2 := by
  match i, hi with
  | 0, _ => exact ahead_fails (t := [40]) (p := 0) hk (by decide) (fun n c hc => by rw [Nat.sub_zero]; exact err_0) (by decide)
  | 1, _ => exact ahead_fails (t := [40, 97]) (p := 0) hk (by decide) (fun n c hc => by rw [Nat.sub_zero]; exact err_1 (by omega)) (by decide)
  | 2, _ => exact ahead_2 hk
  | 3, _ => exact ahead_fails (t := [91, 97]) (p := 0) hk (by decide) (fun n c hc => by rw [Nat.sub_zero]; exact err_3) (by decide)
  | 4, _ => exact ahead_fails (t := [91, 98, 45, 97, 93]) (p := 1) hk (by decide) (fun n c hc => err_4) (by decide)
  | 5, _ => exact ahead_fails (t := [92, 113]) (p := 2) hk (by decide) (fun n c hc => err_5) (by decide)
  | 6, _ => exact ahead_fails (t := [92, 120, 49, 103]) (p := 4) hk (by decide) (fun n c hc => err_6) (by decide)
  | 7, _ => exact ahead_fails (t := [124]) (p := 1) hk (by decide) (fun n c hc => err_7) (by decide)
  | 8, _ => exact ahead_8 hk
  | 9, _ => exact ahead_fails (t := [97, 38, 42]) (p := 1) hk (by decide) (fun n c hc => err_9 (by omega)) (by decide)
  | 10, _ => exact ahead_fails (t := [40, 45, 97, 41]) (p := 3) hk (by decide) (fun n c hc => err_10) (by decide)
  | 11, _ => exact ahead_fails (t := [1]) (p := 1) hk (by decide) (fun n c hc => err_11) (by decide)
  | 12, _ => exact ahead_fails (t := [97, 93]) (p := 1) hk (by decide) (fun n c hc => err_12 (by omega)) (by decide)
  | 13, _ => exact ahead_fails (t := [92]) (p := 1) hk (by decide) (fun n c hc => err_13) (by decide)
  | 14, _ => exact ahead_fails (t := [91, 97, 45, 93]) (p := 1) hk (by decide) (fun n c hc => err_14) (by decide)
  | 15, _ => exact ahead_fails (t := [91, 40, 93]) (p := 2) hk (by decide) (fun n c hc => err_15) (by decide)
  | i + 16, hi => omega
theorem aheadL_len {k : Nat} (hk : k ≤ 15) : (aheadL k).length ≤ 46 := by
  unfold aheadL; split
  · simp
  · simp [abL_len]; omega
end Go.Proofs.YtjlgepahgmkamaaGreatDoor
