/- Texts of this claim put together: LxE1. -/
import Derived.Test.YtjlgepahgmkamaaGreatDoorJoinLxH
import Derived.Test.YtjlgepahgmkamaaGreatDoorJoinRunI
/- Texts that can't go on: where the reader of programs ends. -/
namespace Go.Proofs.YtjlgepahgmkamaaGreatDoor
set_option maxRecDepth 100000
set_option linter.unusedSimpArgs false
set_option linter.unusedVariables false
open Go.RowKit Go.Shelf St

theorem f_a40 {n : Nat} : Fails n .or ⟨[97, 40], 0, 0, 0, 0⟩ 2 n := by
  have hp : Fails n .post ⟨[40], 0, 1, 0, 0⟩ 2 n := by
    have h : Fails n .or ⟨[], 1, 1, 0, 0⟩ 2 (n - 0) := (fails_byte (n := n) (d := 1) (c := 1) (t := []) rfl (fun b u h => by cases h) rfl).toMinus.or
    rw [Nat.sub_zero] at h
    exact (f_paren (c := 1) (by decide) (by decide) rfl rfl h).post
  have hc : Fails n (.catL [rOne sa]) ⟨[40], 0, 1, 0, 0⟩ 2 n := Fails.catL (b := 40) (t := []) rfl (by decide) hp
  obtain ⟨r, s, g1, g2, g3⟩ := hc
  have h1 : Fails n .cat ⟨[97, 40], 0, 0, 0, 0⟩ 2 n := ⟨r, s, Run.cat (post_letter (.inr ⟨40, [], rfl, rfl, rfl⟩) (by decide) (by decide)) g1, g2, g3⟩
  exact h1.and.minus.or
theorem rd_a40 : (rdEnd [97, 40]).err = 2 ∧ (rdEnd [97, 40]).wh = 2 := rdEnd_bad (by decide) (by decide) f_a40
theorem rd_92q : (rdEnd [92, 113]).err = 2 := (err_all 5 0 (by decide) (by decide)).1
theorem rd_ba : (rdEnd [91, 98, 45, 97, 93]).err = 2 ∧ (rdEnd [91, 98, 45, 97, 93]).wh = 4 := err_all 4 0 (by decide) (by decide)

section
variable {s : ByteArray}
theorem drop_next {a c : Nat} {l : List Nat} (h : (bytesN s).drop a = c :: l) : (bytesN s).drop (a + 1) = l := by
  rw [← List.drop_drop, h]; rfl
theorem tokF_bl {a : Nat} {l : List Nat} (h : (bytesN s).drop a = 32 :: l) : tokF s a = tokF s (a + 1) := by
  unfold tokF
  rw [h, drop_next h, skN_bl (by decide), show a + (skN false l + 1) = a + 1 + skN false l from by omega]
theorem tokF_at {a c : Nat} {l : List Nat} (h : (bytesN s).drop a = c :: l) (hb : isBl c = false) (h35 : c ≠ 35) : tokF s a = tokB s a c := by
  have hc : (bytesN s)[a]? = some c := by
    have := congrArg (fun l => l[0]?) h
    simpa using this
  unfold tokF
  rw [h, skN_no hb h35, Nat.add_zero, hc]
theorem lexF_bl {f a : Nat} {l : List Nat} (h : (bytesN s).drop a = 32 :: l) : lexF s (f + 1) a = lexF s (f + 1) (a + 1) := by
  rw [lexF, lexF, tokF_bl h]
theorem size_of {a : Nat} {l : List Nat} (h : (bytesN s).drop a = l) (ha : a ≤ s.size) : s.size = a + l.length := by
  have := congrArg List.length h
  rw [List.length_drop, bN_len] at this
  omega
theorem lt_of {a c : Nat} {l : List Nat} (h : (bytesN s).drop a = c :: l) : a < s.size := by
  have := congrArg List.length h
  rw [List.length_drop, bN_len] at this
  simp at this
  omega
theorem bN_extract (i j : Nat) : bytesN (s.extract i j) = ((bytesN s).drop i).take (j - i) := by
  unfold bytesN
  rw [ByteArray.data_extract, Array.toList_extract, ← List.map_drop, ← List.map_take]
/-- x /a/ takes two tokens. -/
theorem pre_step {f a : Nat} {l : List Nat} {e : Nat × Nat} (h : (bytesN s).drop a = 120 :: 32 :: 47 :: 97 :: 47 :: 32 :: l) (he : lexF s (f + 1) (a + 6) = .inl e) : lexF s (f + 1 + 2) a = .inl e := by
  have d1 := drop_next h
  have d2 := drop_next d1
  have d3 := drop_next d2
  have d4 := drop_next d3
  have d5 := drop_next d4
  have t1 : tokF s a = .inr (⟨1, s.extract a (a + 1), none, a⟩, a + 1) := by
    rw [tokF_at h (by decide) (by decide)]
    unfold tokB
    rw [h, if_pos (by decide)]
    rfl
  have t2 : ∃ r, tokF s (a + 1 + 1) = .inr (⟨4, ⟨#[]⟩, some r, a + 1 + 1⟩, a + 1 + 1 + 1 + 1 + 1) := by
    rw [tokF_at d2 (by decide) (by decide)]
    have hr : reN (97 :: 47 :: 32 :: l) = 1 := by rw [reN_x _ (by decide) (by decide), reN_47]
    have hx : bytesN (s.extract (a + 1 + 1 + 1) (a + 1 + 1 + 1 + 1)) = byteW 97 := by
      rw [bN_extract, d3, show a + 1 + 1 + 1 + 1 - (a + 1 + 1 + 1) = 1 from by omega, b97]; rfl
    have hlt := lt_of d4
    unfold tokB
    rw [d3, hr, if_neg (by decide), if_neg (by decide), if_neg (by decide), if_pos rfl, if_neg (by omega), hx, if_pos (rd_byte (a := 97) (by omega)).2]
    exact ⟨_, rfl⟩
  obtain ⟨r, t2⟩ := t2
  rw [show f + 1 + 2 = f + 1 + 1 + 1 from rfl, lexF_tok t1 (by intro h; cases h), lexF_bl d1, lexF_tok t2 (by intro h; cases h), lexF_bl d5, show a + 1 + 1 + 1 + 1 + 1 + 1 = a + 6 from rfl, he]
  rfl
def preL : Nat → List Nat
  | 0 => []
  | k + 1 => 120 :: 32 :: 47 :: 97 :: 47 :: 32 :: preL k
theorem preL_len (k : Nat) : (preL k).length = 6 * k := by induction k with
  | zero => rfl
  | succ k ih => simp [preL, ih]; omega
theorem preL_snoc (k : Nat) : preL (k + 1) = preL k ++ [120, 32, 47, 97, 47, 32] := by induction k with
  | zero => rfl
  | succ k ih => exact congrArg (fun l => 120 :: 32 :: 47 :: 97 :: 47 :: 32 :: l) ih
theorem preL_lt (k : Nat) : ∀ x ∈ preL k, x < 256 := by
  induction k with
  | zero => intro x hx; cases hx
  | succ k ih =>
    intro x hx
    simp [preL] at hx
    rcases hx with rfl | rfl | rfl | rfl | rfl | rfl | hx
    · decide
    · decide
    · decide
    · decide
    · decide
    · decide
    · exact ih x hx
theorem pre_all {f : Nat} {e : Nat × Nat} {t : List Nat} : ∀ (k a : Nat), (bytesN s).drop a = preL k ++ t → lexF s (f + 1) (a + 6 * k) = .inl e → lexF s (f + 1 + 2 * k) a = .inl e
  | 0, a, _, he => he
  | k + 1, a, h, he => by
    have h6 : (bytesN s).drop (a + 6) = preL k ++ t := by rw [← List.drop_drop, h]; rfl
    have := pre_all k (a + 6) h6 (by rw [show a + 6 + 6 * k = a + 6 * (k + 1) from by omega]; exact he)
    rw [show f + 1 + 2 * k = (f + 2 * k) + 1 from by omega] at this
    have h2 := pre_step h this
    rw [show f + 2 * k + 1 + 2 = f + 1 + 2 * (k + 1) from by omega] at h2
    exact h2
theorem txN_fuel : ∀ (f g : Nat) (l : List Nat), l.length < f → l.length < g → txN f l = txN g l
  | 0, g, l, h, _ => absurd h (by omega)
  | f + 1, 0, l, _, h => absurd h (by omega)
  | f + 1, g + 1, [], _, _ => rfl
  | f + 1, g + 1, c :: r, hf, hg => by
    rw [txN, txN]
    by_cases h34 : c = 34
    · rw [if_pos h34, if_pos h34]
    · rw [if_neg h34, if_neg h34]
      by_cases h0 : (scanL (c :: r)).2 = 0
      · rw [if_pos h0, if_pos h0]
      · rw [if_neg h0, if_neg h0]
        have hd : ((c :: r).drop (scanL (c :: r)).2).length < f ∧ ((c :: r).drop (scanL (c :: r)).2).length < g := by
          rw [List.length_drop]
          simp only [List.length_cons] at hf hg ⊢
          omega
        rw [txN_fuel f g _ hd.1 hd.2]
theorem tokB_text {a : Nat} {l L : List Nat} {K : Nat} {F : Bool} (h : (bytesN s).drop a = 34 :: l) (ht : txN (l.length + 1) l = (L, K, F)) (hF : F = true ∨ K = l.length) : tokF s a = .inl (2, a + 1 + K) := by
  have hs := size_of h (Nat.le_of_lt (lt_of h))
  simp only [List.length_cons] at hs
  rw [tokF_at h (by decide) (by decide)]
  unfold tokB
  rw [drop_next h, txN_fuel (s.size + 1) (l.length + 1) l (by omega) (by omega), ht, if_neg (by decide), if_neg (by decide), if_pos rfl, if_pos (by rcases hF with hF | hF; exact .inl hF; exact .inr (by simp only; omega))]
theorem scanL_pl {c : Nat} {r : List Nat} (h : c ≠ 92) (hp : plainB c = true) : scanL (c :: r) = (c, 1) := by rw [scanL, if_neg h, if_pos hp]
/-- The tests: their texts, errors and places; test 6 is a long word. -/
def lxTests : List (List Nat × Nat × Nat) := [([34, 97, 98, 99], 2, 4), ([47, 97], 2, 2), ([47, 97, 40, 47], 2, 3), ([65], 2, 0), ([34, 97, 92, 113, 34], 2, 2), ([34, 10, 34], 2, 1), (List.replicate 31 122, 3, 0), ([57], 2, 0), ([47, 91, 98, 45, 97, 93, 47], 2, 5), ([97, 33], 2, 1), ([34, 97, 92, 34], 2, 4)]
theorem lx_end {a f j : Nat} (hj : j < 11) (h : (bytesN s).drop a = (lxTests.getD j ([], 0, 0)).1) : lexF s (f + 2) a = .inl ((lxTests.getD j ([], 0, 0)).2.1, a + (lxTests.getD j ([], 0, 0)).2.2) := by
  match j, hj with
  | 0, _ =>
    have h : (bytesN s).drop a = [34, 97, 98, 99] := h
    exact lexF_err (tokB_text h (L := [97, 98, 99]) (K := 3) (F := false) rfl (.inr rfl))
  | 1, _ =>
    have h : (bytesN s).drop a = [47, 97] := h
    have hs := size_of h (Nat.le_of_lt (lt_of h))
    refine lexF_err ?_
    rw [tokF_at h (by decide) (by decide)]
    unfold tokB
    have hr : reN [97] = 1 := by decide
    simp only [List.length_cons, List.length_nil] at hs
    rw [drop_next h, hr, if_neg (by decide), if_neg (by decide), if_neg (by decide), if_pos rfl, if_pos (by omega), hs]
    rfl
  | 2, _ =>
    have h : (bytesN s).drop a = [47, 97, 40, 47] := h
    have hs := size_of h (Nat.le_of_lt (lt_of h))
    simp only [List.length_cons, List.length_nil] at hs
    refine lexF_err ?_
    rw [tokF_at h (by decide) (by decide)]
    unfold tokB
    have hr : reN [97, 40, 47] = 2 := by decide
    have hx : bytesN (s.extract (a + 1) (a + 1 + 2)) = [97, 40] := by rw [bN_extract, drop_next h, show a + 1 + 2 - (a + 1) = 2 from by omega]; rfl
    rw [drop_next h, hr, if_neg (by decide), if_neg (by decide), if_neg (by decide), if_pos rfl, if_neg (by omega), hx, if_neg (by rw [rd_a40.1]; decide), rd_a40.1, rd_a40.2]
    rfl
  | 3, _ =>
    have h : (bytesN s).drop a = [65] := h
    refine lexF_err ?_
    rw [tokF_at h (by decide) (by decide)]
    rfl
  | 4, _ =>
    have h : (bytesN s).drop a = [34, 97, 92, 113, 34] := h
    have ht : txN 5 [97, 92, 113, 34] = ([97], 1, true) := by
      rw [txN, if_neg (by decide), scanL_pl (by decide) (by decide), if_neg (by decide)]
      have h2 : txN 4 [92, 113, 34] = ([], 0, true) := by
        rw [txN, if_neg (by decide), scanL, if_pos rfl]
        have e : ([92, 113, 34] : List Nat).take (if ([113, 34] : List Nat).head? = some 120 then 4 else 2) = [92, 113] := rfl
        have e2 : (if (rdEnd [92, 113]).err = 0 then (leastN (readQ [92, 113]).1, ([92, 113] : List Nat).length) else (0, 0)) = ((0, 0) : Nat × Nat) := if_neg (by rw [rd_92q]; decide)
        rw [e, e2, if_pos rfl]
      exact congrArg (fun z : List Nat × Nat × Bool => (97 :: z.1, 1 + z.2.1, z.2.2)) h2
    exact lexF_err (tokB_text h (L := [97]) (K := 1) (F := true) ht (.inl rfl))
  | 5, _ =>
    have h : (bytesN s).drop a = [34, 10, 34] := h
    exact lexF_err (tokB_text h (L := []) (K := 0) (F := true) rfl (.inl rfl))
  | 6, _ =>
    have h : (bytesN s).drop a = List.replicate 31 122 := h
    refine lexF_err ?_
    rw [tokF_at (l := List.replicate 30 122) h (by decide) (by decide)]
    unfold tokB
    rw [h, if_pos (by decide), if_pos (by decide)]
    rfl
  | 7, _ =>
    have h : (bytesN s).drop a = [57] := h
    refine lexF_err ?_
    rw [tokF_at h (by decide) (by decide)]
    rfl
  | 8, _ =>
    have h : (bytesN s).drop a = [47, 91, 98, 45, 97, 93, 47] := h
    have hs := size_of h (Nat.le_of_lt (lt_of h))
    simp only [List.length_cons, List.length_nil] at hs
    refine lexF_err ?_
    rw [tokF_at h (by decide) (by decide)]
    unfold tokB
    have hr : reN [91, 98, 45, 97, 93, 47] = 5 := by decide
    have hx : bytesN (s.extract (a + 1) (a + 1 + 5)) = [91, 98, 45, 97, 93] := by rw [bN_extract, drop_next h, show a + 1 + 5 - (a + 1) = 5 from by omega]; rfl
    rw [drop_next h, hr, if_neg (by decide), if_neg (by decide), if_neg (by decide), if_pos rfl, if_neg (by omega), hx, if_neg (by rw [rd_ba.1]; decide), rd_ba.1, rd_ba.2]
    rfl
  | 9, _ =>
    have h : (bytesN s).drop a = [97, 33] := h
    have t1 : tokF s a = .inr (⟨1, s.extract a (a + 1), none, a⟩, a + 1) := by
      rw [tokF_at h (by decide) (by decide)]
      unfold tokB
      rw [h, if_pos (by decide)]
      rfl
    have t2 : tokF s (a + 1) = .inl (2, a + 1) := by
      rw [tokF_at (drop_next h) (by decide) (by decide)]
      rfl
    rw [lexF_tok t1 (by intro h; cases h), lexF_err t2]
    rfl
  | 10, _ =>
    have h : (bytesN s).drop a = [34, 97, 92, 34] := h
    have ht : ∃ L, txN 4 [97, 92, 34] = (L, 3, false) := by
      have h2 : ∃ L, txN 3 [92, 34] = (L, 2, false) := by
        rw [txN, if_neg (by decide), scanL, if_pos rfl]
        have e : ([92, 34] : List Nat).take (if ([34] : List Nat).head? = some 120 then 4 else 2) = byteW 34 := by decide
        rw [e, if_pos (rd_byte (a := 34) (by omega)).2]
        exact ⟨_, rfl⟩
      obtain ⟨L, h2⟩ := h2
      rw [txN, if_neg (by decide), scanL_pl (by decide) (by decide), if_neg (by decide)]
      refine ⟨97 :: L, ?_⟩
      exact congrArg (fun z : List Nat × Nat × Bool => (97 :: z.1, 1 + z.2.1, z.2.2)) h2
    obtain ⟨L, ht⟩ := ht
    exact lexF_err (tokB_text h (L := L) (K := 3) (F := false) ht (.inr rfl))
  | j + 11, hj => omega
/-- All of them, behind as many words and expressions. -/
theorem lx_errs {k j : Nat} (hj : j < 11) (hs : bytesN s = preL k ++ (lxTests.getD j ([], 0, 0)).1) : lexT s = .inl ((lxTests.getD j ([], 0, 0)).2.1, 6 * k + (lxTests.getD j ([], 0, 0)).2.2) := by
  have hl : 0 < (lxTests.getD j ([], 0, 0)).1.length := by
    have h : ∀ j, j < 11 → 0 < (lxTests.getD j ([], 0, 0)).1.length := by decide
    exact h j hj
  have hsz : s.size = 6 * k + (lxTests.getD j ([], 0, 0)).1.length := by rw [← bN_len, hs, List.length_append, preL_len]
  unfold lexT
  obtain ⟨f, hf⟩ : ∃ f, s.size + 1 = f + 1 + 1 + 2 * k := ⟨s.size - 1 - 2 * k, by omega⟩
  rw [hf]
  refine pre_all (f := f + 1) k 0 (by rw [List.drop_zero, hs]) ?_
  rw [Nat.zero_add]
  exact lx_end hj (by rw [hs, List.drop_left' (preL_len k)])
end
end Go.Proofs.YtjlgepahgmkamaaGreatDoor
