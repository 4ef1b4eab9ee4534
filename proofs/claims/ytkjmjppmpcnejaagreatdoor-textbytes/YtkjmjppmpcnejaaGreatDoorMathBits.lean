/- The bits of a word, the lowest first; the bytes of a set, in order. -/
import Derived.Lib.TrailingZeros
import Derived.Test.YtkjmjppmpcnejaaGreatDoorMath
import Derived.Laws.Bits64b
namespace Go.Proofs.YtkjmjppmpcnejaaGreatDoor
set_option maxRecDepth 100000

/-- The lowest bit cut off. -/
theorem cut_low (f x : Nat) (h0 : 0 < x) (h : x < 2 ^ f) (j : Nat) : (x &&& (x - 1)).testBit j = (x.testBit j && !decide (j = Lib.ctzFrom f x)) := by
  obtain ⟨m, hm, _⟩ := Lib.ctzFrom_spec f x h0 h
  generalize Lib.ctzFrom f x = k at *
  have hp : 0 < 2 ^ k := Nat.two_pow_pos k
  have e1 : x = 2 ^ k * (2 * m + 1) + 0 := by omega
  have e2 : x - 1 = 2 ^ k * (2 * m) + (2 ^ k - 1) := by
    rw [hm, Nat.mul_add, Nat.mul_one]; omega
  rw [Nat.testBit_and, e2, Nat.testBit_two_pow_mul_add _ (by omega)]
  conv => lhs; rw [e1, Nat.testBit_two_pow_mul_add _ hp]
  conv => rhs; rw [e1, Nat.testBit_two_pow_mul_add _ hp]
  by_cases hj : j < k
  · simp [hj]
  · simp only [hj, if_false]
    by_cases he : j = k
    · subst he; simp
    · obtain ⟨i, rfl⟩ : ∃ i, j = k + (i + 1) := ⟨j - k - 1, by omega⟩
      have e3 : k + (i + 1) - k = i + 1 := by omega
      rw [e3, Nat.testBit_succ, Nat.testBit_succ, show (2 * m + 1) / 2 = m from by omega, show 2 * m / 2 = m from by omega]
      have hne : (k + (i + 1) = k) = False := by simp
      simp only [hne, decide_false]
      cases m.testBit i <;> rfl
theorem low_bit (f x : Nat) (h0 : 0 < x) (h : x < 2 ^ f) : x.testBit (Lib.ctzFrom f x) = true ∧ ∀ j, j < Lib.ctzFrom f x → x.testBit j = false := by
  obtain ⟨m, hm, _⟩ := Lib.ctzFrom_spec f x h0 h
  generalize Lib.ctzFrom f x = k at *
  have hp : 0 < 2 ^ k := Nat.two_pow_pos k
  have e1 : x = 2 ^ k * (2 * m + 1) + 0 := by omega
  constructor
  · rw [e1, Nat.testBit_two_pow_mul_add _ hp]; simp
  · intro j hj; rw [e1, Nat.testBit_two_pow_mul_add _ hp]; simp [hj]

/-- The places of the bits of x that are 1, of the first 64. -/
def bitsL (x : Nat) : List Nat := (List.range 64).filter fun j => x.testBit j
theorem range_split (n c : Nat) (h : c < n) : List.range n = List.range c ++ c :: List.range' (c + 1) (n - c - 1) := by
  rw [List.range_eq_range', List.range_eq_range', show c :: List.range' (c + 1) (n - c - 1) = List.range' c (n - c) from by
    rw [show n - c = (n - c - 1) + 1 from by omega, List.range'_succ]; simp]
  have := List.range'_append (s := 0) (m := c) (n := n - c) (step := 1)
  rw [Nat.one_mul, Nat.zero_add, show c + (n - c) = n from by omega] at this
  exact this.symm
theorem bitsL_zero : bitsL 0 = [] := by simp [bitsL]
theorem bitsL_step (x : Nat) (h0 : 0 < x) (h : x < 2 ^ 64) : bitsL x = Lib.ctzFrom 64 x :: bitsL (x &&& (x - 1)) := by
  obtain ⟨h1, h2⟩ := low_bit 64 x h0 h
  have h3 := cut_low 64 x h0 h
  obtain ⟨_, _, hk⟩ := Lib.ctzFrom_spec 64 x h0 h
  generalize Lib.ctzFrom 64 x = c at *
  unfold bitsL
  simp only [h3]
  rw [range_split 64 c hk, List.filter_append, List.filter_append, List.filter_cons, List.filter_cons]
  have e1 : (List.range c).filter (fun j => x.testBit j) = [] := by
    rw [List.filter_eq_nil_iff]; intro j hj; rw [h2 j (by simpa using hj)]; simp
  have e2 : (List.range c).filter (fun j => x.testBit j && !decide (j = c)) = [] := by
    rw [List.filter_eq_nil_iff]; intro j hj; rw [h2 j (by simpa using hj)]; simp
  rw [e1, e2]
  simp only [h1, decide_true, Bool.not_true, Bool.and_false, if_true, List.nil_append]
  congr 1
  apply List.filter_congr
  intro j hj
  have : ¬ j = c := by have := List.mem_range'_1.1 hj; omega
  simp [this]
theorem and_pred_lt (x : Nat) (h0 : 0 < x) : x &&& (x - 1) < x := Nat.lt_of_le_of_lt Nat.and_le_right (by omega)

/-- The bytes of word i of a set. -/
def wb (s : BitVec 256) (i : Nat) : List Nat := (bitsL (wd s i)).map (64 * i + ·)
/-- The bytes of the first k words. -/
def upto (s : BitVec 256) : Nat → List Nat
  | 0 => []
  | k + 1 => upto s k ++ wb s k
/-- The bytes of a set, in order. -/
def bytesOf (s : BitVec 256) : List Nat := upto s 4
theorem upto_prefix (s : BitVec 256) (k : Nat) (hk : k ≤ 4) : upto s k <+: bytesOf s := by
  have h1 : ∀ j, upto s j <+: upto s (j + 1) := fun j => ⟨_, rfl⟩
  match k, hk with
  | 0, _ => exact ((h1 0).trans (h1 1)).trans ((h1 2).trans (h1 3))
  | 1, _ => exact (h1 1).trans ((h1 2).trans (h1 3))
  | 2, _ => exact (h1 2).trans (h1 3)
  | 3, _ => exact h1 3
  | 4, _ => exact List.prefix_rfl

theorem upto_filter (s : BitVec 256) (k : Nat) : upto s k = (List.range (64 * k)).filter (fun b => s.getLsbD b) := by
  induction k with
  | zero => rfl
  | succ k ih =>
    rw [upto, ih, show 64 * (k + 1) = 64 * k + 64 from by omega, List.range_add, List.filter_append]
    congr 1
    unfold wb bitsL
    rw [List.filter_map]
    congr 1
    apply List.filter_congr
    intro j hj
    rw [wd_testBit]
    have : j < 64 := by simpa using hj
    simp [this, Function.comp]
theorem bytesOf_filter (s : BitVec 256) : bytesOf s = (List.range 256).filter (fun b => s.getLsbD b) := upto_filter s 4

end Go.Proofs.YtkjmjppmpcnejaaGreatDoor
