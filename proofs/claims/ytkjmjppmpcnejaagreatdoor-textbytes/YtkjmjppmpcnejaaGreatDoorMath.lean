/- Plain facts on sets of bytes as 256 bits, cut into four words. -/
import GoSem.Core.Value
namespace Go.Proofs.YtkjmjppmpcnejaaGreatDoor
set_option maxRecDepth 100000

/-- Word i of a set. -/
def wd (s : BitVec 256) (i : Nat) : Nat := (s.extractLsb' (64 * i) 64).toNat

/-- A set as the program holds it. -/
abbrev SV (s : BitVec 256) : Value := .agg #[.int .u64 (wd s 0), .int .u64 (wd s 1), .int .u64 (wd s 2), .int .u64 (wd s 3)]

theorem wd_lt (s : BitVec 256) (i : Nat) : wd s i < 18446744073709551616 := by
  unfold wd; exact (s.extractLsb' (64 * i) 64).isLt

theorem wd_testBit (s : BitVec 256) (i j : Nat) : (wd s i).testBit j = (decide (j < 64) && s.getLsbD (64 * i + j)) := by
  unfold wd; rw [BitVec.testBit_toNat, BitVec.getLsbD_extractLsb']

theorem wd_at (s : BitVec 256) (k : Nat) (h : k < 4) : [Value.int .u64 (wd s 0), .int .u64 (wd s 1), .int .u64 (wd s 2), .int .u64 (wd s 3)][k]? = some (.int .u64 (wd s k)) := by
  match k, h with
  | 0, _ => rfl
  | 1, _ => rfl
  | 2, _ => rfl
  | 3, _ => rfl

theorem wd_ext {s t : BitVec 256} (h0 : wd s 0 = wd t 0) (h1 : wd s 1 = wd t 1) (h2 : wd s 2 = wd t 2) (h3 : wd s 3 = wd t 3) : s = t := by
  apply BitVec.eq_of_getLsbD_eq
  intro i hi
  have key : ∀ k, k < 4 → wd s k = wd t k := by
    intro k hk
    match k, hk with
    | 0, _ => exact h0
    | 1, _ => exact h1
    | 2, _ => exact h2
    | 3, _ => exact h3
  have e := congrArg (fun n => Nat.testBit n (i % 64)) (key (i / 64) (by omega))
  simp only [wd_testBit] at e
  have hm : i % 64 < 64 := by omega
  have hs : 64 * (i / 64) + i % 64 = i := by omega
  simpa [hm, hs] using e

theorem wd_and (s t : BitVec 256) (i : Nat) : wd s i &&& wd t i = wd (s &&& t) i := by
  apply Nat.eq_of_testBit_eq; intro j
  simp only [Nat.testBit_and, wd_testBit, BitVec.getLsbD_and]
  cases decide (j < 64) <;> simp
theorem wd_or (s t : BitVec 256) (i : Nat) : wd s i ||| wd t i = wd (s ||| t) i := by
  apply Nat.eq_of_testBit_eq; intro j
  simp only [Nat.testBit_or, wd_testBit, BitVec.getLsbD_or]
  cases decide (j < 64) <;> simp

end Go.Proofs.YtkjmjppmpcnejaaGreatDoor
