/- Texts of this claim put together: Math, SetA. -/
import GoSem.Core.Value
import Derived.Test.YthhfpjehamhcbaaGreatDoorProg
import Derived.WalkKit
import Derived.LoopN
import Derived.Laws.Bits64b
import Derived.BigQuiet
import Derived.BigRegion
import Derived.Deep.QuietTactic
import Derived.RegionTactic
import Derived.ChangeAlike
/- Plain facts on sets of bytes as 256 bits, cut into four words. -/
namespace Go.Proofs.YthhfpjehamhcbaaGreatDoor
set_option maxRecDepth 100000

/-- Word i of a set. -/
def wd (s : BitVec 256) (i : Nat) : Nat := (s.extractLsb' (64 * i) 64).toNat

/-- A set as the program holds it. -/
abbrev SV (s : BitVec 256) : Value := .agg #[.int .u64 (wd s 0), .int .u64 (wd s 1), .int .u64 (wd s 2), .int .u64 (wd s 3)]

theorem wd_lt (s : BitVec 256) (i : Nat) : wd s i < 18446744073709551616 := by
  unfold wd; exact (s.extractLsb' (64 * i) 64).isLt

theorem wd_testBit (s : BitVec 256) (i j : Nat) : (wd s i).testBit j = (decide (j < 64) && s.getLsbD (64 * i + j)) := by
  unfold wd; rw [BitVec.testBit_toNat, BitVec.getLsbD_extractLsb']

theorem wd_at (s : BitVec 256) (k : Nat) (h : k < 4) : [Value.int .u64 (wd s 0), .int .u64 (wd s 1), .int .u64 (wd s 2), .int .u64 (wd s 3)][k]? = some (.int .u64 (wd s k)) := by
  match k, h with
  | 0, _ => rfl
  | 1, _ => rfl
  | 2, _ => rfl
  | 3, _ => rfl

theorem wd_ext {s t : BitVec 256} (h0 : wd s 0 = wd t 0) (h1 : wd s 1 = wd t 1) (h2 : wd s 2 = wd t 2) (h3 : wd s 3 = wd t 3) : s = t := by
  apply BitVec.eq_of_getLsbD_eq
  intro i hi
  have key : ∀ k, k < 4 → wd s k = wd t k := by
    intro k hk
    match k, hk with
    | 0, _ => exact h0
    | 1, _ => exact h1
    | 2, _ => exact h2
    | 3, _ => exact h3
  have e := congrArg (fun n => Nat.testBit n (i % 64)) (key (i / 64) (by omega))
  simp only [wd_testBit] at e
  have hm : i % 64 < 64 := by omega
  have hs : 64 * (i / 64) + i % 64 = i := by omega
  simpa [hm, hs] using e

theorem wd_and (s t : BitVec 256) (i : Nat) : wd s i &&& wd t i = wd (s &&& t) i := by
  apply Nat.eq_of_testBit_eq; intro j
  simp only [Nat.testBit_and, wd_testBit, BitVec.getLsbD_and]
  cases decide (j < 64) <;> simp
theorem wd_or (s t : BitVec 256) (i : Nat) : wd s i ||| wd t i = wd (s ||| t) i := by
  apply Nat.eq_of_testBit_eq; intro j
  simp only [Nat.testBit_or, wd_testBit, BitVec.getLsbD_or]
  cases decide (j < 64) <;> simp

end Go.Proofs.YthhfpjehamhcbaaGreatDoor
/- Contracts of the small functions of package set: Has, And, Or, Minus, Not, All, Empty. -/
namespace Go.Proofs.YthhfpjehamhcbaaGreatDoor
set_option maxRecDepth 100000
open Go.RowKit

theorem ofInt_wd (s : BitVec 256) (i : Nat) : BitVec.ofInt 64 (wd s i : Int) = s.extractLsb' (64 * i) 64 := by
  unfold wd; rw [BitVec.ofInt_natCast, BitVec.ofNat_toNat, BitVec.setWidth_eq]
theorem wrap_bv (x : BitVec 64) : IntKind.u64.wrap (x.toNat : Int) = (x.toNat : Int) := by
  have := x.isLt; rw [IntKind.wrap_u64]; omega
theorem bits_and_wd (s t : BitVec 256) (i : Nat) : bits .and .u64 (wd s i : Int) (wd t i : Int) = (wd (s &&& t) i : Int) := by
  show IntKind.u64.wrap ((BitVec.ofInt 64 (wd s i : Int) &&& BitVec.ofInt 64 (wd t i : Int)).toNat : Int) = _
  rw [ofInt_wd, ofInt_wd, wrap_bv, ← BitVec.extractLsb'_and]; rfl
theorem bits_or_wd (s t : BitVec 256) (i : Nat) : bits .or .u64 (wd s i : Int) (wd t i : Int) = (wd (s ||| t) i : Int) := by
  show IntKind.u64.wrap ((BitVec.ofInt 64 (wd s i : Int) ||| BitVec.ofInt 64 (wd t i : Int)).toNat : Int) = _
  rw [ofInt_wd, ofInt_wd, wrap_bv, ← BitVec.extractLsb'_or]; rfl
theorem ext_not (t : BitVec 256) (i : Nat) (hi : i < 4) : ~~~(t.extractLsb' (64 * i) 64) = (~~~t).extractLsb' (64 * i) 64 := by
  apply BitVec.eq_of_getLsbD_eq; intro j hj
  simp only [BitVec.getLsbD_not, BitVec.getLsbD_extractLsb', hj, decide_true, Bool.true_and]
  have : 64 * i + j < 256 := by omega
  simp [this]
theorem bits_minus_wd (s t : BitVec 256) (i : Nat) (hi : i < 4) : bits .andNot .u64 (wd s i : Int) (wd t i : Int) = (wd (s &&& ~~~t) i : Int) := by
  show IntKind.u64.wrap ((BitVec.ofInt 64 (wd s i : Int) &&& ~~~(BitVec.ofInt 64 (wd t i : Int))).toNat : Int) = _
  rw [ofInt_wd, ofInt_wd, ext_not t i hi, wrap_bv, ← BitVec.extractLsb'_and]; rfl

set_option maxHeartbeats 400000 in
theorem and_any (s t : BitVec 256) (w : World) :
    Calls Tryz.prog 58 #[SV s, SV t] w fun e w' => e = .returned (SV (s &&& t)) ∧ Below w.heap.size w w' := by
  go_enter Tryz.func58, Tryz.ntmps58
  go_wp2
  refine wp_loop_rounds 5 ?_
  rw [rounds_succ]; go_wp2; go_region; go_wp2
  rw [rounds_succ]; go_wp2; go_region; go_wp2
  rw [rounds_succ]; go_wp2; go_region; go_wp2
  rw [rounds_succ]; go_wp2; go_region; go_wp2
  rw [rounds_succ]; go_wp2
  simp only [bits_and_wd]
  exact bodyPost_ret (v := SV (s &&& t)) (by simp [results, Tryz.results58, go_sem]) rfl ⟨rfl, ((((((Below.refl _ _).alloc (Nat.le_refl _) _).alloc (by simp) _).alloc (by simp; omega) _).drew).drew).drew.drew⟩

set_option maxHeartbeats 400000 in
theorem or_any (s t : BitVec 256) (w : World) :
    Calls Tryz.prog 61 #[SV s, SV t] w fun e w' => e = .returned (SV (s ||| t)) ∧ Below w.heap.size w w' := by
  go_enter Tryz.func61, Tryz.ntmps61
  go_wp2
  refine wp_loop_rounds 5 ?_
  rw [rounds_succ]; go_wp2; go_region; go_wp2
  rw [rounds_succ]; go_wp2; go_region; go_wp2
  rw [rounds_succ]; go_wp2; go_region; go_wp2
  rw [rounds_succ]; go_wp2; go_region; go_wp2
  rw [rounds_succ]; go_wp2
  simp only [bits_or_wd]
  exact bodyPost_ret (v := SV (s ||| t)) (by simp [results, Tryz.results61, go_sem]) rfl ⟨rfl, ((((((Below.refl _ _).alloc (Nat.le_refl _) _).alloc (by simp) _).alloc (by simp; omega) _).drew).drew).drew.drew⟩

set_option maxHeartbeats 400000 in
theorem minus_any (s t : BitVec 256) (w : World) :
    Calls Tryz.prog 60 #[SV s, SV t] w fun e w' => e = .returned (SV (s &&& ~~~t)) ∧ Below w.heap.size w w' := by
  go_enter Tryz.func60, Tryz.ntmps60
  go_wp2
  refine wp_loop_rounds 5 ?_
  rw [rounds_succ]; go_wp2; go_region; go_wp2
  rw [rounds_succ]; go_wp2; go_region; go_wp2
  rw [rounds_succ]; go_wp2; go_region; go_wp2
  rw [rounds_succ]; go_wp2; go_region; go_wp2
  rw [rounds_succ]; go_wp2
  simp only [bits_minus_wd s t 0 (by omega), bits_minus_wd s t 1 (by omega), bits_minus_wd s t 2 (by omega), bits_minus_wd s t 3 (by omega)]
  exact bodyPost_ret (v := SV (s &&& ~~~t)) (by simp [results, Tryz.results60, go_sem]) rfl ⟨rfl, ((((((Below.refl _ _).alloc (Nat.le_refl _) _).alloc (by simp) _).alloc (by simp; omega) _).drew).drew).drew.drew⟩

end Go.Proofs.YthhfpjehamhcbaaGreatDoor
