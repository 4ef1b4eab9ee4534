/- Contracts of the small functions of package set: Has, And, Or, Minus, Not, All, Empty. -/
import Derived.Test.YtkjmjppmpcnejaaGreatDoorProg
import Derived.Test.YtkjmjppmpcnejaaGreatDoorMath
import Derived.WalkKit
import Derived.LoopN
import Derived.Laws.Bits64b
import Derived.BigQuiet
import Derived.BigRegion
import Derived.Deep.QuietTactic
import Derived.RegionTactic
import Derived.ChangeAlike
namespace Go.Proofs.YtkjmjppmpcnejaaGreatDoor
set_option maxRecDepth 100000
open Go.RowKit

theorem ofInt_wd (s : BitVec 256) (i : Nat) : BitVec.ofInt 64 (wd s i : Int) = s.extractLsb' (64 * i) 64 := by
  unfold wd; rw [BitVec.ofInt_natCast, BitVec.ofNat_toNat, BitVec.setWidth_eq]
theorem wrap_bv (x : BitVec 64) : IntKind.u64.wrap (x.toNat : Int) = (x.toNat : Int) := by
  have := x.isLt; rw [IntKind.wrap_u64]; omega
theorem bits_and_wd (s t : BitVec 256) (i : Nat) : bits .and .u64 (wd s i : Int) (wd t i : Int) = (wd (s &&& t) i : Int) := by
  show IntKind.u64.wrap ((BitVec.ofInt 64 (wd s i : Int) &&& BitVec.ofInt 64 (wd t i : Int)).toNat : Int) = _
  rw [ofInt_wd, ofInt_wd, wrap_bv, ← BitVec.extractLsb'_and]; rfl
theorem bits_or_wd (s t : BitVec 256) (i : Nat) : bits .or .u64 (wd s i : Int) (wd t i : Int) = (wd (s ||| t) i : Int) := by
  show IntKind.u64.wrap ((BitVec.ofInt 64 (wd s i : Int) ||| BitVec.ofInt 64 (wd t i : Int)).toNat : Int) = _
  rw [ofInt_wd, ofInt_wd, wrap_bv, ← BitVec.extractLsb'_or]; rfl
theorem ext_not (t : BitVec 256) (i : Nat) (hi : i < 4) : ~~~(t.extractLsb' (64 * i) 64) = (~~~t).extractLsb' (64 * i) 64 := by
  apply BitVec.eq_of_getLsbD_eq; intro j hj
  simp only [BitVec.getLsbD_not, BitVec.getLsbD_extractLsb', hj, decide_true, Bool.true_and]
  have : 64 * i + j < 256 := by omega
  simp [this]
theorem bits_minus_wd (s t : BitVec 256) (i : Nat) (hi : i < 4) : bits .andNot .u64 (wd s i : Int) (wd t i : Int) = (wd (s &&& ~~~t) i : Int) := by
  show IntKind.u64.wrap ((BitVec.ofInt 64 (wd s i : Int) &&& ~~~(BitVec.ofInt 64 (wd t i : Int))).toNat : Int) = _
  rw [ofInt_wd, ofInt_wd, ext_not t i hi, wrap_bv, ← BitVec.extractLsb'_and]; rfl

set_option maxHeartbeats 400000 in
theorem and_any (s t : BitVec 256) (w : World) :
    Calls Tryz.prog 54 #[SV s, SV t] w fun e w' => e = .returned (SV (s &&& t)) ∧ Below w.heap.size w w' := by
  go_enter Tryz.func54, Tryz.ntmps54
  go_wp2
  refine wp_loop_rounds 5 ?_
  rw [rounds_succ]; go_wp2; go_region; go_wp2
  rw [rounds_succ]; go_wp2; go_region; go_wp2
  rw [rounds_succ]; go_wp2; go_region; go_wp2
  rw [rounds_succ]; go_wp2; go_region; go_wp2
  rw [rounds_succ]; go_wp2
  simp only [bits_and_wd]
  exact bodyPost_ret (v := SV (s &&& t)) (by simp [results, Tryz.results54, go_sem]) rfl ⟨rfl, ((((((Below.refl _ _).alloc (Nat.le_refl _) _).alloc (by simp) _).alloc (by simp; omega) _).drew).drew).drew.drew⟩

set_option maxHeartbeats 400000 in
theorem or_any (s t : BitVec 256) (w : World) :
    Calls Tryz.prog 57 #[SV s, SV t] w fun e w' => e = .returned (SV (s ||| t)) ∧ Below w.heap.size w w' := by
  go_enter Tryz.func57, Tryz.ntmps57
  go_wp2
  refine wp_loop_rounds 5 ?_
  rw [rounds_succ]; go_wp2; go_region; go_wp2
  rw [rounds_succ]; go_wp2; go_region; go_wp2
  rw [rounds_succ]; go_wp2; go_region; go_wp2
  rw [rounds_succ]; go_wp2; go_region; go_wp2
  rw [rounds_succ]; go_wp2
  simp only [bits_or_wd]
  exact bodyPost_ret (v := SV (s ||| t)) (by simp [results, Tryz.results57, go_sem]) rfl ⟨rfl, ((((((Below.refl _ _).alloc (Nat.le_refl _) _).alloc (by simp) _).alloc (by simp; omega) _).drew).drew).drew.drew⟩

set_option maxHeartbeats 400000 in
theorem minus_any (s t : BitVec 256) (w : World) :
    Calls Tryz.prog 56 #[SV s, SV t] w fun e w' => e = .returned (SV (s &&& ~~~t)) ∧ Below w.heap.size w w' := by
  go_enter Tryz.func56, Tryz.ntmps56
  go_wp2
  refine wp_loop_rounds 5 ?_
  rw [rounds_succ]; go_wp2; go_region; go_wp2
  rw [rounds_succ]; go_wp2; go_region; go_wp2
  rw [rounds_succ]; go_wp2; go_region; go_wp2
  rw [rounds_succ]; go_wp2; go_region; go_wp2
  rw [rounds_succ]; go_wp2
  simp only [bits_minus_wd s t 0 (by omega), bits_minus_wd s t 1 (by omega), bits_minus_wd s t 2 (by omega), bits_minus_wd s t 3 (by omega)]
  exact bodyPost_ret (v := SV (s &&& ~~~t)) (by simp [results, Tryz.results56, go_sem]) rfl ⟨rfl, ((((((Below.refl _ _).alloc (Nat.le_refl _) _).alloc (by simp) _).alloc (by simp; omega) _).drew).drew).drew.drew⟩

end Go.Proofs.YtkjmjppmpcnejaaGreatDoor
