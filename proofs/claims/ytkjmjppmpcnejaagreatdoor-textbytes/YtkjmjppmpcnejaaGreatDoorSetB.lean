/- Contracts of the small functions of package set: Not, All, Empty, Has; sets held against each other. -/
import Derived.Test.YtkjmjppmpcnejaaGreatDoorSetA
namespace Go.Proofs.YtkjmjppmpcnejaaGreatDoor
set_option maxRecDepth 100000
open Go.RowKit

theorem eq4 (a0 a1 a2 a3 b0 b1 b2 b3 : Int) (w : World) : (Op.equalIn 10000 42 (.agg #[.int .u64 a0, .int .u64 a1, .int .u64 a2, .int .u64 a3]) (.agg #[.int .u64 b0, .int .u64 b1, .int .u64 b2, .int .u64 b3])).run Tryz.prog w =
    .ok (a0 == b0 && (a1 == b1 && (a2 == b2 && a3 == b3))) w := by
  obtain ⟨i, hi⟩ : ∃ i, Tryz.prog.info? 40 = some i := Option.isSome_iff_exists.1 (by kernel_rfl)
  have h1 : Tryz.prog.cellsOf 40 = 1 := by kernel_rfl
  rw [run_equalIn_array w 9999 _ _ Tryz.underlying42 hi]
  simp only [show List.range 4 = [0, 1, 2, 3] from rfl, Op.eqItems, h1, Sem.run_bind]
  simp [go_sem]
  by_cases e0 : a0 = b0 <;> by_cases e1 : a1 = b1 <;> by_cases e2 : a2 = b2 <;> by_cases e3 : a3 = b3 <;> simp [e0, e1, e2, e3]

theorem eqSV_bool (s t : BitVec 256) : ((wd s 0 : Int) == (wd t 0 : Int) && ((wd s 1 : Int) == (wd t 1 : Int) && ((wd s 2 : Int) == (wd t 2 : Int) && (wd s 3 : Int) == (wd t 3 : Int)))) = (s == t) := by
  rw [Bool.eq_iff_iff]
  simp only [Bool.and_eq_true, beq_iff_eq]
  constructor
  · rintro ⟨h0, h1, h2, h3⟩; exact wd_ext (by omega) (by omega) (by omega) (by omega)
  · rintro rfl; exact ⟨rfl, rfl, rfl, rfl⟩
theorem eqSV (s t : BitVec 256) (w : World) : (Op.equalIn 10000 42 (SV s) (SV t)).run Tryz.prog w = .ok (s == t) w := by
  rw [eq4, eqSV_bool]
theorem wd_zero (i : Nat) : wd 0#256 i = 0 := by
  unfold wd; simp
theorem SV_zero : (.agg #[.int .u64 0, .int .u64 0, .int .u64 0, .int .u64 0] : Value) = SV 0#256 := by simp [SV, wd_zero]
theorem eqSV0 (s : BitVec 256) (w : World) : (Op.equalIn 10000 42 (SV s) (.agg #[.int .u64 0, .int .u64 0, .int .u64 0, .int .u64 0])).run Tryz.prog w = .ok (s == 0#256) w := by
  rw [SV_zero]; exact eqSV s 0#256 w

theorem bcell {W w1 : World} (hb : Below W.heap.size W w1) : (∀ b o, b < W.heap.size → w1.cell? ⟨b, o, none⟩ = W.cell? ⟨b, o, none⟩) ∧ (∀ b o, b < W.heap.size → w1.frozen? ⟨b, o, none⟩ = W.frozen? ⟨b, o, none⟩) :=
  ⟨fun b o h => hb.cell (p := ⟨b, o, none⟩) h, fun b o h => hb.frozen (p := ⟨b, o, none⟩) h⟩

theorem bits_not_wd (s : BitVec 256) (i : Nat) (hi : i < 4) : bits .xor .u64 IntKind.u64.max (wd s i : Int) = (wd (~~~s) i : Int) := by
  show IntKind.u64.wrap ((BitVec.ofInt 64 IntKind.u64.max ^^^ BitVec.ofInt 64 (wd s i : Int)).toNat : Int) = _
  rw [ofInt_wd, show BitVec.ofInt 64 IntKind.u64.max = BitVec.allOnes 64 by decide +kernel, BitVec.allOnes_xor, ext_not s i hi, wrap_bv]; rfl

set_option maxHeartbeats 400000 in
theorem not_any (s : BitVec 256) (w : World) :
    Calls Tryz.prog 22 #[SV s] w fun e w' => e = .returned (SV (~~~s)) ∧ Below w.heap.size w w' := by
  go_enter Tryz.func22, Tryz.ntmps22
  go_wp2
  refine wp_loop_rounds 5 ?_
  rw [rounds_succ]; go_wp2
  rw [rounds_succ]; go_wp2
  rw [rounds_succ]; go_wp2
  rw [rounds_succ]; go_wp2
  rw [rounds_succ]; go_wp2
  simp only [bits_not_wd s 0 (by omega), bits_not_wd s 1 (by omega), bits_not_wd s 2 (by omega), bits_not_wd s 3 (by omega)]
  exact bodyPost_ret (v := SV (~~~s)) (by simp [results, Tryz.results22, go_sem]) rfl ⟨rfl, ((Below.refl _ _).alloc (Nat.le_refl _) _).alloc (by simp) _⟩

/-- All bytes. -/
def allB : BitVec 256 := ~~~0#256

set_option maxHeartbeats 400000 in
theorem all_any (w : World) :
    Calls Tryz.prog 50 #[] w fun e w' => e = .returned (SV allB) ∧ Below w.heap.size w w' := by
  go_enter Tryz.func50, Tryz.ntmps50
  go_wp2_with fail
  rw [SV_zero]
  refine (not_any 0#256 _).mono ?_
  rw [show ~~~0#256 = allB from rfl]
  rintro e w1 ⟨rfl, hb⟩
  obtain ⟨hc, hf⟩ := bcell hb
  go_wp2
  refine bodyPost_ret (v := SV allB) (by simp [results, Tryz.results50, go_sem, hc]) rfl ⟨rfl, ?_⟩
  exact (((((((Below.refl _ _).alloc (Nat.le_refl _) _).trans (hb.mono (by simp))).setCell (by simp) _).setCell (by simp) _).setCell (by simp) _).setCell (by simp) _)

set_option maxHeartbeats 400000 in
theorem empty_any (s : BitVec 256) (w : World) :
    Calls Tryz.prog 46 #[SV s] w fun e w' => e = .returned (.bool (s == 0#256)) ∧ Below w.heap.size w w' := by
  have key := eqSV0 s
  go_enter Tryz.func46, Tryz.ntmps46
  go_wp2
  go_ret
  exact ⟨rfl, (Below.refl _ _).alloc (Nat.le_refl _) _⟩

theorem has_form (s : BitVec 256) (x : Int) (hx : 0 ≤ x) (hx2 : x < 256) :
    (bits BinOp.and IntKind.u64 ((wd s (x / 64).toNat : Int) / 2 ^ (x % 64).toNat) 1 == 1) = s.getLsbD x.toNat := by
  obtain ⟨n, rfl⟩ := Int.eq_ofNat_of_zero_le hx
  have e1 : ((n : Int) / 64).toNat = n / 64 := by omega
  have e2 : ((n : Int) % 64).toNat = n % 64 := by omega
  have hb := wd_testBit s (n / 64) (n % 64)
  have hs : 64 * (n / 64) + n % 64 = n := by omega
  rw [hs] at hb
  have hm : n % 64 < 64 := by omega
  simp only [hm, decide_true, Bool.true_and] at hb
  rw [e1, e2, Int.toNat_natCast, ← hb]
  have hl := wd_lt s (n / 64)
  generalize wd s (n / 64) = y at *
  generalize n % 64 = j at *
  have e3 : (y : Int) / 2 ^ j = ((y / 2 ^ j : Nat) : Int) := by rw [Int.natCast_ediv, Int.natCast_pow]; rfl
  have h4 : y / 2 ^ j < 18446744073709551616 := Nat.lt_of_le_of_lt (Nat.div_le_self _ _) hl
  rw [e3, show (1 : Int) = ((1 : Nat) : Int) from rfl, bits_and_u64_nat _ 1 h4 (by omega), Nat.and_one_is_mod, Nat.testBit_eq_decide_div_mod_eq]
  rw [Bool.eq_iff_iff]; simp; omega

end Go.Proofs.YtkjmjppmpcnejaaGreatDoor
