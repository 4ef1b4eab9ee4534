/- Texts of this claim put together: SetB, MathPop. -/
import Derived.Test.YthhfpjehamhcbaaGreatDoorJoinSetA
import Derived.Laws.Bits64b
/- Contracts of the small functions of package set: Not, All, Empty, Has; sets held against each other. -/
namespace Go.Proofs.YthhfpjehamhcbaaGreatDoor
set_option maxRecDepth 100000
open Go.RowKit

theorem eq4 (a0 a1 a2 a3 b0 b1 b2 b3 : Int) (w : World) : (Op.equalIn 10000 49 (.agg #[.int .u64 a0, .int .u64 a1, .int .u64 a2, .int .u64 a3]) (.agg #[.int .u64 b0, .int .u64 b1, .int .u64 b2, .int .u64 b3])).run Tryz.prog w =
    .ok (a0 == b0 && (a1 == b1 && (a2 == b2 && a3 == b3))) w := by
  obtain ⟨i, hi⟩ : ∃ i, Tryz.prog.info? 47 = some i := Option.isSome_iff_exists.1 (by kernel_rfl)
  have h1 : Tryz.prog.cellsOf 47 = 1 := by kernel_rfl
  rw [run_equalIn_array w 9999 _ _ Tryz.underlying49 hi]
  simp only [show List.range 4 = [0, 1, 2, 3] from rfl, Op.eqItems, h1, Sem.run_bind]
  simp [go_sem]
  by_cases e0 : a0 = b0 <;> by_cases e1 : a1 = b1 <;> by_cases e2 : a2 = b2 <;> by_cases e3 : a3 = b3 <;> simp [e0, e1, e2, e3]

theorem eqSV_bool (s t : BitVec 256) : ((wd s 0 : Int) == (wd t 0 : Int) && ((wd s 1 : Int) == (wd t 1 : Int) && ((wd s 2 : Int) == (wd t 2 : Int) && (wd s 3 : Int) == (wd t 3 : Int)))) = (s == t) := by
  rw [Bool.eq_iff_iff]
  simp only [Bool.and_eq_true, beq_iff_eq]
  constructor
  · rintro ⟨h0, h1, h2, h3⟩; exact wd_ext (by omega) (by omega) (by omega) (by omega)
  · rintro rfl; exact ⟨rfl, rfl, rfl, rfl⟩
theorem eqSV (s t : BitVec 256) (w : World) : (Op.equalIn 10000 49 (SV s) (SV t)).run Tryz.prog w = .ok (s == t) w := by
  rw [eq4, eqSV_bool]
theorem wd_zero (i : Nat) : wd 0#256 i = 0 := by
  unfold wd; simp
theorem SV_zero : (.agg #[.int .u64 0, .int .u64 0, .int .u64 0, .int .u64 0] : Value) = SV 0#256 := by simp [SV, wd_zero]
theorem eqSV0 (s : BitVec 256) (w : World) : (Op.equalIn 10000 49 (SV s) (.agg #[.int .u64 0, .int .u64 0, .int .u64 0, .int .u64 0])).run Tryz.prog w = .ok (s == 0#256) w := by
  rw [SV_zero]; exact eqSV s 0#256 w

theorem bcell {W w1 : World} (hb : Below W.heap.size W w1) : (∀ b o, b < W.heap.size → w1.cell? ⟨b, o, none⟩ = W.cell? ⟨b, o, none⟩) ∧ (∀ b o, b < W.heap.size → w1.frozen? ⟨b, o, none⟩ = W.frozen? ⟨b, o, none⟩) :=
  ⟨fun b o h => hb.cell (p := ⟨b, o, none⟩) h, fun b o h => hb.frozen (p := ⟨b, o, none⟩) h⟩

theorem bits_not_wd (s : BitVec 256) (i : Nat) (hi : i < 4) : bits .xor .u64 IntKind.u64.max (wd s i : Int) = (wd (~~~s) i : Int) := by
  show IntKind.u64.wrap ((BitVec.ofInt 64 IntKind.u64.max ^^^ BitVec.ofInt 64 (wd s i : Int)).toNat : Int) = _
  rw [ofInt_wd, show BitVec.ofInt 64 IntKind.u64.max = BitVec.allOnes 64 by decide +kernel, BitVec.allOnes_xor, ext_not s i hi, wrap_bv]; rfl

set_option maxHeartbeats 400000 in
theorem not_any (s : BitVec 256) (w : World) :
    Calls Tryz.prog 82 #[SV s] w fun e w' => e = .returned (SV (~~~s)) ∧ Below w.heap.size w w' := by
  go_enter Tryz.func82, Tryz.ntmps82
  go_wp2
  refine wp_loop_rounds 5 ?_
  rw [rounds_succ]; go_wp2
  rw [rounds_succ]; go_wp2
  rw [rounds_succ]; go_wp2
  rw [rounds_succ]; go_wp2
  rw [rounds_succ]; go_wp2
  simp only [bits_not_wd s 0 (by omega), bits_not_wd s 1 (by omega), bits_not_wd s 2 (by omega), bits_not_wd s 3 (by omega)]
  exact bodyPost_ret (v := SV (~~~s)) (by simp [results, Tryz.results82, go_sem]) rfl ⟨rfl, ((Below.refl _ _).alloc (Nat.le_refl _) _).alloc (by simp) _⟩

/-- All bytes. -/
def allB : BitVec 256 := ~~~0#256

set_option maxHeartbeats 400000 in
theorem all_any (w : World) :
    Calls Tryz.prog 52 #[] w fun e w' => e = .returned (SV allB) ∧ Below w.heap.size w w' := by
  go_enter Tryz.func52, Tryz.ntmps52
  go_wp2_with fail
  rw [SV_zero]
  refine (not_any 0#256 _).mono ?_
  rw [show ~~~0#256 = allB from rfl]
  rintro e w1 ⟨rfl, hb⟩
  obtain ⟨hc, hf⟩ := bcell hb
  go_wp2
  refine bodyPost_ret (v := SV allB) (by simp [results, Tryz.results52, go_sem, hc]) rfl ⟨rfl, ?_⟩
  exact (((((((Below.refl _ _).alloc (Nat.le_refl _) _).trans (hb.mono (by simp))).setCell (by simp) _).setCell (by simp) _).setCell (by simp) _).setCell (by simp) _)

set_option maxHeartbeats 400000 in
theorem empty_any (s : BitVec 256) (w : World) :
    Calls Tryz.prog 53 #[SV s] w fun e w' => e = .returned (.bool (s == 0#256)) ∧ Below w.heap.size w w' := by
  have key := eqSV0 s
  go_enter Tryz.func53, Tryz.ntmps53
  go_wp2
  go_ret
  exact ⟨rfl, (Below.refl _ _).alloc (Nat.le_refl _) _⟩

theorem has_form (s : BitVec 256) (x : Int) (hx : 0 ≤ x) (hx2 : x < 256) :
    (bits BinOp.and IntKind.u64 ((wd s (x / 64).toNat : Int) / 2 ^ (x % 64).toNat) 1 == 1) = s.getLsbD x.toNat := by
  obtain ⟨n, rfl⟩ := Int.eq_ofNat_of_zero_le hx
  have e1 : ((n : Int) / 64).toNat = n / 64 := by omega
  have e2 : ((n : Int) % 64).toNat = n % 64 := by omega
  have hb := wd_testBit s (n / 64) (n % 64)
  have hs : 64 * (n / 64) + n % 64 = n := by omega
  rw [hs] at hb
  have hm : n % 64 < 64 := by omega
  simp only [hm, decide_true, Bool.true_and] at hb
  rw [e1, e2, Int.toNat_natCast, ← hb]
  have hl := wd_lt s (n / 64)
  generalize wd s (n / 64) = y at *
  generalize n % 64 = j at *
  have e3 : (y : Int) / 2 ^ j = ((y / 2 ^ j : Nat) : Int) := by rw [Int.natCast_ediv, Int.natCast_pow]; rfl
  have h4 : y / 2 ^ j < 18446744073709551616 := Nat.lt_of_le_of_lt (Nat.div_le_self _ _) hl
  rw [e3, show (1 : Int) = ((1 : Nat) : Int) from rfl, bits_and_u64_nat _ 1 h4 (by omega), Nat.and_one_is_mod, Nat.testBit_eq_decide_div_mod_eq]
  rw [Bool.eq_iff_iff]; simp; omega

set_option maxHeartbeats 400000 in
theorem has_any (s : BitVec 256) (x : Int) (hx : 0 ≤ x) (hx2 : x < 256) (w : World) :
    Calls Tryz.prog 33 #[SV s, .int .u8 x] w fun e w' => e = .returned (.bool (s.getLsbD x.toNat)) ∧ Below w.heap.size w w' := by
  have hat := wd_at s (x / 64).toNat (by omega)
  go_enter Tryz.func33, Tryz.ntmps33
  go_wp2
  have hf := has_form s x hx hx2
  rw [hf]
  go_ret
  exact ⟨rfl, (Below.refl _ _).alloc (Nat.le_refl _) _⟩

end Go.Proofs.YthhfpjehamhcbaaGreatDoor
/- How many bits of a number are 1, by sums of digits: the arithmetic of math/bits.OnesCount64. -/
namespace Go.Proofs.YthhfpjehamhcbaaGreatDoor
set_option maxRecDepth 100000

/-- The sum of the last n digits of x in base B. -/
def ds (B : Nat) : Nat → Nat → Nat
  | 0, _ => 0
  | n + 1, x => x % B + ds B n (x / B)

/-- n digits c in base B. -/
def msk (B c : Nat) : Nat → Nat
  | 0 => 0
  | n + 1 => B * msk B c n + c

theorem and_msk (k j : Nat) (hj : j ≤ k) (x m : Nat) : x &&& (2 ^ k * m + (2 ^ j - 1)) = 2 ^ k * ((x / 2 ^ k) &&& m) + x % 2 ^ j := by
  have hp : 2 ^ j ≤ 2 ^ k := Nat.pow_le_pow_right (by omega) hj
  have hq : 0 < 2 ^ j := Nat.two_pow_pos j
  have h1 : 2 ^ j - 1 < 2 ^ k := by omega
  have h2 : x % 2 ^ j < 2 ^ k := Nat.lt_of_lt_of_le (Nat.mod_lt _ hq) hp
  apply Nat.eq_of_testBit_eq; intro i
  rw [Nat.testBit_and, Nat.testBit_two_pow_mul_add _ h1, Nat.testBit_two_pow_mul_add _ h2, Nat.testBit_two_pow_sub_one, Nat.testBit_and, Nat.testBit_mod_two_pow, Nat.testBit_div_two_pow]
  by_cases hi : i < k
  · simp [hi, Bool.and_comm]
  · simp only [hi, if_false]
    rw [show i - k + k = i from by omega]

theorem and_msk4 (x n : Nat) : x &&& msk 4 1 (n + 1) = 4 * ((x / 4) &&& msk 4 1 n) + x % 2 := and_msk 2 1 (by omega) x (msk 4 1 n)
theorem and_msk16 (x n : Nat) : x &&& msk 16 3 (n + 1) = 16 * ((x / 16) &&& msk 16 3 n) + x % 4 := and_msk 4 2 (by omega) x (msk 16 3 n)
theorem and_msk256 (x n : Nat) : x &&& msk 256 15 (n + 1) = 256 * ((x / 256) &&& msk 256 15 n) + x % 16 := and_msk 8 4 (by omega) x (msk 256 15 n)

def y1 (n x : Nat) : Nat := ((x / 2) &&& msk 4 1 n) + (x &&& msk 4 1 n)
theorem y1_succ (n x : Nat) : y1 (n + 1) x = 4 * y1 n (x / 4) + (x / 2 % 2 + x % 2) := by
  unfold y1
  rw [and_msk4, and_msk4, show x / 2 / 4 = x / 4 / 2 from by omega]; omega
theorem y1_sum (n : Nat) : ∀ x, ds 4 n (y1 n x) = ds 2 (2 * n) x := by
  induction n with
  | zero => intro x; rfl
  | succ n ih =>
    intro x
    have e := y1_succ n x
    rw [show 2 * (n + 1) = 2 * n + 1 + 1 from by omega]
    simp only [ds]
    rw [show y1 (n + 1) x / 4 = y1 n (x / 4) from by omega, ih, show x / 2 / 2 = x / 4 from by omega]
    omega
theorem y1_lt (n : Nat) : ∀ x, 3 * y1 n x ≤ 2 * (4 ^ n - 1) := by
  induction n with
  | zero => intro x; simp [y1, msk]
  | succ n ih =>
    intro x
    have e := y1_succ n x
    have := ih (x / 4)
    have hp : 0 < 4 ^ n := Nat.pow_pos (by omega)
    rw [Nat.pow_succ]; omega

def y2 (n x : Nat) : Nat := ((x / 4) &&& msk 16 3 n) + (x &&& msk 16 3 n)
theorem y2_succ (n x : Nat) : y2 (n + 1) x = 16 * y2 n (x / 16) + (x / 4 % 4 + x % 4) := by
  unfold y2
  rw [and_msk16, and_msk16, show x / 4 / 16 = x / 16 / 4 from by omega]; omega
theorem y2_sum (n : Nat) : ∀ x, ds 16 n (y2 n x) = ds 4 (2 * n) x := by
  induction n with
  | zero => intro x; rfl
  | succ n ih =>
    intro x
    have e := y2_succ n x
    rw [show 2 * (n + 1) = 2 * n + 1 + 1 from by omega]
    simp only [ds]
    rw [show y2 (n + 1) x / 16 = y2 n (x / 16) from by omega, ih, show x / 4 / 4 = x / 16 from by omega]
    omega
/-- All digits in base 16 are at most 7, and there are n at most. -/
def low7 : Nat → Nat → Prop
  | 0, z => z = 0
  | n + 1, z => z % 16 ≤ 7 ∧ low7 n (z / 16)
theorem y2_low (n : Nat) : ∀ x, low7 n (y2 n x) := by
  induction n with
  | zero => intro x; simp [low7, y2, msk]
  | succ n ih =>
    intro x
    have e := y2_succ n x
    refine ⟨by omega, ?_⟩
    rw [show y2 (n + 1) x / 16 = y2 n (x / 16) from by omega]
    exact ih _
theorem low7_lt (n : Nat) : ∀ z, low7 n z → 15 * z ≤ 7 * (16 ^ n - 1) := by
  induction n with
  | zero => intro z h; simp [low7] at h; subst h; simp
  | succ n ih =>
    intro z h
    have := ih _ h.2
    have h1 := h.1
    have hp : 0 < 16 ^ n := Nat.pow_pos (by omega)
    rw [Nat.pow_succ]; omega

def y3 (n z : Nat) : Nat := (z / 16 + z) &&& msk 256 15 n
theorem low7_16 (n z : Nat) (h : low7 n z) : z % 16 ≤ 7 := by
  cases n with
  | zero => simp [low7] at h; subst h; omega
  | succ n => exact h.1
theorem y3_succ (n z : Nat) (h : low7 (2 * (n + 1)) z) : y3 (n + 1) z = 256 * y3 n (z / 256) + (z / 16 % 16 + z % 16) := by
  have h0 : z % 16 ≤ 7 := h.1
  have h1 : z / 16 % 16 ≤ 7 := h.2.1
  have h2 : z / 16 / 16 % 16 ≤ 7 := low7_16 _ _ h.2.2
  unfold y3
  have e1 : z / 256 = z / 16 / 16 := by omega
  have e2 : (z / 16 + z) / 256 = z / 16 / 16 / 16 + z / 16 / 16 := by omega
  rw [and_msk256, e2, e1]
  omega
theorem y3_sum (n : Nat) : ∀ z, low7 (2 * n) z → ds 256 n (y3 n z) = ds 16 (2 * n) z ∧ 255 * y3 n z ≤ 14 * (256 ^ n - 1) := by
  induction n with
  | zero => intro z _; exact ⟨rfl, by simp [y3, msk]⟩
  | succ n ih =>
    intro z h
    have e := y3_succ n z h
    have h0 : z % 16 ≤ 7 := h.1
    have h1 : z / 16 % 16 ≤ 7 := h.2.1
    have h3 : low7 (2 * n) (z / 256) := by
      have := h.2.2
      rw [show z / 16 / 16 = z / 256 from by omega] at this
      exact this
    obtain ⟨ih1, ih2⟩ := ih _ h3
    have hp : 0 < 256 ^ n := Nat.pow_pos (by omega)
    refine ⟨?_, by rw [Nat.pow_succ]; omega⟩
    rw [show 2 * (n + 1) = 2 * n + 1 + 1 from by omega]
    simp only [ds]
    rw [show y3 (n + 1) z / 256 = y3 n (z / 256) from by omega, ih1, show z / 16 / 16 = z / 256 from by omega]
    omega

theorem last_digits (d0 d1 d2 d3 d4 d5 d6 d7 z : Nat) (hs : d0 + (d1 + (d2 + (d3 + (d4 + (d5 + (d6 + (d7 + 0))))))) ≤ 64)
    (hz : z = d0 + 256 * (d1 + 256 * (d2 + 256 * (d3 + 256 * (d4 + 256 * (d5 + 256 * (d6 + 256 * d7))))))) :
    let a := z + z / 256
    let b := a + a / 65536
    let c := b + b / 4294967296
    c < 18446744073709551616 ∧ c % 128 = d0 + (d1 + (d2 + (d3 + (d4 + (d5 + (d6 + (d7 + 0))))))) := by
  have h1 : z / 256 = d1 + 256 * (d2 + 256 * (d3 + 256 * (d4 + 256 * (d5 + 256 * (d6 + 256 * d7))))) := by omega
  intro a b c
  have ha : a = (d0 + d1) + 256 * ((d1 + d2) + 256 * ((d2 + d3) + 256 * ((d3 + d4) + 256 * ((d4 + d5) + 256 * ((d5 + d6) + 256 * ((d6 + d7) + 256 * d7)))))) := by
    show z + z / 256 = _; rw [h1]; omega
  have h2 : a / 65536 = (d2 + d3) + 256 * ((d3 + d4) + 256 * ((d4 + d5) + 256 * ((d5 + d6) + 256 * ((d6 + d7) + 256 * d7)))) := by rw [ha]; omega
  have hb : b = (d0 + d1 + d2 + d3) + 256 * ((d1 + d2 + d3 + d4) + 256 * ((d2 + d3 + d4 + d5) + 256 * ((d3 + d4 + d5 + d6) + 256 * ((d4 + d5 + d6 + d7) + 256 * ((d5 + d6 + d7) + 256 * ((d6 + d7) + 256 * d7)))))) := by
    show a + a / 65536 = _; rw [h2, ha]; omega
  have h3 : b / 4294967296 = (d4 + d5 + d6 + d7) + 256 * ((d5 + d6 + d7) + 256 * ((d6 + d7) + 256 * d7)) := by rw [hb]; omega
  show b + b / 4294967296 < _ ∧ (b + b / 4294967296) % 128 = _
  rw [h3, hb]
  omega

theorem last_sum (z : Nat) (hz : z < 18446744073709551616) (hd : ds 256 8 z ≤ 64) :
    let a := z + z / 256
    let b := a + a / 65536
    let c := b + b / 4294967296
    c < 18446744073709551616 ∧ c % 128 = ds 256 8 z := by
  simp only [ds] at *
  exact last_digits _ _ _ _ _ _ _ _ z hd (by omega)

theorem ds2_le (n : Nat) : ∀ x, ds 2 n x ≤ n := by
  induction n with
  | zero => intro x; exact Nat.le_refl _
  | succ n ih => intro x; have := ih (x / 2); simp only [ds]; omega

/-- The arithmetic of OnesCount64, over plain numbers. -/
theorem ones_nat (x a1 a2 a3 : Nat) (e1 : a1 = ((x / 2) &&& 6148914691236517205) + (x &&& 6148914691236517205))
    (e2 : a2 = ((a1 / 4) &&& 3689348814741910323) + (a1 &&& 3689348814741910323)) (e3 : a3 = (a2 / 16 + a2) &&& 1085102592571150095) :
    a1 < 18446744073709551616 ∧ a2 < 1152921504606846976 * 8 ∧ a3 < 18446744073709551616 ∧
    (let a := a3 + a3 / 256
     let b := a + a / 65536
     let c := b + b / 4294967296
     c < 18446744073709551616 ∧ c % 128 = ds 2 64 x) := by
  have m1 : 6148914691236517205 = msk 4 1 32 := by decide +kernel
  have m2 : 3689348814741910323 = msk 16 3 16 := by decide +kernel
  have m3 : 1085102592571150095 = msk 256 15 8 := by decide +kernel
  rw [m1] at e1; rw [m2] at e2; rw [m3] at e3
  have f1 : a1 = y1 32 x := e1
  have f2 : a2 = y2 16 a1 := e2
  have f3 : a3 = y3 8 a2 := e3
  have g1 := y1_lt 32 x
  have g2 := low7_lt 16 _ (y2_low 16 a1)
  have g3 := y3_sum 8 a2 (by rw [f2]; exact y2_low 16 a1)
  rw [← f1] at g1; rw [← f2] at g2; rw [← f3] at g3
  have s2 := y2_sum 16 a1
  have s1 := y1_sum 32 x
  rw [← f2] at s2; rw [← f1] at s1
  obtain ⟨s3, g3⟩ := g3
  have hs : ds 256 8 a3 = ds 2 64 x := s3.trans (s2.trans s1)
  have hle := ds2_le 64 x
  rw [show 4 ^ 32 - 1 = 18446744073709551615 from by decide] at g1
  rw [show 16 ^ 16 - 1 = 18446744073709551615 from by decide] at g2
  rw [show 256 ^ 8 - 1 = 18446744073709551615 from by decide] at g3
  refine ⟨by omega, by omega, by omega, ?_⟩
  rw [← hs]
  exact last_sum a3 (by omega) (by omega)

end Go.Proofs.YthhfpjehamhcbaaGreatDoor
