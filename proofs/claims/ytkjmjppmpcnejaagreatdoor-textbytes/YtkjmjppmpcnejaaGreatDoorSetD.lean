/- Contracts: Of, From. -/
import Derived.Test.YtkjmjppmpcnejaaGreatDoorSetC
import Derived.Test.YtkjmjppmpcnejaaGreatDoorHeap
namespace Go.Proofs.YtkjmjppmpcnejaaGreatDoor
set_option maxRecDepth 100000
open Go.RowKit

/-- The set of some bytes. -/
def setOf (l : List Nat) : BitVec 256 := l.foldl (fun s b => s ||| (1#256 <<< b)) 0#256
theorem setOf_snoc (l : List Nat) (x : Nat) : setOf (l ++ [x]) = setOf l ||| (1#256 <<< x) := by simp [setOf]
theorem getLsbD_one_shl (x i : Nat) (hi : i < 256) : (1#256 <<< x).getLsbD i = decide (i = x) := by
  rw [BitVec.getLsbD_shiftLeft, BitVec.getLsbD_one]
  by_cases h : i = x
  · subst h; simp [hi]
  · by_cases h2 : i < x
    · simp [h, h2]
    · have : ¬ i - x = 0 := by omega
      simp [h, this]
theorem setOf_has (l : List Nat) (i : Nat) (hi : i < 256) : (setOf l).getLsbD i = decide (i ∈ l) := by
  have key : ∀ (l : List Nat) (s : BitVec 256), (l.foldl (fun s b => s ||| (1#256 <<< b)) s).getLsbD i = (s.getLsbD i || decide (i ∈ l)) := by
    intro l
    induction l with
    | nil => intro s; simp
    | cons a l ih =>
      intro s
      rw [List.foldl_cons, ih, BitVec.getLsbD_or, getLsbD_one_shl a i hi, Bool.or_assoc]
      congr 1
      by_cases h : i = a <;> simp [h]
  rw [setOf, key]; simp

theorem wd_or_same (s : BitVec 256) (x : Nat) (hx : x < 256) : bits .or .u64 (wd s (x / 64) : Int) (IntKind.u64.wrap (2 ^ (x % 64))) = (wd (s ||| (1#256 <<< x)) (x / 64) : Int) := by
  have e : IntKind.u64.wrap (2 ^ (x % 64)) = (wd (1#256 <<< x) (x / 64) : Int) := by
    have h64 : x % 64 < 64 := by omega
    have h2 : 2 ^ (x % 64) < 2 ^ 64 := Nat.pow_lt_pow_right (by omega) h64
    have e2 : wd (1#256 <<< x) (x / 64) = 2 ^ (x % 64) := by
      apply Nat.eq_of_testBit_eq; intro j
      rw [wd_testBit, Nat.testBit_two_pow]
      by_cases hj : j < 64
      · rw [getLsbD_one_shl x _ (by omega)]
        simp only [hj, decide_true, Bool.true_and]
        congr 1
        apply propext; omega
      · have : ¬ x % 64 = j := by omega
        simp [hj, this]
    rw [e2, IntKind.wrap_u64]
    have : ((2 ^ (x % 64) : Nat) : Int) = (2 : Int) ^ (x % 64) := by rw [Int.natCast_pow]; rfl
    omega
  rw [e, bits_or_wd]
theorem wd_or_other (s : BitVec 256) (x k : Nat) (hk : k < 4) (h : k ≠ x / 64) : wd (s ||| (1#256 <<< x)) k = wd s k := by
  rw [← wd_or]
  have : wd (1#256 <<< x) k = 0 := by
    apply Nat.eq_of_testBit_eq; intro j
    rw [wd_testBit, Nat.zero_testBit]
    by_cases hj : j < 64
    · rw [getLsbD_one_shl x _ (by omega)]
      have : ¬ 64 * k + j = x := by omega
      simp [this]
    · simp [hj]
  rw [this, Nat.or_zero]

/-- The cells of a set. -/
abbrev WS (s : BitVec 256) : Array Value := #[.int .u64 (wd s 0), .int .u64 (wd s 1), .int .u64 (wd s 2), .int .u64 (wd s 3)]
theorem WS_set (s : BitVec 256) (x : Nat) (hx : x < 256) : (WS s).setIfInBounds (x / 64) (.int .u64 (wd (s ||| (1#256 <<< x)) (x / 64))) = WS (s ||| (1#256 <<< x)) := by
  have h4 : x / 64 < 4 := by omega
  generalize hk : x / 64 = k at *
  have ho : ∀ j, j < 4 → j ≠ k → wd (s ||| (1#256 <<< x)) j = wd s j := fun j hj hne => wd_or_other s x j hj (by omega)
  match k, h4 with
  | 0, _ => simp [ho 1, ho 2, ho 3]
  | 1, _ => simp [ho 0, ho 2, ho 3]
  | 2, _ => simp [ho 0, ho 1, ho 3]
  | 3, _ => simp [ho 0, ho 1, ho 2]
theorem WS_get (s : BitVec 256) (k : Nat) (hk : k < 4) : (WS s)[k]? = some (.int .u64 (wd s k)) := by
  have := wd_at s k hk
  simpa using this
theorem WS_zero : (#[.int .u64 0, .int .u64 0, .int .u64 0, .int .u64 0] : Array Value) = WS 0#256 := by simp [WS, wd_zero]

set_option maxHeartbeats 400000 in
theorem of_any (l : List Nat) (hl : ∀ x ∈ l, x < 256) (w : World) (a : Option Addr) (cap : Nat)
    (hc : ∀ k, k < l.length → ∃ b off, a = some ⟨b, off, none⟩ ∧ b < w.heap.size ∧ w.cell? ⟨b, off + k, none⟩ = some (.int .u8 (l.getD k 0))) (hlen : l.length ≤ 1000000) :
    Calls Tryz.prog 20 #[.slice a l.length cap] w fun e w' => e = .returned (SV (setOf l)) ∧ Below w.heap.size w w' := by
  go_enter Tryz.func20, Tryz.ntmps20
  go_wp2
  go_loopw [8] (fun i wr => ∃ k : Nat, k ≤ l.length ∧ i = .int .i64 k ∧ Blk wr (w.heap.size + 1) (WS (setOf (l.take k))) 42 ∧ Blk wr w.heap.size (WS 0#256) 42 ∧ Below w.heap.size w wr) (fun i _ => l.length - (intOf i).toNat)
  case atStart =>
    refine ⟨0, Nat.zero_le _, rfl, ?_, ?_, ?_⟩
    · have := Blk.new (w.alloc (.cells #[.int .u64 0, .int .u64 0, .int .u64 0, .int .u64 0] 42)) #[.int .u64 0, .int .u64 0, .int .u64 0, .int .u64 0] 42
      rw [World.size_alloc] at this
      rw [WS_zero] at this
      simpa [setOf, WS_zero] using this
    · have := (Blk.new w #[.int .u64 0, .int .u64 0, .int .u64 0, .int .u64 0] 42).alloc (.cells #[.int .u64 0, .int .u64 0, .int .u64 0, .int .u64 0] 42)
      rw [WS_zero] at this
      simpa [WS_zero] using this
    · exact ((Below.refl _ _).alloc (Nat.le_refl _) _).alloc (by simp) _
  case round =>
    obtain ⟨k, hk, rfl, hB1, hB0, hbel⟩ := hrel
    by_cases hlt : k < l.length
    · obtain ⟨b, off, rfl, hb, hcell⟩ := hc k hlt
      have hx : l.getD k 0 < 256 := hl _ (by rw [List.getD_eq_getElem?_getD, List.getElem?_eq_getElem hlt]; simp)
      have htake : l.take (k + 1) = l.take k ++ [l.getD k 0] := by
        rw [List.take_succ_eq_append_getElem hlt]; simp [List.getD_eq_getElem?_getD, hlt]
      have hcr : wr.cell? ⟨b, off + k, none⟩ = some (.int .u8 (l.getD k 0)) := (hbel.cell (p := ⟨b, off + k, none⟩) hb).trans hcell
      generalize l.getD k 0 = x at *
      have HT : Hid (l.take (k + 1) = l.take k ++ [x]) := htake
      have HC : Hid (wr.cell? ⟨b, off + k, none⟩ = some (.int .u8 x)) := hcr
      clear htake hc hcell
      generalize hs : setOf (l.take k) = s at *
      have HS : Hid (setOf (l.take k) = s) := hs
      clear hs
      have e1 : ((x : Int) / 64).toNat = x / 64 := by omega
      have e2 : ((x : Int) % 64).toNat = x % 64 := by omega
      have hw := hB1.cell (x / 64)
      rw [WS_get s _ (by omega)] at hw
      have hf := hB1.frozen (x / 64)
      go_wp2
      have hbits := wd_or_same s x hx
      rw [hbits]
      refine ⟨⟨k + 1, by omega, by go_num, ?_, hB0.setOther _ _ (by simp), hbel.setCell (by simp) _⟩, by simp [intOf]; omega⟩
      have h2 := hB1.set (x / 64) (.int .u64 (wd (s ||| (1#256 <<< x)) (x / 64)))
      rw [WS_set s x hx] at h2
      rw [HT.out, setOf_snoc, HS.out]
      exact h2
    · obtain rfl : k = l.length := by omega
      rw [List.take_length] at hB1
      generalize hs : setOf l = s at *
      have HS : Hid (setOf l = s) := hs
      clear hs hc
      have c0 := hB1.cell 0; have c1 := hB1.cell 1; have c2 := hB1.cell 2; have c3 := hB1.cell 3
      have d0 := hB0.cell 0; have d1 := hB0.cell 1; have d2 := hB0.cell 2; have d3 := hB0.cell 3
      have f0 := hB0.frozen 0; have f1 := hB0.frozen 1; have f2 := hB0.frozen 2; have f3 := hB0.frozen 3
      simp only [List.getElem?_toArray, List.getElem?_cons_zero, List.getElem?_cons_succ] at c0 c1 c2 c3 d0 d1 d2 d3
      go_wp2
      refine bodyPost_ret (v := SV s) (by simp [results, Tryz.results20, go_sem, d0, d1, d2, d3]) rfl ⟨by rw [HS.out], ?_⟩
      exact (((hbel.setCell (by simp) _).setCell (by simp) _).setCell (by simp) _).setCell (by simp) _

/-- The bytes from a to b - 1. -/
def span (a b : Nat) : BitVec 256 := setOf (List.range' a (b - a))
theorem span_succ (a b : Nat) (h : a ≤ b) : span a (b + 1) = span a b ||| (1#256 <<< b) := by
  unfold span
  rw [show b + 1 - a = (b - a) + 1 from by omega, List.range'_concat, setOf_snoc, Nat.one_mul, show a + (b - a) = b from by omega]

set_option maxHeartbeats 400000 in
theorem from_any (lo hi : Nat) (h1 : lo < 256) (h2 : hi < 256) (w : World) :
    Calls Tryz.prog 21 #[.int .u8 lo, .int .u8 hi] w fun e w' => e = .returned (SV (span lo (hi + 1))) ∧ Below w.heap.size w w' := by
  go_enter Tryz.func21, Tryz.ntmps21
  go_wp2
  go_loopw [6] (fun i wr => ∃ k : Nat, lo ≤ k ∧ (k ≤ hi + 1 ∨ k = lo) ∧ i = .int .i64 k ∧ Blk wr (w.heap.size + 1) (WS (span lo k)) 42 ∧ Blk wr w.heap.size (WS 0#256) 42 ∧ Below w.heap.size w wr) (fun i _ => 256 - (intOf i).toNat)
  case atStart =>
    refine ⟨lo, Nat.le_refl _, .inr rfl, rfl, ?_, ?_, ?_⟩
    · have := Blk.new (w.alloc (.cells #[.int .u64 0, .int .u64 0, .int .u64 0, .int .u64 0] 42)) #[.int .u64 0, .int .u64 0, .int .u64 0, .int .u64 0] 42
      rw [World.size_alloc] at this
      rw [WS_zero] at this
      simpa [span, setOf, WS_zero] using this
    · have := (Blk.new w #[.int .u64 0, .int .u64 0, .int .u64 0, .int .u64 0] 42).alloc (.cells #[.int .u64 0, .int .u64 0, .int .u64 0, .int .u64 0] 42)
      rw [WS_zero] at this
      simpa [WS_zero] using this
    · exact ((Below.refl _ _).alloc (Nat.le_refl _) _).alloc (by simp) _
  case round =>
    obtain ⟨x, hlo, hor, rfl, hB1, hB0, hbel⟩ := hrel
    have hsp := span_succ lo x hlo
    have HP : Hid (span lo (x + 1) = span lo x ||| (1#256 <<< x)) := hsp
    clear hsp
    by_cases hlt : x ≤ hi
    · generalize hs : span lo x = s at *
      clear hs
      have e1 : ((x : Int) / 64).toNat = x / 64 := by omega
      have e2 : ((x : Int) % 64).toNat = x % 64 := by omega
      have hw := hB1.cell (x / 64)
      rw [WS_get s _ (by omega)] at hw
      have hf := hB1.frozen (x / 64)
      go_wp2
      go_region
      go_wp2
      have hbits := wd_or_same s x (by omega)
      rw [hbits]
      refine ⟨⟨x + 1, by omega, by omega, by go_num, ?_, (hB0.setOther _ _ (by simp)).drew, (hbel.setCell (by simp) _).drew⟩, by simp [intOf]; omega⟩
      have h2 := hB1.set (x / 64) (.int .u64 (wd (s ||| (1#256 <<< x)) (x / 64)))
      rw [WS_set s x (by omega)] at h2
      rw [HP.out]
      exact h2.drew
    · have hend : span lo (hi + 1) = span lo x := by
        rcases hor with h | h
        · rw [show x = hi + 1 from by omega]
        · subst h; unfold span; rw [show hi + 1 - x = 0 from by omega, Nat.sub_self]
      generalize hs : span lo x = s at *
      have HS : Hid (span lo (hi + 1) = s) := hend
      clear hs hend HP
      have c0 := hB1.cell 0; have c1 := hB1.cell 1; have c2 := hB1.cell 2; have c3 := hB1.cell 3
      have d0 := hB0.cell 0; have d1 := hB0.cell 1; have d2 := hB0.cell 2; have d3 := hB0.cell 3
      have f0 := hB0.frozen 0; have f1 := hB0.frozen 1; have f2 := hB0.frozen 2; have f3 := hB0.frozen 3
      simp only [List.getElem?_toArray, List.getElem?_cons_zero, List.getElem?_cons_succ] at c0 c1 c2 c3 d0 d1 d2 d3
      go_wp2
      refine bodyPost_ret (v := SV s) (by simp [results, Tryz.results21, go_sem, d0, d1, d2, d3]) rfl ⟨by rw [HS.out], ?_⟩
      exact (((hbel.setCell (by simp) _).setCell (by simp) _).setCell (by simp) _).setCell (by simp) _

theorem span_has (a b i : Nat) (hi : i < 256) : (span a b).getLsbD i = decide (a ≤ i ∧ i < b) := by
  unfold span
  rw [setOf_has _ _ hi]
  congr 1; rw [List.mem_range'_1]
  apply propext; omega
end Go.Proofs.YtkjmjppmpcnejaaGreatDoor
