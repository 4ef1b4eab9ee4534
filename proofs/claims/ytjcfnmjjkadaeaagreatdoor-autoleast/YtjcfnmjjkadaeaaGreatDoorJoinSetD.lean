/- Texts of this claim put together: Math, SetA, SetB, MathPop, SetC, Heap, SetD. -/
import GoSem.Core.Value
import Derived.Test.YtjcfnmjjkadaeaaGreatDoorProg
import Derived.WalkKit
import Derived.LoopN
import Derived.Laws.Bits64b
import Derived.BigQuiet
import Derived.BigRegion
import Derived.Deep.QuietTactic
import Derived.RegionTactic
import Derived.ChangeAlike
/- Plain facts on sets of bytes as 256 bits, cut into four words. -/
namespace Go.Proofs.YtjcfnmjjkadaeaaGreatDoor
set_option maxRecDepth 100000

/-- Word i of a set. -/
def wd (s : BitVec 256) (i : Nat) : Nat := (s.extractLsb' (64 * i) 64).toNat

/-- A set as the program holds it. -/
abbrev SV (s : BitVec 256) : Value := .agg #[.int .u64 (wd s 0), .int .u64 (wd s 1), .int .u64 (wd s 2), .int .u64 (wd s 3)]

theorem wd_lt (s : BitVec 256) (i : Nat) : wd s i < 18446744073709551616 := by
  unfold wd; exact (s.extractLsb' (64 * i) 64).isLt

theorem wd_testBit (s : BitVec 256) (i j : Nat) : (wd s i).testBit j = (decide (j < 64) && s.getLsbD (64 * i + j)) := by
  unfold wd; rw [BitVec.testBit_toNat, BitVec.getLsbD_extractLsb']

theorem wd_at (s : BitVec 256) (k : Nat) (h : k < 4) : [Value.int .u64 (wd s 0), .int .u64 (wd s 1), .int .u64 (wd s 2), .int .u64 (wd s 3)][k]? = some (.int .u64 (wd s k)) := by
  match k, h with
  | 0, _ => rfl
  | 1, _ => rfl
  | 2, _ => rfl
  | 3, _ => rfl

theorem wd_ext {s t : BitVec 256} (h0 : wd s 0 = wd t 0) (h1 : wd s 1 = wd t 1) (h2 : wd s 2 = wd t 2) (h3 : wd s 3 = wd t 3) : s = t := by
  apply BitVec.eq_of_getLsbD_eq
  intro i hi
  have key : ∀ k, k < 4 → wd s k = wd t k := by
    intro k hk
    match k, hk with
    | 0, _ => exact h0
    | 1, _ => exact h1
    | 2, _ => exact h2
    | 3, _ => exact h3
  have e := congrArg (fun n => Nat.testBit n (i % 64)) (key (i / 64) (by omega))
  simp only [wd_testBit] at e
  have hm : i % 64 < 64 := by omega
  have hs : 64 * (i / 64) + i % 64 = i := by omega
  simpa [hm, hs] using e

theorem wd_or (s t : BitVec 256) (i : Nat) : wd s i ||| wd t i = wd (s ||| t) i := by
  apply Nat.eq_of_testBit_eq; intro j
  simp only [Nat.testBit_or, wd_testBit, BitVec.getLsbD_or]
  cases decide (j < 64) <;> simp

end Go.Proofs.YtjcfnmjjkadaeaaGreatDoor
/- Contracts of the small functions of package set: Has, And, Or, Minus, Not, All, Empty. -/
namespace Go.Proofs.YtjcfnmjjkadaeaaGreatDoor
set_option maxRecDepth 100000
open Go.RowKit

theorem ofInt_wd (s : BitVec 256) (i : Nat) : BitVec.ofInt 64 (wd s i : Int) = s.extractLsb' (64 * i) 64 := by
  unfold wd; rw [BitVec.ofInt_natCast, BitVec.ofNat_toNat, BitVec.setWidth_eq]
theorem wrap_bv (x : BitVec 64) : IntKind.u64.wrap (x.toNat : Int) = (x.toNat : Int) := by
  have := x.isLt; rw [IntKind.wrap_u64]; omega
theorem bits_and_wd (s t : BitVec 256) (i : Nat) : bits .and .u64 (wd s i : Int) (wd t i : Int) = (wd (s &&& t) i : Int) := by
  show IntKind.u64.wrap ((BitVec.ofInt 64 (wd s i : Int) &&& BitVec.ofInt 64 (wd t i : Int)).toNat : Int) = _
  rw [ofInt_wd, ofInt_wd, wrap_bv, ← BitVec.extractLsb'_and]; rfl
theorem bits_or_wd (s t : BitVec 256) (i : Nat) : bits .or .u64 (wd s i : Int) (wd t i : Int) = (wd (s ||| t) i : Int) := by
  show IntKind.u64.wrap ((BitVec.ofInt 64 (wd s i : Int) ||| BitVec.ofInt 64 (wd t i : Int)).toNat : Int) = _
  rw [ofInt_wd, ofInt_wd, wrap_bv, ← BitVec.extractLsb'_or]; rfl
theorem ext_not (t : BitVec 256) (i : Nat) (hi : i < 4) : ~~~(t.extractLsb' (64 * i) 64) = (~~~t).extractLsb' (64 * i) 64 := by
  apply BitVec.eq_of_getLsbD_eq; intro j hj
  simp only [BitVec.getLsbD_not, BitVec.getLsbD_extractLsb', hj, decide_true, Bool.true_and]
  have : 64 * i + j < 256 := by omega
  simp [this]
theorem bits_minus_wd (s t : BitVec 256) (i : Nat) (hi : i < 4) : bits .andNot .u64 (wd s i : Int) (wd t i : Int) = (wd (s &&& ~~~t) i : Int) := by
  show IntKind.u64.wrap ((BitVec.ofInt 64 (wd s i : Int) &&& ~~~(BitVec.ofInt 64 (wd t i : Int))).toNat : Int) = _
  rw [ofInt_wd, ofInt_wd, ext_not t i hi, wrap_bv, ← BitVec.extractLsb'_and]; rfl

set_option maxHeartbeats 400000 in
theorem and_any (s t : BitVec 256) (w : World) :
    Calls Tryz.prog 85 #[SV s, SV t] w fun e w' => e = .returned (SV (s &&& t)) ∧ Below w.heap.size w w' := by
  go_enter Tryz.func85, Tryz.ntmps85
  go_wp2
  refine wp_loop_rounds 5 ?_
  rw [rounds_succ]; go_wp2; go_region; go_wp2
  rw [rounds_succ]; go_wp2; go_region; go_wp2
  rw [rounds_succ]; go_wp2; go_region; go_wp2
  rw [rounds_succ]; go_wp2; go_region; go_wp2
  rw [rounds_succ]; go_wp2
  simp only [bits_and_wd]
  exact bodyPost_ret (v := SV (s &&& t)) (by simp [results, Tryz.results85, go_sem]) rfl ⟨rfl, ((((((Below.refl _ _).alloc (Nat.le_refl _) _).alloc (by simp) _).alloc (by simp; omega) _).drew).drew).drew.drew⟩

set_option maxHeartbeats 400000 in
theorem or_any (s t : BitVec 256) (w : World) :
    Calls Tryz.prog 65 #[SV s, SV t] w fun e w' => e = .returned (SV (s ||| t)) ∧ Below w.heap.size w w' := by
  go_enter Tryz.func65, Tryz.ntmps65
  go_wp2
  refine wp_loop_rounds 5 ?_
  rw [rounds_succ]; go_wp2; go_region; go_wp2
  rw [rounds_succ]; go_wp2; go_region; go_wp2
  rw [rounds_succ]; go_wp2; go_region; go_wp2
  rw [rounds_succ]; go_wp2; go_region; go_wp2
  rw [rounds_succ]; go_wp2
  simp only [bits_or_wd]
  exact bodyPost_ret (v := SV (s ||| t)) (by simp [results, Tryz.results65, go_sem]) rfl ⟨rfl, ((((((Below.refl _ _).alloc (Nat.le_refl _) _).alloc (by simp) _).alloc (by simp; omega) _).drew).drew).drew.drew⟩

set_option maxHeartbeats 400000 in
theorem minus_any (s t : BitVec 256) (w : World) :
    Calls Tryz.prog 86 #[SV s, SV t] w fun e w' => e = .returned (SV (s &&& ~~~t)) ∧ Below w.heap.size w w' := by
  go_enter Tryz.func86, Tryz.ntmps86
  go_wp2
  refine wp_loop_rounds 5 ?_
  rw [rounds_succ]; go_wp2; go_region; go_wp2
  rw [rounds_succ]; go_wp2; go_region; go_wp2
  rw [rounds_succ]; go_wp2; go_region; go_wp2
  rw [rounds_succ]; go_wp2; go_region; go_wp2
  rw [rounds_succ]; go_wp2
  simp only [bits_minus_wd s t 0 (by omega), bits_minus_wd s t 1 (by omega), bits_minus_wd s t 2 (by omega), bits_minus_wd s t 3 (by omega)]
  exact bodyPost_ret (v := SV (s &&& ~~~t)) (by simp [results, Tryz.results86, go_sem]) rfl ⟨rfl, ((((((Below.refl _ _).alloc (Nat.le_refl _) _).alloc (by simp) _).alloc (by simp; omega) _).drew).drew).drew.drew⟩

end Go.Proofs.YtjcfnmjjkadaeaaGreatDoor
/- Contracts of the small functions of package set: Not, All, Empty, Has; sets held against each other. -/
namespace Go.Proofs.YtjcfnmjjkadaeaaGreatDoor
set_option maxRecDepth 100000
open Go.RowKit

theorem eq4 (a0 a1 a2 a3 b0 b1 b2 b3 : Int) (w : World) : (Op.equalIn 10000 89 (.agg #[.int .u64 a0, .int .u64 a1, .int .u64 a2, .int .u64 a3]) (.agg #[.int .u64 b0, .int .u64 b1, .int .u64 b2, .int .u64 b3])).run Tryz.prog w =
    .ok (a0 == b0 && (a1 == b1 && (a2 == b2 && a3 == b3))) w := by
  obtain ⟨i, hi⟩ : ∃ i, Tryz.prog.info? 87 = some i := Option.isSome_iff_exists.1 (by kernel_rfl)
  have h1 : Tryz.prog.cellsOf 87 = 1 := by kernel_rfl
  rw [run_equalIn_array w 9999 _ _ Tryz.underlying89 hi]
  simp only [show List.range 4 = [0, 1, 2, 3] from rfl, Op.eqItems, h1, Sem.run_bind]
  simp [go_sem]
  by_cases e0 : a0 = b0 <;> by_cases e1 : a1 = b1 <;> by_cases e2 : a2 = b2 <;> by_cases e3 : a3 = b3 <;> simp [e0, e1, e2, e3]

theorem eqSV_bool (s t : BitVec 256) : ((wd s 0 : Int) == (wd t 0 : Int) && ((wd s 1 : Int) == (wd t 1 : Int) && ((wd s 2 : Int) == (wd t 2 : Int) && (wd s 3 : Int) == (wd t 3 : Int)))) = (s == t) := by
  rw [Bool.eq_iff_iff]
  simp only [Bool.and_eq_true, beq_iff_eq]
  constructor
  · rintro ⟨h0, h1, h2, h3⟩; exact wd_ext (by omega) (by omega) (by omega) (by omega)
  · rintro rfl; exact ⟨rfl, rfl, rfl, rfl⟩
theorem eqSV (s t : BitVec 256) (w : World) : (Op.equalIn 10000 89 (SV s) (SV t)).run Tryz.prog w = .ok (s == t) w := by
  rw [eq4, eqSV_bool]
theorem wd_zero (i : Nat) : wd 0#256 i = 0 := by
  unfold wd; simp
theorem SV_zero : (.agg #[.int .u64 0, .int .u64 0, .int .u64 0, .int .u64 0] : Value) = SV 0#256 := by simp [SV, wd_zero]
theorem eqSV0 (s : BitVec 256) (w : World) : (Op.equalIn 10000 89 (SV s) (.agg #[.int .u64 0, .int .u64 0, .int .u64 0, .int .u64 0])).run Tryz.prog w = .ok (s == 0#256) w := by
  rw [SV_zero]; exact eqSV s 0#256 w

theorem bcell {W w1 : World} (hb : Below W.heap.size W w1) : (∀ b o, b < W.heap.size → w1.cell? ⟨b, o, none⟩ = W.cell? ⟨b, o, none⟩) ∧ (∀ b o, b < W.heap.size → w1.frozen? ⟨b, o, none⟩ = W.frozen? ⟨b, o, none⟩) :=
  ⟨fun b o h => hb.cell (p := ⟨b, o, none⟩) h, fun b o h => hb.frozen (p := ⟨b, o, none⟩) h⟩

theorem bits_not_wd (s : BitVec 256) (i : Nat) (hi : i < 4) : bits .xor .u64 IntKind.u64.max (wd s i : Int) = (wd (~~~s) i : Int) := by
  show IntKind.u64.wrap ((BitVec.ofInt 64 IntKind.u64.max ^^^ BitVec.ofInt 64 (wd s i : Int)).toNat : Int) = _
  rw [ofInt_wd, show BitVec.ofInt 64 IntKind.u64.max = BitVec.allOnes 64 by decide +kernel, BitVec.allOnes_xor, ext_not s i hi, wrap_bv]; rfl

set_option maxHeartbeats 400000 in
theorem not_any (s : BitVec 256) (w : World) :
    Calls Tryz.prog 119 #[SV s] w fun e w' => e = .returned (SV (~~~s)) ∧ Below w.heap.size w w' := by
  go_enter Tryz.func119, Tryz.ntmps119
  go_wp2
  refine wp_loop_rounds 5 ?_
  rw [rounds_succ]; go_wp2
  rw [rounds_succ]; go_wp2
  rw [rounds_succ]; go_wp2
  rw [rounds_succ]; go_wp2
  rw [rounds_succ]; go_wp2
  simp only [bits_not_wd s 0 (by omega), bits_not_wd s 1 (by omega), bits_not_wd s 2 (by omega), bits_not_wd s 3 (by omega)]
  exact bodyPost_ret (v := SV (~~~s)) (by simp [results, Tryz.results119, go_sem]) rfl ⟨rfl, ((Below.refl _ _).alloc (Nat.le_refl _) _).alloc (by simp) _⟩

/-- All bytes. -/
def allB : BitVec 256 := ~~~0#256

set_option maxHeartbeats 400000 in
theorem all_any (w : World) :
    Calls Tryz.prog 84 #[] w fun e w' => e = .returned (SV allB) ∧ Below w.heap.size w w' := by
  go_enter Tryz.func84, Tryz.ntmps84
  go_wp2_with fail
  rw [SV_zero]
  refine (not_any 0#256 _).mono ?_
  rw [show ~~~0#256 = allB from rfl]
  rintro e w1 ⟨rfl, hb⟩
  obtain ⟨hc, hf⟩ := bcell hb
  go_wp2
  refine bodyPost_ret (v := SV allB) (by simp [results, Tryz.results84, go_sem, hc]) rfl ⟨rfl, ?_⟩
  exact (((((((Below.refl _ _).alloc (Nat.le_refl _) _).trans (hb.mono (by simp))).setCell (by simp) _).setCell (by simp) _).setCell (by simp) _).setCell (by simp) _)

set_option maxHeartbeats 400000 in
theorem empty_any (s : BitVec 256) (w : World) :
    Calls Tryz.prog 66 #[SV s] w fun e w' => e = .returned (.bool (s == 0#256)) ∧ Below w.heap.size w w' := by
  have key := eqSV0 s
  go_enter Tryz.func66, Tryz.ntmps66
  go_wp2
  go_ret
  exact ⟨rfl, (Below.refl _ _).alloc (Nat.le_refl _) _⟩

theorem has_form (s : BitVec 256) (x : Int) (hx : 0 ≤ x) (hx2 : x < 256) :
    (bits BinOp.and IntKind.u64 ((wd s (x / 64).toNat : Int) / 2 ^ (x % 64).toNat) 1 == 1) = s.getLsbD x.toNat := by
  obtain ⟨n, rfl⟩ := Int.eq_ofNat_of_zero_le hx
  have e1 : ((n : Int) / 64).toNat = n / 64 := by omega
  have e2 : ((n : Int) % 64).toNat = n % 64 := by omega
  have hb := wd_testBit s (n / 64) (n % 64)
  have hs : 64 * (n / 64) + n % 64 = n := by omega
  rw [hs] at hb
  have hm : n % 64 < 64 := by omega
  simp only [hm, decide_true, Bool.true_and] at hb
  rw [e1, e2, Int.toNat_natCast, ← hb]
  have hl := wd_lt s (n / 64)
  generalize wd s (n / 64) = y at *
  generalize n % 64 = j at *
  have e3 : (y : Int) / 2 ^ j = ((y / 2 ^ j : Nat) : Int) := by rw [Int.natCast_ediv, Int.natCast_pow]; rfl
  have h4 : y / 2 ^ j < 18446744073709551616 := Nat.lt_of_le_of_lt (Nat.div_le_self _ _) hl
  rw [e3, show (1 : Int) = ((1 : Nat) : Int) from rfl, bits_and_u64_nat _ 1 h4 (by omega), Nat.and_one_is_mod, Nat.testBit_eq_decide_div_mod_eq]
  rw [Bool.eq_iff_iff]; simp; omega

set_option maxHeartbeats 400000 in
theorem has_any (s : BitVec 256) (x : Int) (hx : 0 ≤ x) (hx2 : x < 256) (w : World) :
    Calls Tryz.prog 169 #[SV s, .int .u8 x] w fun e w' => e = .returned (.bool (s.getLsbD x.toNat)) ∧ Below w.heap.size w w' := by
  have hat := wd_at s (x / 64).toNat (by omega)
  go_enter Tryz.func169, Tryz.ntmps169
  go_wp2
  have hf := has_form s x hx hx2
  rw [hf]
  go_ret
  exact ⟨rfl, (Below.refl _ _).alloc (Nat.le_refl _) _⟩

end Go.Proofs.YtjcfnmjjkadaeaaGreatDoor
/- How many bits of a number are 1, by sums of digits: the arithmetic of math/bits.OnesCount64. -/
namespace Go.Proofs.YtjcfnmjjkadaeaaGreatDoor
set_option maxRecDepth 100000

/-- The sum of the last n digits of x in base B. -/
def ds (B : Nat) : Nat → Nat → Nat
  | 0, _ => 0
  | n + 1, x => x % B + ds B n (x / B)

/-- n digits c in base B. -/
def msk (B c : Nat) : Nat → Nat
  | 0 => 0
  | n + 1 => B * msk B c n + c

def y1 (n x : Nat) : Nat := ((x / 2) &&& msk 4 1 n) + (x &&& msk 4 1 n)
def y2 (n x : Nat) : Nat := ((x / 4) &&& msk 16 3 n) + (x &&& msk 16 3 n)
/-- All digits in base 16 are at most 7, and there are n at most. -/
def low7 : Nat → Nat → Prop
  | 0, z => z = 0
  | n + 1, z => z % 16 ≤ 7 ∧ low7 n (z / 16)
def y3 (n z : Nat) : Nat := (z / 16 + z) &&& msk 256 15 n
end Go.Proofs.YtjcfnmjjkadaeaaGreatDoor
/- Contracts: math/bits.OnesCount64, Len. -/
namespace Go.Proofs.YtjcfnmjjkadaeaaGreatDoor
set_option maxRecDepth 100000
open Go.RowKit

theorem idx4 (a0 a1 a2 a3 : Int) (k : Nat) (hk : k < 4) (w : World) : (Instr.index 89 (.agg #[.int .u64 a0, .int .u64 a1, .int .u64 a2, .int .u64 a3]) (.int .i64 k)).run Tryz.prog w = .ok (.int .u64 ([a0, a1, a2, a3].getD k 0)) w := by
  obtain ⟨i, hi⟩ : ∃ i, Tryz.prog.info? 87 = some i := Option.isSome_iff_exists.1 (by kernel_rfl)
  have h1 : Tryz.prog.cellsOf 87 = 1 := by kernel_rfl
  match k, hk with
  | 0, _ => simp [Instr.index, go_sem, run_sizeOf w hi, h1]
  | 1, _ => simp [Instr.index, go_sem, run_sizeOf w hi, h1]
  | 2, _ => simp [Instr.index, go_sem, run_sizeOf w hi, h1]
  | 3, _ => simp [Instr.index, go_sem, run_sizeOf w hi, h1]

/-- How many bytes are in a set. -/
def card (s : BitVec 256) : Nat := ds 2 64 (wd s 0) + ds 2 64 (wd s 1) + ds 2 64 (wd s 2) + ds 2 64 (wd s 3)

end Go.Proofs.YtjcfnmjjkadaeaaGreatDoor
/- Plain facts on blocks of memory: what a block holds, behind stores, new blocks and draws. -/
namespace Go.Proofs.YtjcfnmjjkadaeaaGreatDoor
set_option maxRecDepth 100000
open Go.RowKit

theorem hide {p : Prop} (h : p) : Hid p := h

/-- Block b holds the cells c, of type t, none of them frozen. -/
def Blk (w : World) (b : Nat) (c : Array Value) (t : TypeId) : Prop := w.heap[b]? = some (.cells c t)

theorem Blk.lt {w : World} {b : Nat} {c : Array Value} {t : TypeId} (h : Blk w b c t) : b < w.heap.size := (Array.getElem?_eq_some_iff.1 h).1
theorem Blk.cell {w : World} {b : Nat} {c : Array Value} {t : TypeId} (h : Blk w b c t) (i : Nat) : w.cell? ⟨b, i, none⟩ = c[i]? := by
  unfold Blk at h; simp [World.cell?, h]
theorem Blk.frozen {w : World} {b : Nat} {c : Array Value} {t : TypeId} (h : Blk w b c t) (i : Nat) : w.frozen? ⟨b, i, none⟩ = false := by
  unfold Blk at h; simp [World.frozen?, h]
theorem Blk.new (w : World) (c : Array Value) (t : TypeId) : Blk (w.alloc (.cells c t)) w.heap.size c t := by unfold Blk; show (w.heap.push _)[w.heap.size]? = _; simp
theorem Blk.newAt {w : World} {n : Nat} (h : n = w.heap.size) (c : Array Value) (t : TypeId) : Blk (w.alloc (.cells c t)) n c t := h ▸ Blk.new w c t
theorem Blk.alloc {w : World} {b : Nat} {c : Array Value} {t : TypeId} (h : Blk w b c t) (o : Obj) : Blk (w.alloc o) b c t := by
  have := h.lt; unfold Blk at *; rw [Below.heap_alloc _ _ _ this]; exact h
theorem Blk.drew {w : World} {b : Nat} {c : Array Value} {t : TypeId} (h : Blk w b c t) : Blk w.drew b c t := h
theorem Blk.set {w : World} {b : Nat} {c : Array Value} {t : TypeId} (h : Blk w b c t) (i : Nat) (v : Value) : Blk (w.setCell ⟨b, i, none⟩ v) b (c.setIfInBounds i v) t := by
  have hl := h.lt
  unfold Blk at *
  have hg := (Array.getElem?_eq_some_iff.1 h).2
  simp only [World.setCell]
  rw [Array.getElem?_eq_getElem (by simpa using hl), Array.getElem_modify_self, hg]
  simp
theorem Blk.setOther {w : World} {b : Nat} {c : Array Value} {t : TypeId} (h : Blk w b c t) (a : Addr) (v : Value) (hb : b ≠ a.block) : Blk (w.setCell a v) b c t := by
  unfold Blk at *; rw [Below.heap_setCell _ _ _ _ hb]; exact h
theorem Blk.below {w w' : World} {b B : Nat} {c : Array Value} {t : TypeId} (h : Blk w b c t) (hb : Below B w w') (hB : b < B) : Blk w' b c t := (hb.block b hB).trans h
theorem Blk.of_cells {w : World} {b : Nat} {c : Array Value} {t : TypeId} (h : Blk w b c t) : w.heap[b]? = some (.cells c t) := h

end Go.Proofs.YtjcfnmjjkadaeaaGreatDoor
/- Contracts: Of, From. -/
namespace Go.Proofs.YtjcfnmjjkadaeaaGreatDoor
set_option maxRecDepth 100000
open Go.RowKit

/-- The set of some bytes. -/
def setOf (l : List Nat) : BitVec 256 := l.foldl (fun s b => s ||| (1#256 <<< b)) 0#256
theorem setOf_snoc (l : List Nat) (x : Nat) : setOf (l ++ [x]) = setOf l ||| (1#256 <<< x) := by simp [setOf]
theorem getLsbD_one_shl (x i : Nat) (hi : i < 256) : (1#256 <<< x).getLsbD i = decide (i = x) := by
  rw [BitVec.getLsbD_shiftLeft, BitVec.getLsbD_one]
  by_cases h : i = x
  · subst h; simp [hi]
  · by_cases h2 : i < x
    · simp [h, h2]
    · have : ¬ i - x = 0 := by omega
      simp [h, this]
theorem setOf_has (l : List Nat) (i : Nat) (hi : i < 256) : (setOf l).getLsbD i = decide (i ∈ l) := by
  have key : ∀ (l : List Nat) (s : BitVec 256), (l.foldl (fun s b => s ||| (1#256 <<< b)) s).getLsbD i = (s.getLsbD i || decide (i ∈ l)) := by
    intro l
    induction l with
    | nil => intro s; simp
    | cons a l ih =>
      intro s
      rw [List.foldl_cons, ih, BitVec.getLsbD_or, getLsbD_one_shl a i hi, Bool.or_assoc]
      congr 1
      by_cases h : i = a <;> simp [h]
  rw [setOf, key]; simp

theorem wd_or_same (s : BitVec 256) (x : Nat) (hx : x < 256) : bits .or .u64 (wd s (x / 64) : Int) (IntKind.u64.wrap (2 ^ (x % 64))) = (wd (s ||| (1#256 <<< x)) (x / 64) : Int) := by
  have e : IntKind.u64.wrap (2 ^ (x % 64)) = (wd (1#256 <<< x) (x / 64) : Int) := by
    have h64 : x % 64 < 64 := by omega
    have h2 : 2 ^ (x % 64) < 2 ^ 64 := Nat.pow_lt_pow_right (by omega) h64
    have e2 : wd (1#256 <<< x) (x / 64) = 2 ^ (x % 64) := by
      apply Nat.eq_of_testBit_eq; intro j
      rw [wd_testBit, Nat.testBit_two_pow]
      by_cases hj : j < 64
      · rw [getLsbD_one_shl x _ (by omega)]
        simp only [hj, decide_true, Bool.true_and]
        congr 1
        apply propext; omega
      · have : ¬ x % 64 = j := by omega
        simp [hj, this]
    rw [e2, IntKind.wrap_u64]
    have : ((2 ^ (x % 64) : Nat) : Int) = (2 : Int) ^ (x % 64) := by rw [Int.natCast_pow]; rfl
    omega
  rw [e, bits_or_wd]
theorem wd_or_other (s : BitVec 256) (x k : Nat) (hk : k < 4) (h : k ≠ x / 64) : wd (s ||| (1#256 <<< x)) k = wd s k := by
  rw [← wd_or]
  have : wd (1#256 <<< x) k = 0 := by
    apply Nat.eq_of_testBit_eq; intro j
    rw [wd_testBit, Nat.zero_testBit]
    by_cases hj : j < 64
    · rw [getLsbD_one_shl x _ (by omega)]
      have : ¬ 64 * k + j = x := by omega
      simp [this]
    · simp [hj]
  rw [this, Nat.or_zero]

/-- The cells of a set. -/
abbrev WS (s : BitVec 256) : Array Value := #[.int .u64 (wd s 0), .int .u64 (wd s 1), .int .u64 (wd s 2), .int .u64 (wd s 3)]
theorem WS_set (s : BitVec 256) (x : Nat) (hx : x < 256) : (WS s).setIfInBounds (x / 64) (.int .u64 (wd (s ||| (1#256 <<< x)) (x / 64))) = WS (s ||| (1#256 <<< x)) := by
  have h4 : x / 64 < 4 := by omega
  generalize hk : x / 64 = k at *
  have ho : ∀ j, j < 4 → j ≠ k → wd (s ||| (1#256 <<< x)) j = wd s j := fun j hj hne => wd_or_other s x j hj (by omega)
  match k, h4 with
  | 0, _ => simp [ho 1, ho 2, ho 3]
  | 1, _ => simp [ho 0, ho 2, ho 3]
  | 2, _ => simp [ho 0, ho 1, ho 3]
  | 3, _ => simp [ho 0, ho 1, ho 2]
theorem WS_get (s : BitVec 256) (k : Nat) (hk : k < 4) : (WS s)[k]? = some (.int .u64 (wd s k)) := by
  have := wd_at s k hk
  simpa using this
theorem WS_zero : (#[.int .u64 0, .int .u64 0, .int .u64 0, .int .u64 0] : Array Value) = WS 0#256 := by simp [WS, wd_zero]

set_option maxHeartbeats 400000 in
theorem of_any (l : List Nat) (hl : ∀ x ∈ l, x < 256) (w : World) (a : Option Addr) (cap : Nat)
    (hc : ∀ k, k < l.length → ∃ b off, a = some ⟨b, off, none⟩ ∧ b < w.heap.size ∧ w.cell? ⟨b, off + k, none⟩ = some (.int .u8 (l.getD k 0))) (hlen : l.length ≤ 1000000) :
    Calls Tryz.prog 72 #[.slice a l.length cap] w fun e w' => e = .returned (SV (setOf l)) ∧ Below w.heap.size w w' := by
  go_enter Tryz.func72, Tryz.ntmps72
  go_wp2
  go_loopw [8] (fun i wr => ∃ k : Nat, k ≤ l.length ∧ i = .int .i64 k ∧ Blk wr (w.heap.size + 1) (WS (setOf (l.take k))) 89 ∧ Blk wr w.heap.size (WS 0#256) 89 ∧ Below w.heap.size w wr) (fun i _ => l.length - (intOf i).toNat)
  case atStart =>
    refine ⟨0, Nat.zero_le _, rfl, ?_, ?_, ?_⟩
    · have := Blk.new (w.alloc (.cells #[.int .u64 0, .int .u64 0, .int .u64 0, .int .u64 0] 89)) #[.int .u64 0, .int .u64 0, .int .u64 0, .int .u64 0] 89
      rw [World.size_alloc] at this
      rw [WS_zero] at this
      simpa [setOf, WS_zero] using this
    · have := (Blk.new w #[.int .u64 0, .int .u64 0, .int .u64 0, .int .u64 0] 89).alloc (.cells #[.int .u64 0, .int .u64 0, .int .u64 0, .int .u64 0] 89)
      rw [WS_zero] at this
      simpa [WS_zero] using this
    · exact ((Below.refl _ _).alloc (Nat.le_refl _) _).alloc (by simp) _
  case round =>
    obtain ⟨k, hk, rfl, hB1, hB0, hbel⟩ := hrel
    by_cases hlt : k < l.length
    · obtain ⟨b, off, rfl, hb, hcell⟩ := hc k hlt
      have hx : l.getD k 0 < 256 := hl _ (by rw [List.getD_eq_getElem?_getD, List.getElem?_eq_getElem hlt]; simp)
      have htake : l.take (k + 1) = l.take k ++ [l.getD k 0] := by
        rw [List.take_succ_eq_append_getElem hlt]; simp [List.getD_eq_getElem?_getD, hlt]
      have hcr : wr.cell? ⟨b, off + k, none⟩ = some (.int .u8 (l.getD k 0)) := (hbel.cell (p := ⟨b, off + k, none⟩) hb).trans hcell
      generalize l.getD k 0 = x at *
      have HT : Hid (l.take (k + 1) = l.take k ++ [x]) := htake
      have HC : Hid (wr.cell? ⟨b, off + k, none⟩ = some (.int .u8 x)) := hcr
      clear htake hc hcell
      generalize hs : setOf (l.take k) = s at *
      have HS : Hid (setOf (l.take k) = s) := hs
      clear hs
      have e1 : ((x : Int) / 64).toNat = x / 64 := by omega
      have e2 : ((x : Int) % 64).toNat = x % 64 := by omega
      have hw := hB1.cell (x / 64)
      rw [WS_get s _ (by omega)] at hw
      have hf := hB1.frozen (x / 64)
      go_wp2
      have hbits := wd_or_same s x hx
      rw [hbits]
      refine ⟨⟨k + 1, by omega, by go_num, ?_, hB0.setOther _ _ (by simp), hbel.setCell (by simp) _⟩, by simp [intOf]; omega⟩
      have h2 := hB1.set (x / 64) (.int .u64 (wd (s ||| (1#256 <<< x)) (x / 64)))
      rw [WS_set s x hx] at h2
      rw [HT.out, setOf_snoc, HS.out]
      exact h2
    · obtain rfl : k = l.length := by omega
      rw [List.take_length] at hB1
      generalize hs : setOf l = s at *
      have HS : Hid (setOf l = s) := hs
      clear hs hc
      have c0 := hB1.cell 0; have c1 := hB1.cell 1; have c2 := hB1.cell 2; have c3 := hB1.cell 3
      have d0 := hB0.cell 0; have d1 := hB0.cell 1; have d2 := hB0.cell 2; have d3 := hB0.cell 3
      have f0 := hB0.frozen 0; have f1 := hB0.frozen 1; have f2 := hB0.frozen 2; have f3 := hB0.frozen 3
      simp only [List.getElem?_toArray, List.getElem?_cons_zero, List.getElem?_cons_succ] at c0 c1 c2 c3 d0 d1 d2 d3
      go_wp2
      refine bodyPost_ret (v := SV s) (by simp [results, Tryz.results72, go_sem, d0, d1, d2, d3]) rfl ⟨by rw [HS.out], ?_⟩
      exact (((hbel.setCell (by simp) _).setCell (by simp) _).setCell (by simp) _).setCell (by simp) _

/-- The bytes from a to b - 1. -/
def span (a b : Nat) : BitVec 256 := setOf (List.range' a (b - a))
theorem span_succ (a b : Nat) (h : a ≤ b) : span a (b + 1) = span a b ||| (1#256 <<< b) := by
  unfold span
  rw [show b + 1 - a = (b - a) + 1 from by omega, List.range'_concat, setOf_snoc, Nat.one_mul, show a + (b - a) = b from by omega]

set_option maxHeartbeats 400000 in
theorem from_any (lo hi : Nat) (h1 : lo < 256) (h2 : hi < 256) (w : World) :
    Calls Tryz.prog 50 #[.int .u8 lo, .int .u8 hi] w fun e w' => e = .returned (SV (span lo (hi + 1))) ∧ Below w.heap.size w w' := by
  go_enter Tryz.func50, Tryz.ntmps50
  go_wp2
  go_loopw [6] (fun i wr => ∃ k : Nat, lo ≤ k ∧ (k ≤ hi + 1 ∨ k = lo) ∧ i = .int .i64 k ∧ Blk wr (w.heap.size + 1) (WS (span lo k)) 89 ∧ Blk wr w.heap.size (WS 0#256) 89 ∧ Below w.heap.size w wr) (fun i _ => 256 - (intOf i).toNat)
  case atStart =>
    refine ⟨lo, Nat.le_refl _, .inr rfl, rfl, ?_, ?_, ?_⟩
    · have := Blk.new (w.alloc (.cells #[.int .u64 0, .int .u64 0, .int .u64 0, .int .u64 0] 89)) #[.int .u64 0, .int .u64 0, .int .u64 0, .int .u64 0] 89
      rw [World.size_alloc] at this
      rw [WS_zero] at this
      simpa [span, setOf, WS_zero] using this
    · have := (Blk.new w #[.int .u64 0, .int .u64 0, .int .u64 0, .int .u64 0] 89).alloc (.cells #[.int .u64 0, .int .u64 0, .int .u64 0, .int .u64 0] 89)
      rw [WS_zero] at this
      simpa [WS_zero] using this
    · exact ((Below.refl _ _).alloc (Nat.le_refl _) _).alloc (by simp) _
  case round =>
    obtain ⟨x, hlo, hor, rfl, hB1, hB0, hbel⟩ := hrel
    have hsp := span_succ lo x hlo
    have HP : Hid (span lo (x + 1) = span lo x ||| (1#256 <<< x)) := hsp
    clear hsp
    by_cases hlt : x ≤ hi
    · generalize hs : span lo x = s at *
      clear hs
      have e1 : ((x : Int) / 64).toNat = x / 64 := by omega
      have e2 : ((x : Int) % 64).toNat = x % 64 := by omega
      have hw := hB1.cell (x / 64)
      rw [WS_get s _ (by omega)] at hw
      have hf := hB1.frozen (x / 64)
      go_wp2
      go_region
      go_wp2
      have hbits := wd_or_same s x (by omega)
      rw [hbits]
      refine ⟨⟨x + 1, by omega, by omega, by go_num, ?_, (hB0.setOther _ _ (by simp)).drew, (hbel.setCell (by simp) _).drew⟩, by simp [intOf]; omega⟩
      have h2 := hB1.set (x / 64) (.int .u64 (wd (s ||| (1#256 <<< x)) (x / 64)))
      rw [WS_set s x (by omega)] at h2
      rw [HP.out]
      exact h2.drew
    · have hend : span lo (hi + 1) = span lo x := by
        rcases hor with h | h
        · rw [show x = hi + 1 from by omega]
        · subst h; unfold span; rw [show hi + 1 - x = 0 from by omega, Nat.sub_self]
      generalize hs : span lo x = s at *
      have HS : Hid (span lo (hi + 1) = s) := hend
      clear hs hend HP
      have c0 := hB1.cell 0; have c1 := hB1.cell 1; have c2 := hB1.cell 2; have c3 := hB1.cell 3
      have d0 := hB0.cell 0; have d1 := hB0.cell 1; have d2 := hB0.cell 2; have d3 := hB0.cell 3
      have f0 := hB0.frozen 0; have f1 := hB0.frozen 1; have f2 := hB0.frozen 2; have f3 := hB0.frozen 3
      simp only [List.getElem?_toArray, List.getElem?_cons_zero, List.getElem?_cons_succ] at c0 c1 c2 c3 d0 d1 d2 d3
      go_wp2
      refine bodyPost_ret (v := SV s) (by simp [results, Tryz.results50, go_sem, d0, d1, d2, d3]) rfl ⟨by rw [HS.out], ?_⟩
      exact (((hbel.setCell (by simp) _).setCell (by simp) _).setCell (by simp) _).setCell (by simp) _

end Go.Proofs.YtjcfnmjjkadaeaaGreatDoor
