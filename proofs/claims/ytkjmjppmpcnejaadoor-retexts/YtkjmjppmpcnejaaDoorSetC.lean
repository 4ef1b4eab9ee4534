/- Contracts: math/bits.OnesCount64, Len. -/
import Derived.Test.YtkjmjppmpcnejaaDoorSetB
import Derived.Test.YtkjmjppmpcnejaaDoorMathPop
namespace Go.Proofs.YtkjmjppmpcnejaaDoor
set_option maxRecDepth 100000
open Go.RowKit

theorem ret_int {k : IntKind} {a b : Int} (h : a = b) : Ending.returned (.int k a) = .returned (.int k b) := by rw [h]
theorem band (a b : Nat) (ha : a < 18446744073709551616) (hb : b < 18446744073709551616) (n : Int) (hn : n = (a : Int)) (m : Int) (hm : m = (b : Int)) : bits .and .u64 n m = ((a &&& b : Nat) : Int) := by
  subst hn; subst hm; exact bits_and_u64_nat a b ha hb

theorem bits_and_i64_127 (a : Nat) : bits BinOp.and IntKind.i64 (wrap64 (a : Int)) 127 = ((a % 128 : Nat) : Int) := by
  have h1 : BitVec.ofInt 64 (wrap64 (a : Int)) = BitVec.ofNat 64 a := by
    apply BitVec.eq_of_toNat_eq
    rw [BitVec.toNat_ofInt, BitVec.toNat_ofNat]
    unfold wrap64; omega
  show IntKind.i64.wrap ((BitVec.ofInt 64 (wrap64 (a : Int)) &&& BitVec.ofInt 64 127).toNat : Int) = _
  rw [h1, show BitVec.ofInt 64 127 = BitVec.ofNat 64 127 from rfl, BitVec.toNat_and, BitVec.toNat_ofNat, BitVec.toNat_ofNat]
  rw [show 127 % 2 ^ 64 = 2 ^ 7 - 1 from rfl, Nat.and_two_pow_sub_one_eq_mod, IntKind.wrap_i64]
  omega

theorem idx4 (a0 a1 a2 a3 : Int) (k : Nat) (hk : k < 4) (w : World) : (Instr.index 45 (.agg #[.int .u64 a0, .int .u64 a1, .int .u64 a2, .int .u64 a3]) (.int .i64 k)).run Tryd.prog w = .ok (.int .u64 ([a0, a1, a2, a3].getD k 0)) w := by
  obtain ⟨i, hi⟩ : ∃ i, Tryd.prog.info? 43 = some i := Option.isSome_iff_exists.1 (by kernel_rfl)
  have h1 : Tryd.prog.cellsOf 43 = 1 := by kernel_rfl
  match k, hk with
  | 0, _ => simp [Instr.index, go_sem, run_sizeOf w hi, h1]
  | 1, _ => simp [Instr.index, go_sem, run_sizeOf w hi, h1]
  | 2, _ => simp [Instr.index, go_sem, run_sizeOf w hi, h1]
  | 3, _ => simp [Instr.index, go_sem, run_sizeOf w hi, h1]

/-- How many bytes are in a set. -/
def card (s : BitVec 256) : Nat := ds 2 64 (wd s 0) + ds 2 64 (wd s 1) + ds 2 64 (wd s 2) + ds 2 64 (wd s 3)

end Go.Proofs.YtkjmjppmpcnejaaDoor
