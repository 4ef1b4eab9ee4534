/- Texts of this claim put together: SetC, Heap. -/
import Derived.Test.YthhfpjehamhcbaaGreatDoorJoinMathPop
import Derived.WalkKit
/- Contracts: math/bits.OnesCount64, Len. -/
namespace Go.Proofs.YthhfpjehamhcbaaGreatDoor
set_option maxRecDepth 100000
open Go.RowKit

theorem ret_int {k : IntKind} {a b : Int} (h : a = b) : Ending.returned (.int k a) = .returned (.int k b) := by rw [h]
theorem band (a b : Nat) (ha : a < 18446744073709551616) (hb : b < 18446744073709551616) (n : Int) (hn : n = (a : Int)) (m : Int) (hm : m = (b : Int)) : bits .and .u64 n m = ((a &&& b : Nat) : Int) := by
  subst hn; subst hm; exact bits_and_u64_nat a b ha hb

set_option maxHeartbeats 400000 in
theorem ones_core (x a1 a2 a3 a4 a5 a6 r : Nat) (w : World)
    (e1 : IntKind.u64.wrap (bits BinOp.and IntKind.u64 ((x : Int) / 2) 6148914691236517205 + bits BinOp.and IntKind.u64 (x : Int) 6148914691236517205) = (a1 : Int))
    (e2 : IntKind.u64.wrap (bits BinOp.and IntKind.u64 ((a1 : Int) / 4) 3689348814741910323 + bits BinOp.and IntKind.u64 (a1 : Int) 3689348814741910323) = (a2 : Int))
    (e3 : bits BinOp.and IntKind.u64 (IntKind.u64.wrap ((a2 : Int) / 16 + (a2 : Int))) 1085102592571150095 = (a3 : Int))
    (e4 : IntKind.u64.wrap ((a3 : Int) + (a3 : Int) / 256) = (a4 : Int))
    (e5 : IntKind.u64.wrap ((a4 : Int) + (a4 : Int) / 65536) = (a5 : Int))
    (e6 : IntKind.u64.wrap ((a5 : Int) + (a5 : Int) / 4294967296) = (a6 : Int))
    (e7 : bits BinOp.and IntKind.i64 (wrap64 (a6 : Int)) 127 = (r : Int)) :
    Calls Tryz.prog 124 #[.int .u64 x] w fun e w' => e = .returned (.int .i64 r) ∧ w' = w := by
  go_enter Tryz.func124, Tryz.ntmps124
  go_wp2
  go_ret
  exact ⟨rfl, rfl⟩

theorem bits_and_i64_127 (a : Nat) : bits BinOp.and IntKind.i64 (wrap64 (a : Int)) 127 = ((a % 128 : Nat) : Int) := by
  have h1 : BitVec.ofInt 64 (wrap64 (a : Int)) = BitVec.ofNat 64 a := by
    apply BitVec.eq_of_toNat_eq
    rw [BitVec.toNat_ofInt, BitVec.toNat_ofNat]
    unfold wrap64; omega
  show IntKind.i64.wrap ((BitVec.ofInt 64 (wrap64 (a : Int)) &&& BitVec.ofInt 64 127).toNat : Int) = _
  rw [h1, show BitVec.ofInt 64 127 = BitVec.ofNat 64 127 from rfl, BitVec.toNat_and, BitVec.toNat_ofNat, BitVec.toNat_ofNat]
  rw [show 127 % 2 ^ 64 = 2 ^ 7 - 1 from rfl, Nat.and_two_pow_sub_one_eq_mod, IntKind.wrap_i64]
  omega

theorem ones_any (x : Nat) (hx : x < 18446744073709551616) (w : World) :
    Calls Tryz.prog 124 #[.int .u64 x] w fun e w' => e = .returned (.int .i64 (ds 2 64 x)) ∧ w' = w := by
  obtain ⟨a1, e1⟩ : ∃ a1, a1 = ((x / 2) &&& 6148914691236517205) + (x &&& 6148914691236517205) := ⟨_, rfl⟩
  obtain ⟨a2, e2⟩ : ∃ a2, a2 = ((a1 / 4) &&& 3689348814741910323) + (a1 &&& 3689348814741910323) := ⟨_, rfl⟩
  obtain ⟨a3, e3⟩ : ∃ a3, a3 = (a2 / 16 + a2) &&& 1085102592571150095 := ⟨_, rfl⟩
  obtain ⟨l1, l2, l3, hl⟩ := ones_nat x a1 a2 a3 e1 e2 e3
  obtain ⟨a4, e4⟩ : ∃ a4, a4 = a3 + a3 / 256 := ⟨_, rfl⟩
  obtain ⟨a5, e5⟩ : ∃ a5, a5 = a4 + a4 / 65536 := ⟨_, rfl⟩
  obtain ⟨a6, e6⟩ : ∃ a6, a6 = a5 + a5 / 4294967296 := ⟨_, rfl⟩
  simp only [← e4] at hl; simp only [← e5] at hl; simp only [← e6] at hl
  obtain ⟨l6, hr⟩ := hl
  refine ones_core x a1 a2 a3 a4 a5 a6 (ds 2 64 x) w ?_ ?_ ?_ ?_ ?_ ?_ ?_
  · rw [band (x / 2) 6148914691236517205 (by omega) (by omega) ((x : Int) / 2) (by omega) 6148914691236517205 (by omega), band x 6148914691236517205 hx (by omega) (x : Int) (by omega) 6148914691236517205 (by omega), IntKind.wrap_u64]; omega
  · rw [band (a1 / 4) 3689348814741910323 (by omega) (by omega) ((a1 : Int) / 4) (by omega) 3689348814741910323 (by omega), band a1 3689348814741910323 l1 (by omega) (a1 : Int) (by omega) 3689348814741910323 (by omega), IntKind.wrap_u64]; omega
  · rw [band (a2 / 16 + a2) 1085102592571150095 (by omega) (by omega) (IntKind.u64.wrap ((a2 : Int) / 16 + (a2 : Int))) (by rw [IntKind.wrap_u64]; omega) 1085102592571150095 (by omega), e3]
  · rw [IntKind.wrap_u64]; omega
  · rw [IntKind.wrap_u64]; omega
  · rw [IntKind.wrap_u64]; omega
  · rw [bits_and_i64_127, hr]

theorem idx4 (a0 a1 a2 a3 : Int) (k : Nat) (hk : k < 4) (w : World) : (Instr.index 49 (.agg #[.int .u64 a0, .int .u64 a1, .int .u64 a2, .int .u64 a3]) (.int .i64 k)).run Tryz.prog w = .ok (.int .u64 ([a0, a1, a2, a3].getD k 0)) w := by
  obtain ⟨i, hi⟩ : ∃ i, Tryz.prog.info? 47 = some i := Option.isSome_iff_exists.1 (by kernel_rfl)
  have h1 : Tryz.prog.cellsOf 47 = 1 := by kernel_rfl
  match k, hk with
  | 0, _ => simp [Instr.index, go_sem, run_sizeOf w hi, h1]
  | 1, _ => simp [Instr.index, go_sem, run_sizeOf w hi, h1]
  | 2, _ => simp [Instr.index, go_sem, run_sizeOf w hi, h1]
  | 3, _ => simp [Instr.index, go_sem, run_sizeOf w hi, h1]

/-- How many bytes are in a set. -/
def card (s : BitVec 256) : Nat := ds 2 64 (wd s 0) + ds 2 64 (wd s 1) + ds 2 64 (wd s 2) + ds 2 64 (wd s 3)

set_option maxHeartbeats 400000 in
theorem len_any (s : BitVec 256) (w : World) :
    Calls Tryz.prog 98 #[SV s] w fun e w' => e = .returned (.int .i64 (card s)) ∧ Below w.heap.size w w' := by
  obtain ⟨n0, h0⟩ : ∃ n, n = ds 2 64 (wd s 0) := ⟨_, rfl⟩
  obtain ⟨n1, h1⟩ : ∃ n, n = ds 2 64 (wd s 1) := ⟨_, rfl⟩
  obtain ⟨n2, h2⟩ : ∃ n, n = ds 2 64 (wd s 2) := ⟨_, rfl⟩
  obtain ⟨n3, h3⟩ : ∃ n, n = ds 2 64 (wd s 3) := ⟨_, rfl⟩
  have b0 : n0 ≤ 64 := by rw [h0]; exact ds2_le _ _
  have b1 : n1 ≤ 64 := by rw [h1]; exact ds2_le _ _
  have b2 : n2 ≤ 64 := by rw [h2]; exact ds2_le _ _
  have b3 : n3 ≤ 64 := by rw [h3]; exact ds2_le _ _
  have c0 := ones_any (wd s 0) (wd_lt s 0)
  have c1 := ones_any (wd s 1) (wd_lt s 1)
  have c2 := ones_any (wd s 2) (wd_lt s 2)
  have c3 := ones_any (wd s 3) (wd_lt s 3)
  have hsum : Hid (card s = n0 + n1 + n2 + n3) := by rw [h0, h1, h2, h3]; rfl
  rw [← h0] at c0; rw [← h1] at c1; rw [← h2] at c2; rw [← h3] at c3
  clear h0 h1 h2 h3
  have C0 : Hid (∀ (w : World), Calls Tryz.prog 124 #[.int .u64 (wd s 0)] w fun e w' => e = .returned (.int .i64 n0) ∧ w' = w) := c0
  have C1 : Hid (∀ (w : World), Calls Tryz.prog 124 #[.int .u64 (wd s 1)] w fun e w' => e = .returned (.int .i64 n1) ∧ w' = w) := c1
  have C2 : Hid (∀ (w : World), Calls Tryz.prog 124 #[.int .u64 (wd s 2)] w fun e w' => e = .returned (.int .i64 n2) ∧ w' = w) := c2
  have C3 : Hid (∀ (w : World), Calls Tryz.prog 124 #[.int .u64 (wd s 3)] w fun e w' => e = .returned (.int .i64 n3) ∧ w' = w) := c3
  clear c0 c1 c2 c3
  have i0 := idx4 (wd s 0) (wd s 1) (wd s 2) (wd s 3) 0 (by omega)
  have i1 := idx4 (wd s 0) (wd s 1) (wd s 2) (wd s 3) 1 (by omega)
  have i2 := idx4 (wd s 0) (wd s 1) (wd s 2) (wd s 3) 2 (by omega)
  have i3 := idx4 (wd s 0) (wd s 1) (wd s 2) (wd s 3) 3 (by omega)
  simp only [List.getD_cons_zero, List.getD_cons_succ, Int.cast_ofNat_Int] at i0 i1 i2 i3
  go_enter Tryz.func98, Tryz.ntmps98
  go_wp2
  refine wp_loop_rounds 5 ?_
  rw [rounds_succ]; go_wp2_with fail; refine (C0.out _).mono ?_; rintro e w1 ⟨rfl, rfl⟩; go_wp2
  rw [rounds_succ]; go_wp2_with fail; refine (C1.out _).mono ?_; rintro e w1 ⟨rfl, rfl⟩; go_wp2
  rw [rounds_succ]; go_wp2_with fail; refine (C2.out _).mono ?_; rintro e w1 ⟨rfl, rfl⟩; go_wp2
  rw [rounds_succ]; go_wp2_with fail; refine (C3.out _).mono ?_; rintro e w1 ⟨rfl, rfl⟩; go_wp2
  rw [rounds_succ]; go_wp2
  go_ret
  exact ⟨ret_int (by have := hsum.out; omega), (Below.refl _ _).alloc (Nat.le_refl _) _⟩
end Go.Proofs.YthhfpjehamhcbaaGreatDoor
/- Plain facts on blocks of memory: what a block holds, behind stores, new blocks and draws. -/
namespace Go.Proofs.YthhfpjehamhcbaaGreatDoor
set_option maxRecDepth 100000
open Go.RowKit

theorem hide {p : Prop} (h : p) : Hid p := h

/-- Block b holds the cells c, of type t, none of them frozen. -/
def Blk (w : World) (b : Nat) (c : Array Value) (t : TypeId) : Prop := w.heap[b]? = some (.cells c t)

theorem Blk.lt {w : World} {b : Nat} {c : Array Value} {t : TypeId} (h : Blk w b c t) : b < w.heap.size := (Array.getElem?_eq_some_iff.1 h).1
theorem Blk.cell {w : World} {b : Nat} {c : Array Value} {t : TypeId} (h : Blk w b c t) (i : Nat) : w.cell? ⟨b, i, none⟩ = c[i]? := by
  unfold Blk at h; simp [World.cell?, h]
theorem Blk.frozen {w : World} {b : Nat} {c : Array Value} {t : TypeId} (h : Blk w b c t) (i : Nat) : w.frozen? ⟨b, i, none⟩ = false := by
  unfold Blk at h; simp [World.frozen?, h]
theorem Blk.new (w : World) (c : Array Value) (t : TypeId) : Blk (w.alloc (.cells c t)) w.heap.size c t := by unfold Blk; show (w.heap.push _)[w.heap.size]? = _; simp
theorem Blk.newAt {w : World} {n : Nat} (h : n = w.heap.size) (c : Array Value) (t : TypeId) : Blk (w.alloc (.cells c t)) n c t := h ▸ Blk.new w c t
theorem Blk.alloc {w : World} {b : Nat} {c : Array Value} {t : TypeId} (h : Blk w b c t) (o : Obj) : Blk (w.alloc o) b c t := by
  have := h.lt; unfold Blk at *; rw [Below.heap_alloc _ _ _ this]; exact h
theorem Blk.drew {w : World} {b : Nat} {c : Array Value} {t : TypeId} (h : Blk w b c t) : Blk w.drew b c t := h
theorem Blk.set {w : World} {b : Nat} {c : Array Value} {t : TypeId} (h : Blk w b c t) (i : Nat) (v : Value) : Blk (w.setCell ⟨b, i, none⟩ v) b (c.setIfInBounds i v) t := by
  have hl := h.lt
  unfold Blk at *
  have hg := (Array.getElem?_eq_some_iff.1 h).2
  simp only [World.setCell]
  rw [Array.getElem?_eq_getElem (by simpa using hl), Array.getElem_modify_self, hg]
  simp
theorem Blk.setOther {w : World} {b : Nat} {c : Array Value} {t : TypeId} (h : Blk w b c t) (a : Addr) (v : Value) (hb : b ≠ a.block) : Blk (w.setCell a v) b c t := by
  unfold Blk at *; rw [Below.heap_setCell _ _ _ _ hb]; exact h
theorem Blk.below {w w' : World} {b B : Nat} {c : Array Value} {t : TypeId} (h : Blk w b c t) (hb : Below B w w') (hB : b < B) : Blk w' b c t := (hb.block b hB).trans h
theorem Blk.of_cells {w : World} {b : Nat} {c : Array Value} {t : TypeId} (h : Blk w b c t) : w.heap[b]? = some (.cells c t) := h

end Go.Proofs.YthhfpjehamhcbaaGreatDoor
