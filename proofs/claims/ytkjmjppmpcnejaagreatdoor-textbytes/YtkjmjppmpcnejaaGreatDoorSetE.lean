/- Contracts: math/bits.TrailingZeros64; the iterator that Bytes hands out. -/
import Derived.Test.YtkjmjppmpcnejaaGreatDoorSetD
import Derived.Test.YtkjmjppmpcnejaaGreatDoorRange
import Derived.Test.YtkjmjppmpcnejaaGreatDoorMathBits
import Derived.Shelf.Abstract
import Derived.Shelf.RegionOpen
import Derived.OwnWalkIn
import Derived.TacticsInMore
import Derived.LoopNIn
import Derived.LoopIn
namespace Go.Proofs.YtkjmjppmpcnejaaGreatDoor
set_option maxRecDepth 100000
open Go.RowKit Go.Shelf

attribute [local go_sem] Oper.semAt_some

/-- The table of math/bits lies in its variable. -/
def TabAt (w : World) : Prop := ∀ j, j < 64 → w.cell? ⟨1, j, none⟩ = some (.int .u8 (Lib.deBruijn64tab.getD j 0))

set_option maxHeartbeats 1000000 in
theorem tz64_core (x k idx : Nat) (w : World) (hx0 : ((x : Int) == 0) = false)
    (key : IntKind.u64.wrap (bits BinOp.and IntKind.u64 (x : Int) (IntKind.u64.wrap (-(x : Int))) * 285870213051353865) / 288230376151711744 = (idx : Int))
    (hi : idx < 64) (hk : k < 64) (hcell : w.cell? ⟨1, idx, none⟩ = some (.int .u8 k)) :
    Calls Tryz.prog 114 #[.int .u64 x] w fun e w' => e = .returned (.int .i64 k) ∧ w' = w := by
  go_enter Tryz.func114, Tryz.ntmps114
  go_wp2_with (simp only [key])
  go_ret
  exact ⟨rfl, rfl⟩

theorem tz64_key (x a : Nat) (hx : x < 18446744073709551616) (hx0 : x ≠ 0) (hlow : x &&& (18446744073709551616 - x) = a) :
    IntKind.u64.wrap (bits BinOp.and IntKind.u64 (x : Int) (IntKind.u64.wrap (-(x : Int))) * 285870213051353865) / 288230376151711744 = ((a * 285870213051353865 % 18446744073709551616 / 288230376151711744 : Nat) : Int) := by
  have e1 : IntKind.u64.wrap (-(x : Int)) = ((18446744073709551616 - x : Nat) : Int) := by rw [IntKind.wrap_u64]; omega
  rw [e1, bits_and_u64_nat x _ hx (by omega), hlow, IntKind.wrap_u64]
  omega

theorem tz_any (x : Nat) (h0 : 0 < x) (hx : x < 18446744073709551616) (w : World) (hT : TabAt w) :
    Calls Tryz.prog 114 #[.int .u64 x] w fun e w' => e = .returned (.int .i64 (Lib.ctzFrom 64 x)) ∧ w' = w := by
  obtain ⟨hlow, hk⟩ := Lib.lowest_bit 64 x (by omega) hx
  have e : Lib.ctz 64 x = Lib.ctzFrom 64 x := by unfold Lib.ctz; rw [if_neg (by omega)]
  rw [e] at hk hlow
  rw [show 2 ^ 64 = 18446744073709551616 from rfl] at hlow
  generalize Lib.ctzFrom 64 x = c at *
  obtain ⟨hi, htab⟩ := Lib.deBruijn64_at c hk
  have hcell := hT _ hi
  rw [htab] at hcell
  exact tz64_core x c _ w (by simp; omega) (tz64_key x _ hx (by omega) hlow) hi hk hcell

theorem idxS (s : BitVec 256) (k : Nat) (hk : k < 4) (w : World) : (Instr.index 42 (SV s) (.int .i64 k)).run Tryz.prog w = .ok (.int .u64 (wd s k)) w := by
  have h := idx4 (wd s 0) (wd s 1) (wd s 2) (wd s 3) k hk w
  match k, hk with
  | 0, _ => exact h
  | 1, _ => exact h
  | 2, _ => exact h
  | 3, _ => exact h

theorem u8_nat (n : Nat) (h : n < 256) : IntKind.u8.wrap (n : Int) = (n : Int) := by
  simp [IntKind.wrap, IntKind.signed, IntKind.bits]; omega
theorem pred_and (y : Nat) (h0 : 0 < y) (hy : y < 18446744073709551616) : bits BinOp.and IntKind.u64 (y : Int) ((y : Int) - 1) = ((y &&& (y - 1) : Nat) : Int) := by
  have e : (y : Int) - 1 = ((y - 1 : Nat) : Int) := by omega
  rw [e, bits_and_u64_nat _ _ hy (by omega)]

theorem TabAt.agree {K : Nat → Prop} {w w' : World} (h : TabAt w) (ha : AgreeW K w w') (hk : K 1) : TabAt w' := fun j hj => by
  have hc := h j hj
  rw [← hc]
  exact World.cell?_of_block (w := w) (ha.block _ (World.block_lt_of_cell? _ _ hc) hk)

set_option maxRecDepth 100000 in
set_option maxHeartbeats 1000000 in
theorem bytes1_any (s : BitVec 256) (Bx : Nat) (W : World) (hB : Blk W Bx (WS s) 42) (hT : TabAt W) :
    Iter Tryz.prog 113 #[.pointer (some ⟨Bx, 0, none⟩)] (fun x : Nat => #[.int .u8 x]) (bytesOf s) (fun k => k = Bx ∨ k = 1) W := by
  intro l J Jx M hJ hJx hY hM hown h0
  have c0 := hB.cell 0; have c1 := hB.cell 1; have c2 := hB.cell 2; have c3 := hB.cell 3
  simp only [List.getElem?_toArray, List.getElem?_cons_zero, List.getElem?_cons_succ] at c0 c1 c2 c3
  have hG : ¬ M 1 := hown _ (.inr rfl)
  have HG : Hid (¬ M 1) := hG
  have HT : Hid (TabAt W) := hT
  have HY := hY
  clear hG hT hown hY
  refine callsIn_of_wp Tryz.func113 rfl trivial ?_ rfl
  simp only [Tryz.ntmps113, List.size_toArray, List.length_cons, List.length_nil, Nat.reduceAdd, Nat.reduceSub, Array.replicate_succ, Array.replicate_zero, List.push_toArray, List.append_toArray, List.nil_append, List.cons_append]
  gi_wp2
  clear c0 c1 c2 c3
  gi_loopw [6] (fun i wr => ∃ k : Nat, k ≤ 4 ∧ i = .int .i64 k ∧ ∃ M', Foot M M' W wr ∧ J (upto s k) M' wr) (fun i _ => 4 - (intOf i).toNat)
  case atStart => exact ⟨0, by omega, rfl, M, Foot.refl M W hM, h0⟩
  case round =>
    obtain ⟨k, hk, rfl, M1, hF1, hJ1⟩ := hrel
    by_cases hk4 : k < 4
    · have hix := idxS s k hk4
      have hd : decide ((k : Int) < 4) = true := by simp; omega
      gi_wp2
      gi_loopw [4] (fun v wr => ∃ (y : Nat) (dn : List Nat), v = .int .u64 y ∧ y < 18446744073709551616 ∧ dn ++ (bitsL y).map (64 * k + ·) = wb s k ∧ ∃ M', Foot M M' W wr ∧ J (upto s k ++ dn) M' wr) (fun v _ => (intOf v).toNat)
      case atStart => exact ⟨wd s k, [], rfl, wd_lt s k, rfl, M1, hF1, by rw [List.append_nil]; exact hJ1⟩
      case round =>
        obtain ⟨y, dn, rfl, hy, hdn, M2, hF2, hJ2⟩ := hrel
        by_cases hy0 : 0 < y
        · have hT2 : TabAt wr := HT.out.agree hF2.agree.w HG.out
          gi_wp2_with fail
          refine ⟨trivial, rfl, ?_⟩
          refine (callsIn_wide.2 (tz_any y hy0 hy _ hT2)).mono ?_
          rintro e w1 ⟨rfl, rfl⟩
          have hc : Lib.ctzFrom 64 y < 64 := by obtain ⟨_, _, h⟩ := Lib.ctzFrom_spec 64 y hy0 hy; exact h
          have hst := bitsL_step y hy0 hy
          have hlt := and_pred_lt y hy0
          have hpa := pred_and y hy0 hy
          generalize Lib.ctzFrom 64 y = c at *
          have hdn' : (dn ++ [64 * k + c]) ++ (bitsL (y &&& (y - 1))).map (64 * k + ·) = wb s k := by rw [← hdn, hst]; simp
          have hpre : (upto s k ++ dn) ++ [64 * k + c] <+: bytesOf s := by
            refine List.IsPrefix.trans ?_ (upto_prefix s (k + 1) (by omega))
            rw [upto, ← hdn']
            exact ⟨(bitsL (y &&& (y - 1))).map (64 * k + ·), by simp⟩
          obtain ⟨fn, tmps, assign, body, hyy, hR⟩ := HY _ _ M2 w1 hpre hJ2 hF2.lt
          rw [show ((64 * k + c : Nat) : Int) = 64 * (k : Int) + (c : Int) from by omega] at hyy
          have HD : Hid ((dn ++ [64 * k + c]) ++ (bitsL (y &&& (y - 1))).map (64 * k + ·) = wb s k) := hdn'
          have HR := hide hR
          have HP := hide hpre
          clear hst hdn hdn' hpre hR
          generalize y &&& (y - 1) = y' at *
          gi_wp2
          refine ⟨rfl, HR.out.mono ?_⟩
          rintro e W3 ⟨M3, hF3, ⟨rfl, hJ3⟩ | ⟨rfl, hJx3⟩⟩
          · gi_wp2
            go_roundw
            case rel => exact ⟨y', dn ++ [64 * k + c], rfl, by omega, HD.out, M3, hF2.trans hF3, by rw [← List.append_assoc]; exact hJ3⟩
            case measure => simp [intOf]; omega
          · gi_wp2
            refine bodyPost_ret (results_none rfl _ _ _) rfl ?_
            exact ⟨⟨_, rfl⟩, M3, hF2.trans hF3, .inr ⟨_, HP.out, hJx3⟩⟩
        · obtain rfl : y = 0 := by omega
          rw [bitsL_zero, List.map_nil, List.append_nil] at hdn
          gi_wp2
          go_roundw
          case rel => exact ⟨k + 1, by omega, by go_num, M2, hF2, by rw [upto, ← hdn]; exact hJ2⟩
          case measure => simp [intOf]; omega
    · obtain rfl : k = 4 := by omega
      gi_wp2
      go_end0
      exact ⟨⟨_, rfl⟩, M1, hF1, .inl hJ1⟩
end Go.Proofs.YtkjmjppmpcnejaaGreatDoor
