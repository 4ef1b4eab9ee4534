/- Texts of this claim put together: SetE, MathRuns. -/
import Derived.Test.YthhfpjehamhcbaaGreatDoorJoinQuiet
import Derived.Test.YthhfpjehamhcbaaGreatDoorJoinMathBits
import Derived.Shelf.Abstract
import Derived.Shelf.RegionOpen
import Derived.OwnWalkIn
import Derived.TacticsInMore
import Derived.LoopNIn
import Derived.LoopIn
/- Contracts: math/bits.TrailingZeros64; the iterator that Bytes hands out. -/
namespace Go.Proofs.YthhfpjehamhcbaaGreatDoor
set_option maxRecDepth 100000
open Go.RowKit Go.Shelf

attribute [local go_sem] Oper.semAt_some

/-- The table of math/bits lies in its variable. -/
def TabAt (w : World) : Prop := ∀ j, j < 64 → w.cell? ⟨0, j, none⟩ = some (.int .u8 (Lib.deBruijn64tab.getD j 0))

set_option maxHeartbeats 1000000 in
theorem tz64_core (x k idx : Nat) (w : World) (hx0 : ((x : Int) == 0) = false)
    (key : IntKind.u64.wrap (bits BinOp.and IntKind.u64 (x : Int) (IntKind.u64.wrap (-(x : Int))) * 285870213051353865) / 288230376151711744 = (idx : Int))
    (hi : idx < 64) (hk : k < 64) (hcell : w.cell? ⟨0, idx, none⟩ = some (.int .u8 k)) :
    Calls Tryz.prog 93 #[.int .u64 x] w fun e w' => e = .returned (.int .i64 k) ∧ w' = w := by
  go_enter Tryz.func93, Tryz.ntmps93
  go_wp2_with (simp only [key])
  go_ret
  exact ⟨rfl, rfl⟩

theorem tz64_key (x a : Nat) (hx : x < 18446744073709551616) (hx0 : x ≠ 0) (hlow : x &&& (18446744073709551616 - x) = a) :
    IntKind.u64.wrap (bits BinOp.and IntKind.u64 (x : Int) (IntKind.u64.wrap (-(x : Int))) * 285870213051353865) / 288230376151711744 = ((a * 285870213051353865 % 18446744073709551616 / 288230376151711744 : Nat) : Int) := by
  have e1 : IntKind.u64.wrap (-(x : Int)) = ((18446744073709551616 - x : Nat) : Int) := by rw [IntKind.wrap_u64]; omega
  rw [e1, bits_and_u64_nat x _ hx (by omega), hlow, IntKind.wrap_u64]
  omega

theorem tz_any (x : Nat) (h0 : 0 < x) (hx : x < 18446744073709551616) (w : World) (hT : TabAt w) :
    Calls Tryz.prog 93 #[.int .u64 x] w fun e w' => e = .returned (.int .i64 (Lib.ctzFrom 64 x)) ∧ w' = w := by
  obtain ⟨hlow, hk⟩ := Lib.lowest_bit 64 x (by omega) hx
  have e : Lib.ctz 64 x = Lib.ctzFrom 64 x := by unfold Lib.ctz; rw [if_neg (by omega)]
  rw [e] at hk hlow
  rw [show 2 ^ 64 = 18446744073709551616 from rfl] at hlow
  generalize Lib.ctzFrom 64 x = c at *
  obtain ⟨hi, htab⟩ := Lib.deBruijn64_at c hk
  have hcell := hT _ hi
  rw [htab] at hcell
  exact tz64_core x c _ w (by simp; omega) (tz64_key x _ hx (by omega) hlow) hi hk hcell

theorem idxS (s : BitVec 256) (k : Nat) (hk : k < 4) (w : World) : (Instr.index 49 (SV s) (.int .i64 k)).run Tryz.prog w = .ok (.int .u64 (wd s k)) w := by
  have h := idx4 (wd s 0) (wd s 1) (wd s 2) (wd s 3) k hk w
  match k, hk with
  | 0, _ => exact h
  | 1, _ => exact h
  | 2, _ => exact h
  | 3, _ => exact h

theorem u8_nat (n : Nat) (h : n < 256) : IntKind.u8.wrap (n : Int) = (n : Int) := by
  simp [IntKind.wrap, IntKind.signed, IntKind.bits]; omega
theorem pred_and (y : Nat) (h0 : 0 < y) (hy : y < 18446744073709551616) : bits BinOp.and IntKind.u64 (y : Int) ((y : Int) - 1) = ((y &&& (y - 1) : Nat) : Int) := by
  have e : (y : Int) - 1 = ((y - 1 : Nat) : Int) := by omega
  rw [e, bits_and_u64_nat _ _ hy (by omega)]

theorem TabAt.agree {K : Nat → Prop} {w w' : World} (h : TabAt w) (ha : AgreeW K w w') (hk : K 0) : TabAt w' := fun j hj => by
  have hc := h j hj
  rw [← hc]
  exact World.cell?_of_block (w := w) (ha.block _ (World.block_lt_of_cell? _ _ hc) hk)

set_option maxRecDepth 100000 in
set_option maxHeartbeats 1000000 in
theorem bytes1_any (s : BitVec 256) (Bx : Nat) (W : World) (hB : Blk W Bx (WS s) 49) (hT : TabAt W) :
    Iter Tryz.prog 92 #[.pointer (some ⟨Bx, 0, none⟩)] (fun x : Nat => #[.int .u8 x]) (bytesOf s) (fun k => k = Bx ∨ k = 0) W := by
  intro l J Jx M hJ hJx hY hM hown h0
  have c0 := hB.cell 0; have c1 := hB.cell 1; have c2 := hB.cell 2; have c3 := hB.cell 3
  simp only [List.getElem?_toArray, List.getElem?_cons_zero, List.getElem?_cons_succ] at c0 c1 c2 c3
  have hG : ¬ M 0 := hown _ (.inr rfl)
  have HG : Hid (¬ M 0) := hG
  have HT : Hid (TabAt W) := hT
  have HY := hY
  clear hG hT hown hY
  refine callsIn_of_wp Tryz.func92 rfl trivial ?_ rfl
  simp only [Tryz.ntmps92, List.size_toArray, List.length_cons, List.length_nil, Nat.reduceAdd, Nat.reduceSub, Array.replicate_succ, Array.replicate_zero, List.push_toArray, List.append_toArray, List.nil_append, List.cons_append]
  gi_wp2
  clear c0 c1 c2 c3
  gi_loopw [6] (fun i wr => ∃ k : Nat, k ≤ 4 ∧ i = .int .i64 k ∧ ∃ M', Foot M M' W wr ∧ J (upto s k) M' wr) (fun i _ => 4 - (intOf i).toNat)
  case atStart => exact ⟨0, by omega, rfl, M, Foot.refl M W hM, h0⟩
  case round =>
    obtain ⟨k, hk, rfl, M1, hF1, hJ1⟩ := hrel
    by_cases hk4 : k < 4
    · have hix := idxS s k hk4
      have hd : decide ((k : Int) < 4) = true := by simp; omega
      gi_wp2
      gi_loopw [4] (fun v wr => ∃ (y : Nat) (dn : List Nat), v = .int .u64 y ∧ y < 18446744073709551616 ∧ dn ++ (bitsL y).map (64 * k + ·) = wb s k ∧ ∃ M', Foot M M' W wr ∧ J (upto s k ++ dn) M' wr) (fun v _ => (intOf v).toNat)
      case atStart => exact ⟨wd s k, [], rfl, wd_lt s k, rfl, M1, hF1, by rw [List.append_nil]; exact hJ1⟩
      case round =>
        obtain ⟨y, dn, rfl, hy, hdn, M2, hF2, hJ2⟩ := hrel
        by_cases hy0 : 0 < y
        · have hT2 : TabAt wr := HT.out.agree hF2.agree.w HG.out
          gi_wp2_with fail
          refine ⟨trivial, rfl, ?_⟩
          refine (callsIn_wide.2 (tz_any y hy0 hy _ hT2)).mono ?_
          rintro e w1 ⟨rfl, rfl⟩
          have hc : Lib.ctzFrom 64 y < 64 := by obtain ⟨_, _, h⟩ := Lib.ctzFrom_spec 64 y hy0 hy; exact h
          have hst := bitsL_step y hy0 hy
          have hlt := and_pred_lt y hy0
          have hpa := pred_and y hy0 hy
          generalize Lib.ctzFrom 64 y = c at *
          have hdn' : (dn ++ [64 * k + c]) ++ (bitsL (y &&& (y - 1))).map (64 * k + ·) = wb s k := by rw [← hdn, hst]; simp
          have hpre : (upto s k ++ dn) ++ [64 * k + c] <+: bytesOf s := by
            refine List.IsPrefix.trans ?_ (upto_prefix s (k + 1) (by omega))
            rw [upto, ← hdn']
            exact ⟨(bitsL (y &&& (y - 1))).map (64 * k + ·), by simp⟩
          obtain ⟨fn, tmps, assign, body, hyy, hR⟩ := HY _ _ M2 w1 hpre hJ2 hF2.lt
          rw [show ((64 * k + c : Nat) : Int) = 64 * (k : Int) + (c : Int) from by omega] at hyy
          have HD : Hid ((dn ++ [64 * k + c]) ++ (bitsL (y &&& (y - 1))).map (64 * k + ·) = wb s k) := hdn'
          have HR := hide hR
          have HP := hide hpre
          clear hst hdn hdn' hpre hR
          generalize y &&& (y - 1) = y' at *
          gi_wp2
          refine ⟨rfl, HR.out.mono ?_⟩
          rintro e W3 ⟨M3, hF3, ⟨rfl, hJ3⟩ | ⟨rfl, hJx3⟩⟩
          · gi_wp2
            go_roundw
            case rel => exact ⟨y', dn ++ [64 * k + c], rfl, by omega, HD.out, M3, hF2.trans hF3, by rw [← List.append_assoc]; exact hJ3⟩
            case measure => simp [intOf]; omega
          · gi_wp2
            refine bodyPost_ret (results_none rfl _ _ _) rfl ?_
            exact ⟨⟨_, rfl⟩, M3, hF2.trans hF3, .inr ⟨_, HP.out, hJx3⟩⟩
        · obtain rfl : y = 0 := by omega
          rw [bitsL_zero, List.map_nil, List.append_nil] at hdn
          gi_wp2
          go_roundw
          case rel => exact ⟨k + 1, by omega, by go_num, M2, hF2, by rw [upto, ← hdn]; exact hJ2⟩
          case measure => simp [intOf]; omega
    · obtain rfl : k = 4 := by omega
      gi_wp2
      go_end0
      exact ⟨⟨_, rfl⟩, M1, hF1, .inl hJ1⟩
end Go.Proofs.YthhfpjehamhcbaaGreatDoor
/- The runs of a set: bytes beside one another. -/
namespace Go.Proofs.YthhfpjehamhcbaaGreatDoor
set_option maxRecDepth 100000

/-- One byte more: what runs are over, and the one that is open. -/
def runStep (st : List (Nat × Nat) × Option (Nat × Nat)) (b : Nat) : List (Nat × Nat) × Option (Nat × Nat) :=
  match st with
  | (em, none) => (em, some (b, b))
  | (em, some (f, l)) => if b = l + 1 then (em, some (f, b)) else (em ++ [(f, l)], some (b, b))
def runSt (pre : List Nat) : List (Nat × Nat) × Option (Nat × Nat) := pre.foldl runStep ([], none)
theorem runSt_snoc (pre : List Nat) (b : Nat) : runSt (pre ++ [b]) = runStep (runSt pre) b := by simp [runSt]
/-- The runs of a list of bytes. -/
def runsL (l : List Nat) : List (Nat × Nat) := (runSt l).1 ++ (runSt l).2.toList
def runsOf (s : BitVec 256) : List (Nat × Nat) := runsL (bytesOf s)

theorem runStep_mono (st : List (Nat × Nat) × Option (Nat × Nat)) (b : Nat) : st.1 <+: (runStep st b).1 := by
  obtain ⟨em, cur⟩ := st
  cases cur with
  | none => exact List.prefix_rfl
  | some r =>
    obtain ⟨f, l⟩ := r
    simp only [runStep]
    split
    · exact List.prefix_rfl
    · exact List.prefix_append _ _
theorem runSt_mono (q : List Nat) : ∀ pre, (runSt pre).1 <+: (runSt (pre ++ q)).1 := by
  induction q with
  | nil => intro pre; rw [List.append_nil]; exact List.prefix_rfl
  | cons b q ih =>
    intro pre
    have h := ih (pre ++ [b])
    rw [List.append_assoc, List.singleton_append] at h
    refine List.IsPrefix.trans ?_ h
    rw [runSt_snoc]; exact runStep_mono _ _
theorem runSt_prefix {pre l : List Nat} (h : pre <+: l) : (runSt pre).1 <+: runsL l := by
  obtain ⟨q, rfl⟩ := h
  exact (runSt_mono q pre).trans (List.prefix_append _ _)
theorem runSt_none (pre : List Nat) : (runSt pre).2 = none → pre = [] := by
  intro h
  rcases List.eq_nil_or_concat pre with rfl | ⟨q, b, rfl⟩
  · rfl
  · rw [List.concat_eq_append] at *
    rw [runSt_snoc] at h
    generalize runSt q = st at h
    obtain ⟨em, cur⟩ := st
    cases cur with
    | none => simp [runStep] at h
    | some r => obtain ⟨f, l⟩ := r; simp only [runStep] at h; split at h <;> simp at h
/-- The open run ends with the last byte. -/
theorem runSt_last (pre : List Nat) (f l : Nat) : (runSt pre).2 = some (f, l) → ∃ q, pre = q ++ [l] := by
  intro h
  rcases List.eq_nil_or_concat pre with rfl | ⟨q, b, rfl⟩
  · simp [runSt] at h
  · refine ⟨q, ?_⟩
    rw [List.concat_eq_append] at *
    rw [runSt_snoc] at h
    generalize runSt q = st at h
    obtain ⟨em, cur⟩ := st
    cases cur with
    | none => simp [runStep] at h; rw [h.2]
    | some r =>
      obtain ⟨f', l'⟩ := r
      simp only [runStep] at h
      split at h
      · simp at h; rw [h.2]
      · simp at h; rw [h.2]
/-- Bytes are below 256, and go up. -/
theorem bytesOf_lt (s : BitVec 256) (x : Nat) (h : x ∈ bytesOf s) : x < 256 := by
  rw [bytesOf_filter] at h; have := (List.mem_filter.1 h).1; simpa using this
theorem bytesOf_up (s : BitVec 256) : (bytesOf s).Pairwise (· < ·) := by
  rw [bytesOf_filter]; exact List.Pairwise.filter _ List.pairwise_lt_range
theorem bytes_next (s : BitVec 256) (q : List Nat) (l x : Nat) (h : q ++ [l] ++ [x] <+: bytesOf s) : l < x ∧ x < 256 := by
  have hp := (bytesOf_up s).sublist h.sublist
  have hx : x ∈ bytesOf s := h.subset (by simp)
  refine ⟨?_, bytesOf_lt s x hx⟩
  rw [List.pairwise_append] at hp
  exact hp.2.2 l (by simp) x (by simp)
theorem bytes_prefix_lt (s : BitVec 256) (pre : List Nat) (x : Nat) (h : pre ++ [x] <+: bytesOf s) : x < 256 := bytesOf_lt s x (h.subset (by simp))

end Go.Proofs.YthhfpjehamhcbaaGreatDoor
