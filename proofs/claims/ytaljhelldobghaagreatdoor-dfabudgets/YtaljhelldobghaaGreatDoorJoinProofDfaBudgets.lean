/- DfaBudgets answers true for every number and row of numbers: what is taken of a budget is as much as there is, and no more. Conditions: the table of math/bits holds what its initialiser lays (the card ties that to the program's text). -/
/- Texts of this claim put together: LawDfaBudgets, ProofDfaBudgets. -/
import Derived.Test.YtaljhelldobghaaGreatDoorJoinHead6
import Derived.Test.YtaljhelldobghaaGreatDoorJoinSomeInts
import Derived.Test.YtaljhelldobghaaGreatDoorJoinShD
import Derived.Test.YtaljhelldobghaaGreatDoorCards
import Derived.Test.YtaljhelldobghaaGreatDoorTie
/- DfaBudgets: what is taken of a budget. -/
namespace Go.Proofs.YtaljhelldobghaaGreatDoor
set_option maxRecDepth 100000
set_option linter.unusedSimpArgs false
set_option linter.unusedVariables false
open Go.RowKit

theorem i64_and31 (n : Int) : bits .and .i64 n 31 = n % 32 := by
  have h3 : (BitVec.ofInt 64 31).toNat = 2 ^ 5 - 1 := by decide
  have key : (BitVec.ofInt 64 n &&& BitVec.ofInt 64 31).toNat = (n % ((2 ^ 64 : Nat) : Int)).toNat % 2 ^ 5 := by
    rw [BitVec.toNat_and, BitVec.toNat_ofInt, h3, Nat.and_two_pow_sub_one_eq_mod]
  show IntKind.i64.wrap ((BitVec.ofInt 64 n &&& BitVec.ofInt 64 31).toNat : Nat) = n % 32
  rw [key, IntKind.wrap_i64]
  omega
/-- What is left of a budget. -/
def lfI (m t : Int) : Int := if t < 0 then 0 else m - t
theorem bud_more {m t k : Int} (h : BudOk m t) (hk : 0 ≤ k) (hl : lfI m t < k) : (aft m t k).2 = false ∧ usedI (aft m t k).1 = usedI t ∧ lfI m (aft m t k).1 = 0 := by
  unfold BudOk usedI at h
  unfold lfI at hl ⊢
  unfold aft usedI
  by_cases ht : t < 0
  · rw [if_pos ht] at h hl
    rw [if_neg (by omega), if_pos ht]
    simp [ht]
  · rw [if_neg ht] at h hl
    rw [if_neg (by omega), if_neg ht, if_pos (by omega)]
    have : -t - 1 < 0 := by omega
    simp [this, ht]
    omega
theorem bud_some {m t k : Int} (h : BudOk m t) (hk : 0 ≤ k) (hl : ¬ lfI m t < k) : (aft m t k).2 = true ∧ usedI (aft m t k).1 = usedI t + k ∧ lfI m (aft m t k).1 = lfI m t - k := by
  unfold BudOk usedI at h
  unfold lfI at hl ⊢
  unfold aft usedI
  by_cases h0 : k = 0
  · subst h0
    simp
  · by_cases ht : t < 0
    · rw [if_pos ht] at hl
      omega
    · rw [if_neg ht] at h hl
      rw [if_neg h0, if_neg ht, if_neg (by omega)]
      have : ¬ t + k < 0 := by omega
      simp [this, ht]
      omega
theorem lf_bd {m t : Int} (h : BudOk m t) : 0 ≤ lfI m t ∧ lfI m t ≤ m := by
  unfold BudOk usedI at h
  unfold lfI
  split <;> (split at h <;> omega)

set_option maxHeartbeats 1000000 in
theorem dfaBudgets_any (n : Int) (hn : -9223372036854775808 ≤ n ∧ n ≤ 9223372036854775807) (v : Value) (ln : Nat) (w : World) (hv : IntRow w v ln) (hT : TabAt w) :
    Calls Tryz.prog 7 #[.int .i64 n, v] w fun e w' => e = .returned (.bool true) ∧ Below w.heap.size w w' := by
  have HV := hide hv
  have HT := hide hT
  obtain ⟨hln, a, cap, rfl, -⟩ := hv
  clear hT
  go_enter Tryz.func7, Tryz.ntmps7
  go_wp2_with fail
  refine (head6_any w HT.out).mono ?_
  rintro e w1 ⟨rfl, hb1⟩
  have HB1 := hide hb1
  clear hb1
  by_cases h50 : 50 < ln
  · have hd : decide ((ln : Int) > 50) = true := decide_eq_true (by omega)
    go_wp2
    go_ret
    exact ⟨rfl, HB1.out⟩
  · have hd : decide ((ln : Int) > 50) = false := decide_eq_false (by omega)
    obtain ⟨m, hm, hm2⟩ := and255 n
    go_wp2_with fail
    refine (grant_any m w1 (by omega)).mono ?_
    rintro e w2 ⟨bud, rfl, hbd, hbl, hb2⟩
    rw [show max (m : Int) 0 = m from by omega] at hbd
    have HBD := hide hbd
    have HB2 := hide (HB1.out.trans (hb2.mono HB1.out.size))
    have hwb : w.heap.size ≤ bud := Nat.le_trans HB1.out.size hbl
    clear hbd hbl hb2 hm2
    unfold PT
    go_wp2
    go_loopw [6, 7, 24] (fun l u c wr => ∃ (k : Nat) (t : Int), k ≤ ln ∧ c = .int .i64 k ∧ l = .int .i64 (lfI m t) ∧ u = .int .i64 (usedI t) ∧ Hid (BudAt wr bud m t) ∧ Hid (Below w.heap.size w wr)) (fun _ _ c _ => ln - (intOf c).toNat)
    case atStart => exact ⟨0, 0, by omega, rfl, by simp [lfI], by simp [usedI], HBD, HB2⟩
    case round =>
      clear HBD HB2
      obtain ⟨k, t, hk, rfl, rfl, rfl, HBD, HB⟩ := hrel
      have hok := HBD.out.ok
      have hub : 0 ≤ usedI t ∧ usedI t ≤ m := hok
      have hlb := lf_bd hok
      by_cases hlt : k < ln
      · have hkd : decide (k < ln) = true := by simp [hlt]
        have hki : (0 : Int) ≤ k ∧ (k : Int) < ln := by omega
        obtain ⟨-, a', cap', e1, hc⟩ := HV.out.keep HB.out
        obtain ⟨rfl, rfl⟩ : a = a' ∧ cap = cap' := by injection e1 with x1 x2 x3; exact ⟨x1, x3⟩
        obtain ⟨b, off, z, rfl, -, cz⟩ := hc k hlt
        obtain ⟨kk, hkk, hk31⟩ : ∃ kk : Nat, kk < 32 ∧ bits .and .i64 z 31 = (kk : Int) := ⟨(z % 32).toNat, by omega, by rw [i64_and31]; omega⟩
        have HTK := hide (take_any bud m t kk wr HBD.out ⟨by omega, by omega⟩)
        clear hc e1
        unfold PT at HTK
        by_cases hgt : lfI m t < kk
        · obtain ⟨q1, q2, q3⟩ := bud_more hok (by omega) hgt
          rw [q1] at HTK
          have hgd : decide ((kk : Int) > lfI m t) = true := decide_eq_true (by omega)
          have HQ2 := hide q2
          have HQ3 := hide q3
          clear q1 q2 q3 hgt
          obtain ⟨lf, hlf⟩ : ∃ lf, lf = lfI m t := ⟨_, rfl⟩
          obtain ⟨us, hus⟩ : ∃ us, us = usedI t := ⟨_, rfl⟩
          rw [← hlf] at hgd hlb ⊢
          rw [← hus] at hub ⊢
          have HUS := hide hus
          clear hlf hus
          go_wp2_with fail
          refine HTK.out.mono ?_
          rintro e w3 ⟨rfl, hb3, hw3⟩
          have HB3 := hide hb3
          have HBB := hide (show Below w.heap.size w w3 from hw3 ▸ HB.out.setCell hwb _)
          have HUD := hide (used_any bud m _ w3 hb3)
          rw [HQ2.out, ← HUS.out] at HUD
          clear hb3 hw3 HTK
          unfold PT at HUD
          rw [show errI false = 5 from rfl]
          go_wp2_with fail
          refine HUD.out.mono ?_
          rintro e w4 ⟨rfl, rfl⟩
          go_wp2
          exact ⟨⟨k + 1, _, by omega, by go_num, by rw [HQ3.out], by rw [HQ2.out, ← HUS.out], HB3.out, HBB.out⟩, by simp [intOf]; omega⟩
        · obtain ⟨q1, q2, q3⟩ := bud_some hok (by omega) hgt
          rw [q1] at HTK
          have hgd : decide ((kk : Int) > lfI m t) = false := decide_eq_false (by omega)
          have HQ2 := hide q2
          have HQ3 := hide q3
          have hbd2 := take_any bud m t kk wr HBD.out ⟨by omega, by omega⟩
          clear q1 q2 q3 hbd2
          obtain ⟨lf, hlf⟩ : ∃ lf, lf = lfI m t := ⟨_, rfl⟩
          obtain ⟨us, hus⟩ : ∃ us, us = usedI t := ⟨_, rfl⟩
          rw [← hlf] at hgd hlb hgt ⊢
          rw [← hus] at hub ⊢
          have HUS := hide hus
          have HLF := hide hlf
          clear hlf hus
          go_wp2_with fail
          refine HTK.out.mono ?_
          rintro e w3 ⟨rfl, hb3, hw3⟩
          have HB3 := hide hb3
          have HBB := hide (show Below w.heap.size w w3 from hw3 ▸ HB.out.setCell hwb _)
          have HUD := hide (used_any bud m _ w3 hb3)
          rw [HQ2.out, ← HUS.out] at HUD
          clear hb3 hw3 HTK
          unfold PT at HUD
          rw [show errI true = 0 from rfl]
          go_wp2_with fail
          refine HUD.out.mono ?_
          rintro e w4 ⟨rfl, rfl⟩
          go_wp2
          exact ⟨⟨k + 1, _, by omega, by go_num, by rw [HQ3.out, ← HLF.out], by rw [HQ2.out, ← HUS.out], HB3.out, HBB.out⟩, by simp [intOf]; omega⟩
      · obtain rfl : k = ln := by omega
        have hkd : decide (k < k) = false := by simp
        have HLW := hide (take_low bud (-1) wr (by omega))
        unfold PT at HLW
        clear hok hub hlb
        go_wp2_with fail
        refine HLW.out.mono ?_
        rintro e w3 ⟨rfl, rfl⟩
        clear HLW
        go_wp2_with fail
        refine (take_nil 0 w3).mono ?_
        rintro e w4 ⟨rfl, rfl⟩
        go_wp2_with fail
        refine (used_nil w4).mono ?_
        rintro e w5 ⟨rfl, rfl⟩
        go_wp2_with fail
        refine (grant_any (-5) w5 (by omega)).mono ?_
        rintro e w6 ⟨b6, rfl, hb6, hl6, hbl6⟩
        rw [show max (-5 : Int) 0 = 0 from by omega] at hb6
        have HB6 := hide (HB.out.trans (hbl6.mono HB.out.size))
        have hwb6 : w.heap.size ≤ b6 := Nat.le_trans HB.out.size hl6
        have HT6 := hide (take_any b6 0 0 1 w6 hb6 ⟨by omega, by omega⟩)
        rw [show aft 0 0 1 = (-1, false) from by decide] at HT6
        clear hb6 hl6 hbl6
        unfold PT at HT6
        unfold PT
        go_wp2_with fail
        refine HT6.out.mono ?_
        rintro e w7 ⟨rfl, -, hw7⟩
        have HB7 := hide (show Below w.heap.size w w7 from hw7 ▸ HB6.out.setCell hwb6 _)
        clear hw7 HT6
        rw [show errI ((-1, false) : Int × Bool).2 = 5 from rfl]
        go_wp2_with fail
        refine (grant_any (-5) w7 (by omega)).mono ?_
        rintro e w8 ⟨b8, rfl, hb8, hl8, hbl8⟩
        rw [show max (-5 : Int) 0 = 0 from by omega] at hb8
        have HB8 := hide (HB7.out.trans (hbl8.mono HB7.out.size))
        have hwb8 : w.heap.size ≤ b8 := Nat.le_trans HB7.out.size hl8
        have HT8 := hide (take_any b8 0 0 0 w8 hb8 ⟨by omega, by omega⟩)
        rw [show aft 0 0 0 = (0, true) from by decide] at HT8
        clear hb8 hl8 hbl8
        unfold PT at HT8
        unfold PT
        go_wp2_with fail
        refine HT8.out.mono ?_
        rintro e w9 ⟨rfl, -, hw9⟩
        have HB9 := hide (show Below w.heap.size w w9 from hw9 ▸ HB8.out.setCell hwb8 _)
        clear hw9 HT8
        rw [show errI ((0, true) : Int × Bool).2 = 0 from rfl]
        go_wp2
        go_ret
        exact ⟨rfl, HB9.out⟩
end Go.Proofs.YtaljhelldobghaaGreatDoor
/- DfaBudgets answers true for every number and row of numbers: what is taken of a budget is as much as there is, and no more. Conditions: the table of math/bits holds what its initialiser lays (the card ties that to the program's text). -/
namespace Go.Proofs.YtaljhelldobghaaGreatDoor
set_option maxRecDepth 100000
open Go.ChangeShapes Go.WideShapes Go.ChangeAt Go.WideMaps Go.WideElems Go.RowKit

set_option maxRecDepth 100000 in
theorem dfaBudgets_lifted (os : Os) (started : os.Started) (H : Type) (enc : TypeId × Value → H) :
    ReturnsInHanded {} Tryz.checked os 7 .any (fun w args => (Rows.dfaBudgetsSpec.pre enc Tryz.prog Tryz.f7 [] false w args ∧ laidMetH Tryz.prog [("math/bits.deBruijn64tab", Rows.laid_math_bits_deBruijn64tab)] w) ∧ sizedMet enc Tryz.prog Tryz.f7 (OpenSpec.ofChange Rows.dfaBudgetsSpec) false w args)
      (Rows.dfaBudgetsSpec.post enc Tryz.prog Tryz.f7 false true false false) := by
  refine returnsInHanded_of_change_and (C := Tryz.checked) (X := fun w _ => laidMetH Tryz.prog [("math/bits.deBruijn64tab", Rows.laid_math_bits_deBruijn64tab)] w) (fun _ _ _ hh h => h.of_heap hh) own started (by kernel_rfl) Tryz.func7
    (ChangeSpec.witness_shaped (enc := enc) (C := Tryz.checked) (os := os) (X := fun w _ => laidMetH Tryz.prog [("math/bits.deBruijn64tab", Rows.laid_math_bits_deBruijn64tab)] w) false (World.doorLaid Tryz.prog 400 os)
      #[.int .i64 0, .slice none 0 0] 8 rfl (World.shaped_of_RefB (by kernel_rfl) (by kernel_rfl)) (by kernel_rfl) (by kernel_rfl) (by kernel_rfl) (door_met os _)) ?_
  intro W base args ds gs before hval0 hW _ _ hL _
  have hval : ∀ (j : Nat) t v, Tryz.f7.params[j]? = some t → args[j]? = some v → Value.okWide Tryz.prog W .any base t v := hval0
  have hW' := hW
  obtain ⟨p, q, hA0, hV, rfl, hfz, hnd⟩ := hW
  have hA : DataW.TrodAll enc Tryz.prog W 0 (fun _ => true) true Tryz.f7.params.toList args.toList ds p := hA0
  rw [Tryz.params7] at hA hval
  obtain ⟨v0, v1, d0, d1, p0, p1, rfl, rfl, rfl, h0, h1⟩ := trodAll_two hA
  obtain ⟨rfl, rfl⟩ := trodVars_none hV
  have k0 := h0
  obtain ⟨i0, rfl, rfl, rfl, w0⟩ := open_int Tryz.underlying3 (hval 0 3 v0 rfl rfl) h0
  have b0 := bounds_i64 w0
  have k1 := h1
  have lt1 : ∀ x ∈ p1, x.block < W.heap.size := by obtain ⟨m, hm⟩ := k1; exact DataW.trod_lt m _ _ _ hm
  obtain ⟨z1, hz1⟩ := open_introw (hval 1 41 v1 rfl rfl) h1
  have hT := tab_of_laid hL
  clear hA0 hval0
  refine (dfaBudgets_any i0 b0 v1 z1 W hz1 hT).mono fun e W' ⟨he, hb⟩ => ?_
  subst he
  exact ⟨_, rfl, _, _, _, [], _, [], hW', trodAll_mk1 (shut_bool Tryz.underlying4 _), trodAll_mk2 (shut_int Tryz.underlying3 w0) (Below.trod laidOut (by kernel_rfl) (of_decide_eq_true (by kernel_rfl)) k1 hb lt1), rfl, hb.frame _, fun h => by cases h⟩

theorem dfaBudgets_said : Rows.DfaBudgetsSaid :=
  OpenClaim.holds_of_wide 7 Tryz.f7 rfl rfl rfl rfl rfl rfl rfl ⟨rfl, rfl, rfl, rfl, rfl⟩ rfl rfl rfl rfl rfl (by kernel_rfl) Tryz.func7 (by kernel_rfl)
    (of_decide_eq_true (by kernel_rfl)) (by unfold Func.isWrapper; first | (rw [if_pos (by decide +kernel)]; kernel_rfl) | (rw [if_neg (by decide +kernel)]; exact ⟨rfl, rfl⟩))
    (fun os started H enc _ => dfaBudgets_lifted os started H enc)

theorem dfaBudgets_card : Rows.DfaBudgetsCardSaid :=
  Claim7.holds_tied_plain_at .later [] [.data] true Rows.dfaBudgetsCard.stood.harness false
    dfaBudgets_said (fun _ h => by cases h) (by kernel_rfl) (fun _ h => by cases h) dfaBudgets_row_tie rfl ⟨rfl, rfl⟩ (by kernel_rfl) rfl
    (fun f fn hf hfn => by
      obtain rfl : f = 7 := Option.some.inj ((show Tryz.prog.funcNamed "periscope/periscopelaw06.DfaBudgets" = some 7 by kernel_rfl).symm.trans hf) |>.symm
      obtain rfl : fn = Tryz.f7 := (Option.some.inj (Tryz.func7.symm.trans hfn)).symm
      exact ⟨by kernel_rfl, fun j t ht => by
        rw [Tryz.params7] at ht
        have hm : t ∈ [3, 41] := by simpa using Array.mem_of_getElem? ht
        have hall : ([3, 41].all fun u => !Tryz.prog.wantsStandIn u) = true := by kernel_rfl
        exact (show Tryz.prog.wantsStandIn t = false by simpa using List.all_eq_true.1 hall t hm)⟩)
    (by kernel_rfl)
#print axioms dfaBudgets_card
end Go.Proofs.YtaljhelldobghaaGreatDoor
