/- SplitFuels: what is burnt is as much as there is, and no more. Conditions: the table of math/bits holds what its initialiser lays (the card ties that to the program's text). -/
/- Texts of this claim put together: LawSplitFuels, ProofSplitFuels. -/
import Derived.Test.YthlannjipbohkaaGreatDoorJoinHead9
import Derived.Test.YthlannjipbohkaaGreatDoorJoinSomeInts
import Derived.Test.YthlannjipbohkaaGreatDoorJoinShD
import Derived.Test.YthlannjipbohkaaGreatDoorCards
import Derived.Test.YthlannjipbohkaaGreatDoorTie
/- SplitFuels: what is burnt: as much as there is, and no more. -/
namespace Go.Proofs.YthlannjipbohkaaGreatDoor
set_option maxRecDepth 100000
set_option linter.unusedSimpArgs false
set_option linter.unusedVariables false
open Go.RowKit

theorem i64_and31 (n : Int) : bits .and .i64 n 31 = n % 32 := by
  have h15 : (BitVec.ofInt 64 31).toNat = 2 ^ 5 - 1 := by decide
  have key : (BitVec.ofInt 64 n &&& BitVec.ofInt 64 31).toNat = (n % ((2 ^ 64 : Nat) : Int)).toNat % 2 ^ 5 := by
    rw [BitVec.toNat_and, BitVec.toNat_ofInt, h15, Nat.and_two_pow_sub_one_eq_mod]
  show IntKind.i64.wrap ((BitVec.ofInt 64 n &&& BitVec.ofInt 64 31).toNat : Nat) = n % 32
  rw [key, IntKind.wrap_i64]
  omega
theorem star_nil (f : Value) (s : ByteArray) (w : World) : Calls Tryz.prog 18 #[.pointer none, .string s, f] w fun e w' => e = .returned (.tuple #[.slice none 0 0, .int .i64 1]) ∧ w' = w := by
  have HP := hide (places_nil1 (.pointer none) f s w)
  go_enter Tryz.func18, Tryz.ntmps18
  go_wp2_with fail
  refine HP.out.mono ?_
  rintro e w1 ⟨rfl, rfl⟩
  go_wp2
  exact bodyPost_ret (v := .tuple #[.slice none 0 0, .int .i64 1]) (by simp [results, Tryz.results18, go_sem]) rfl ⟨rfl, rfl⟩
theorem fill_neg (w : World) :
    Calls Tryz.prog 11 #[.int .i64 (-3)] w fun e w' => ∃ b, e = .returned (PT b) ∧ FuelAt w' b 0 0 ∧ b = w.heap.size ∧ Below w.heap.size w w' := by
  go_enter Tryz.func11, Tryz.ntmps11
  go_wp2
  go_ret
  exact ⟨w.heap.size, rfl, ⟨Blk.new _ _ _, by omega⟩, rfl, (Below.refl _ _).alloc (Nat.le_refl _) _⟩
set_option maxHeartbeats 4000000 in
theorem splitFuels_any (n : Int) (v : Value) (ln : Nat) (w : World) (hv : IntRow w v ln) (hT : TabAt w) :
    Calls Tryz.prog 4 #[.int .i64 n, v] w fun e w' => e = .returned (.bool true) ∧ Below w.heap.size w w' := by
  have HV := hide hv
  have HH := hide (head9_any w hT)
  obtain ⟨hln, a, cap, rfl, -⟩ := hv
  obtain ⟨B, hB⟩ : ∃ B, B = w.heap.size := ⟨_, rfl⟩
  rw [← hB] at HH ⊢
  have HB := hide hB
  obtain ⟨n0, hn0, hna⟩ := and255 n
  clear hT hB
  go_enter Tryz.func4, Tryz.ntmps4
  go_wp2_with fail
  refine HH.out.mono ?_
  rintro e w1 ⟨rfl, hb1⟩
  have HB1 := hide hb1
  clear hb1 HH
  by_cases h50 : 50 < ln
  · have d50 : decide ((50 : Int) < (ln : Int)) = true := decide_eq_true (by omega)
    have d50' : decide (50 < ln) = true := decide_eq_true h50
    go_wp2
    go_ret
    exact ⟨rfl, HB1.out⟩
  have d50 : decide ((50 : Int) < (ln : Int)) = false := decide_eq_false (by omega)
  have d50' : decide (50 < ln) = false := decide_eq_false h50
  go_wp2_with fail
  refine (fill_any n0 w1 (by omega)).mono ?_
  rintro e w2 ⟨pf, rfl, hf2, hpf, hb2⟩
  have HF2 := hide hf2
  have HB2 := hide (HB1.out.trans (hb2.mono (by have h1 := HB1.out.size; have h2 := HB.out; omega)))
  have hBpf : B ≤ pf := by have h1 := HB1.out.size; have h2 := HB.out; omega
  clear hf2 hb2 hpf
  unfold PT
  go_wp2
  go_loopw [6, 7, 31] (fun lv uv iv wr => ∃ (k left used : Nat), iv = .int .i64 k ∧ k ≤ ln ∧ lv = .int .i64 left ∧ uv = .int .i64 used ∧ left + used ≤ 255 ∧ Hid (FuelAt wr pf left used) ∧ Hid (Below B w wr)) (fun _ _ iv _ => ln - (intOf iv).toNat)
  case atStart => exact ⟨0, n0, 0, rfl, Nat.zero_le _, rfl, rfl, by omega, HF2.out, HB2.out⟩
  case round =>
    obtain ⟨k, left, used, rfl, hk, rfl, rfl, hlu, HF, HBE⟩ := hrel
    have hbw : Below w.heap.size w wr := HB.out ▸ HBE.out
    by_cases hlt : k < ln
    · have hd : decide ((k : Int) < (ln : Int)) = true := by simp; omega
      have hd' : decide (k < ln) = true := decide_eq_true hlt
      obtain ⟨-, a', cap', e1, g1⟩ := HV.out.keep hbw
      obtain ⟨rfl, rfl⟩ : a = a' ∧ cap = cap' := by cases e1; exact ⟨rfl, rfl⟩
      obtain ⟨b, off, z, rfl, -, hc⟩ := g1 k hlt
      obtain ⟨m, hm, hz⟩ : ∃ m : Nat, m < 32 ∧ bits .and .i64 z 31 = (m : Int) := ⟨(z % 32).toNat, by omega, by rw [i64_and31]; omega⟩
      have HBU := hide (burn_any pf left used ((m : Int) - 2) wr HF.out (by omega))
      clear g1 e1 hbw
      unfold PT at HBU
      go_wp2_with fail
      refine HBU.out.mono ?_
      rintro e w3 ⟨rfl, hf3, hb3, hz3⟩
      have HF3 := hide hf3
      have HB3 := hide (HBE.out.trans (hb3 B hBpf))
      clear hb3 hf3 HBU hc hz3
      by_cases hbad : (m : Int) - 2 < 0
      · have d0 : decide ((m : Int) - 2 < 0) = true := decide_eq_true hbad
        have eE : burnE left ((m : Int) - 2) = 31 := by unfold burnE; rw [if_neg (by omega)]
        have eL : burnL left ((m : Int) - 2) = 0 := by unfold burnL; rw [if_neg (by omega)]
        have eU : burnU left used ((m : Int) - 2) = used := by unfold burnU; rw [if_neg (by omega)]
        rw [eL, eU] at HF3
        clear eL eU
        go_wp2
        exact ⟨⟨k + 1, 0, used, by go_num, hlt, rfl, rfl, by omega, HF3.out, HB3.out⟩, by simp [intOf]; omega⟩
      · have d0 : decide ((m : Int) - 2 < 0) = false := decide_eq_false hbad
        by_cases hbig : (left : Int) < (m : Int) - 2
        · have d1 : decide ((left : Int) < (m : Int) - 2) = true := decide_eq_true hbig
          have eE : burnE left ((m : Int) - 2) = 31 := by unfold burnE; rw [if_neg (by omega)]
          have eL : burnL left ((m : Int) - 2) = 0 := by unfold burnL; rw [if_neg (by omega)]
          have eU : burnU left used ((m : Int) - 2) = used := by unfold burnU; rw [if_neg (by omega)]
          rw [eL, eU] at HF3
          clear eL eU
          go_wp2
          exact ⟨⟨k + 1, 0, used, by go_num, hlt, rfl, rfl, by omega, HF3.out, HB3.out⟩, by simp [intOf]; omega⟩
        · have d1 : decide ((left : Int) < (m : Int) - 2) = false := decide_eq_false hbig
          obtain ⟨q, hq⟩ : ∃ q : Nat, (m : Int) - 2 = (q : Int) := ⟨m - 2, by omega⟩
          rw [hq] at d0 d1 HF3 ⊢
          have eE : burnE left (q : Int) = 0 := by unfold burnE; rw [if_pos (by omega)]
          have eL : burnL left (q : Int) = left - q := by unfold burnL; rw [if_pos (by omega)]; rfl
          have eU : burnU left used (q : Int) = used + q := by unfold burnU; rw [if_pos (by omega)]; rfl
          rw [eL, eU] at HF3
          have hql : q ≤ left := by omega
          have HUS := hide (fuelUsed_any pf _ _ w3 HF3.out)
          have e5 : ((used + q : Nat) : Int) = (used : Int) + (q : Int) := by omega
          rw [e5] at HUS
          have HQ := hide hq
          clear eL eU hq hbad hbig e5
          unfold PT at HUS
          go_wp2_with fail
          refine HUS.out.mono ?_
          rintro e w4 ⟨rfl, rfl⟩
          clear HUS
          go_wp2
          exact ⟨⟨k + 1, left - q, used + q, by go_num, hlt, by go_num, by go_num, by omega, HF3.out, HB3.out⟩, by simp [intOf]; omega⟩
    · have hd : decide ((k : Int) < (ln : Int)) = false := by simp; omega
      have hd' : decide (k < ln) = false := decide_eq_false hlt
      have hpl : pf < wr.heap.size := HF.out.blk.lt
      have HBW := hide hbw
      have hBr : B ≤ wr.heap.size := by have := HBE.out.size; have := hbw.size; have := HB.out; omega
      clear hbw
      go_wp2_with fail
      refine (fill_any 9 wr (by omega)).mono ?_
      rintro e w3 ⟨f3, rfl, hf3, hp3, hb3⟩
      have HV3 := hide hb3
      have HMN := hide (smatch_nil f3 ⟨#[97]⟩ 9 0 w3 hf3 (Nat.le_trans (Nat.le_of_eq (show (⟨#[97]⟩ : ByteArray).size = 1 from rfl)) (by omega)) (Nat.le_trans (Nat.le_of_eq (show (⟨#[97]⟩ : ByteArray).size + 1 = 2 from rfl)) (by omega)))
      have hf3r : wr.heap.size ≤ f3 := by omega
      clear hf3 hb3 hp3
      unfold PT at HMN
      try unfold PT
      go_wp2_with fail
      refine HMN.out.mono ?_
      rintro e w4 ⟨rfl, hb4⟩
      have HV4 := hide (HV3.out.trans (hb4 wr.heap.size hf3r))
      clear hb4 HMN
      try unfold PT
      go_wp2_with fail
      refine (fill_any 9 w4 (by omega)).mono ?_
      rintro e w5 ⟨f5, rfl, hf5, hp5, hb5⟩
      have HV5 := hide (HV4.out.trans (hb5.mono HV4.out.size))
      clear hf5 hb5 hp5
      try unfold PT
      go_wp2_with fail
      refine (places_nil1 (.pointer none) (.pointer (some ⟨f5, 0, none⟩)) ⟨#[]⟩ w5).mono ?_
      rintro e w6 ⟨rfl, rfl⟩
      go_wp2_with fail
      refine (fill_any 9 w6 (by omega)).mono ?_
      rintro e w7 ⟨f7, rfl, hf7, hp7, hb7⟩
      have HV7 := hide (HV5.out.trans (hb7.mono HV5.out.size))
      clear hf7 hb7 hp7
      try unfold PT
      go_wp2_with fail
      refine (star_nil (.pointer (some ⟨f7, 0, none⟩)) ⟨#[]⟩ w7).mono ?_
      rintro e w8 ⟨rfl, rfl⟩
      go_wp2_with fail
      refine (burn_nil 0 w8).mono ?_
      rintro e w9 ⟨rfl, rfl⟩
      go_wp2_with fail
      refine (fuelUsed_nil w9).mono ?_
      rintro e wa ⟨rfl, rfl⟩
      go_wp2_with fail
      refine (fill_neg wa).mono ?_
      rintro e wb ⟨fb, rfl, hfb, hpb, hbb⟩
      have HVb := hide (HV7.out.trans (hbb.mono HV7.out.size))
      have HBN := hide (burn_any fb 0 0 1 wb hfb (by omega))
      have eE : burnE 0 1 = 31 := by unfold burnE; rw [if_neg (by omega)]
      rw [eE] at HBN
      have hfr : wr.heap.size ≤ fb := by have := HV7.out.size; omega
      clear hfb hbb eE hpb
      unfold PT at HBN
      try unfold PT
      go_wp2_with fail
      refine HBN.out.mono ?_
      rintro e wc ⟨rfl, -, hbc, -⟩
      have HVc := hide (HVb.out.trans (hbc wr.heap.size hfr))
      have HUS := hide (fuelUsed_any pf left used wc (HF.out.below HVc.out hpl))
      clear hbc HBN
      unfold PT at HUS
      go_wp2_with fail
      refine HUS.out.mono ?_
      rintro e wd ⟨rfl, rfl⟩
      clear HUS
      go_wp2
      go_ret
      exact ⟨rfl, HBE.out.trans (HVc.out.mono hBr)⟩
theorem splitFuels_all (i : Int) (v : Value) (ln : Nat) (w : World) (hv : IntRow w v ln) (hT : TabAt w) :
    Calls Tryz.prog 4 #[.int .i64 i, v] w fun e w' => e = .returned (.bool true) ∧ Below w.heap.size w w' := splitFuels_any i v ln w hv hT
end Go.Proofs.YthlannjipbohkaaGreatDoor
/- SplitFuels: what is burnt is as much as there is, and no more. Conditions: the table of math/bits holds what its initialiser lays (the card ties that to the program's text). -/
namespace Go.Proofs.YthlannjipbohkaaGreatDoor
set_option maxRecDepth 100000
open Go.ChangeShapes Go.WideShapes Go.ChangeAt Go.WideMaps Go.WideElems Go.RowKit

set_option maxRecDepth 100000 in
theorem splitFuels_lifted (os : Os) (started : os.Started) (H : Type) (enc : TypeId × Value → H) :
    ReturnsInHanded {} Tryz.checked os 4 .any (fun w args => (Rows.splitFuelsSpec.pre enc Tryz.prog Tryz.f4 [] false w args ∧ laidMetH Tryz.prog [("math/bits.deBruijn64tab", Rows.laid_math_bits_deBruijn64tab)] w) ∧ sizedMet enc Tryz.prog Tryz.f4 (OpenSpec.ofChange Rows.splitFuelsSpec) false w args)
      (Rows.splitFuelsSpec.post enc Tryz.prog Tryz.f4 false true false false) := by
  refine returnsInHanded_of_change_and (C := Tryz.checked) (X := fun w _ => laidMetH Tryz.prog [("math/bits.deBruijn64tab", Rows.laid_math_bits_deBruijn64tab)] w) (fun _ _ _ hh h => h.of_heap hh) own started (by kernel_rfl) Tryz.func4
    (ChangeSpec.witness_shaped (enc := enc) (C := Tryz.checked) (os := os) (X := fun w _ => laidMetH Tryz.prog [("math/bits.deBruijn64tab", Rows.laid_math_bits_deBruijn64tab)] w) false (World.doorLaid Tryz.prog 400 os)
      #[.int .i64 0, .slice none 0 0] 8 rfl (World.shaped_of_RefB (by kernel_rfl) (by kernel_rfl)) (by kernel_rfl) (by kernel_rfl) (by kernel_rfl) (door_met os _)) ?_
  intro W base args ds gs before hval0 hW _ _ hL _
  have hval : ∀ (j : Nat) t v, Tryz.f4.params[j]? = some t → args[j]? = some v → Value.okWide Tryz.prog W .any base t v := hval0
  have hW' := hW
  obtain ⟨p, q, hA0, hV, rfl, hfz, hnd⟩ := hW
  have hA : DataW.TrodAll enc Tryz.prog W 0 (fun _ => true) true Tryz.f4.params.toList args.toList ds p := hA0
  rw [Tryz.params4] at hA hval
  obtain ⟨v0, v1, d0, d1, p0, p1, rfl, rfl, rfl, h0, h1⟩ := trodAll_two hA
  obtain ⟨rfl, rfl⟩ := trodVars_none hV
  have k0 := h0
  obtain ⟨i0, rfl, rfl, rfl, w0⟩ := open_int Tryz.underlying3 (hval 0 3 v0 rfl rfl) h0
  have b0 := bounds_i64 w0
  have k1 := h1
  have lt1 : ∀ x ∈ p1, x.block < W.heap.size := by obtain ⟨m, hm⟩ := k1; exact DataW.trod_lt m _ _ _ hm
  obtain ⟨z1, hz1⟩ := open_introw (hval 1 25 v1 rfl rfl) h1
  have hT := tab_of_laid hL
  clear hA0 hval0
  refine (splitFuels_all i0 v1 z1 W hz1 hT).mono fun e W' ⟨he, hb⟩ => ?_
  subst he
  exact ⟨_, rfl, _, _, _, [], _, [], hW', trodAll_mk1 (shut_bool Tryz.underlying4 _), trodAll_mk2 (shut_int Tryz.underlying3 w0) (Below.trod laidOut (by kernel_rfl) (of_decide_eq_true (by kernel_rfl)) k1 hb lt1), rfl, hb.frame _, fun h => by cases h⟩

theorem splitFuels_said : Rows.SplitFuelsSaid :=
  OpenClaim.holds_of_wide 4 Tryz.f4 rfl rfl rfl rfl rfl rfl rfl ⟨rfl, rfl, rfl, rfl, rfl⟩ rfl rfl rfl rfl rfl (by kernel_rfl) Tryz.func4 (by kernel_rfl)
    (of_decide_eq_true (by kernel_rfl)) (by unfold Func.isWrapper; first | (rw [if_pos (by decide +kernel)]; kernel_rfl) | (rw [if_neg (by decide +kernel)]; exact ⟨rfl, rfl⟩))
    (fun os started H enc _ => splitFuels_lifted os started H enc)

theorem splitFuels_card : Rows.SplitFuelsCardSaid :=
  Claim7.holds_tied_plain_at .later [] [.data] true Rows.splitFuelsCard.stood.harness false
    splitFuels_said (fun _ h => by cases h) (by kernel_rfl) (fun _ h => by cases h) splitFuels_row_tie rfl ⟨rfl, rfl⟩ (by kernel_rfl) rfl
    (fun f fn hf hfn => by
      obtain rfl : f = 4 := Option.some.inj ((show Tryz.prog.funcNamed "periscope/periscopelaw09.SplitFuels" = some 4 by kernel_rfl).symm.trans hf) |>.symm
      obtain rfl : fn = Tryz.f4 := (Option.some.inj (Tryz.func4.symm.trans hfn)).symm
      exact ⟨by kernel_rfl, fun j t ht => by
        rw [Tryz.params4] at ht
        have hm : t ∈ [3, 25] := by simpa using Array.mem_of_getElem? ht
        have hall : ([3, 25].all fun u => !Tryz.prog.wantsStandIn u) = true := by kernel_rfl
        exact (show Tryz.prog.wantsStandIn t = false by simpa using List.all_eq_true.1 hall t hm)⟩)
    (by kernel_rfl)
#print axioms splitFuels_card
end Go.Proofs.YthlannjipbohkaaGreatDoor
