/- AutoWitness: Witness answers the least text of an expression, and none where it has none. Conditions: the table of math/bits holds what its initialiser lays (the card ties that to the program's text). -/
/- Texts of this claim put together: LawAutoWitness, ProofAutoWitness. -/
import Derived.Test.YtjcfnmjjkadaeaaGreatDoorJoinHead7
import Derived.Test.YtjcfnmjjkadaeaaGreatDoorJoinTsC
import Derived.Test.YtjcfnmjjkadaeaaGreatDoorJoinOpenS
import Derived.Test.YtjcfnmjjkadaeaaGreatDoorCards
import Derived.Test.YtjcfnmjjkadaeaaGreatDoorTie
/- AutoWitness: the least text of an expression; none, if it has none. -/
namespace Go.Proofs.YtjcfnmjjkadaeaaGreatDoor
set_option maxRecDepth 100000
set_option linter.unusedSimpArgs false
set_option linter.unusedVariables false
open Go.RowKit Go.Shelf

/-- In, as it is asked of a text. -/
theorem in_holds (s : SHP) (cs : List Value) (W0 : World) (h : ShC W0 cs s) : HoldsF 24 #[ShVal cs] #[] (fun t => hB s.lang (strB t)) W0 := by
  refine ⟨enters_of Tryz.func24 (by kernel_rfl) rfl, fun W hW t ht hl => ?_⟩
  have e : ((#[ShVal cs] : Array Value).push (.string (strB t)) ++ #[]) = #[ShVal cs, .string (strB t)] := by simp
  rw [e]
  exact shIn_any s (strB t) (by rw [strB_lenT]; omega) cs W (h.keep hW)
set_option maxHeartbeats 4000000 in
theorem autoWitness_any (cs : List Value) (s : SHP) (w : World) (hs : ShC w cs s) (hT : TabAt w) :
    Calls Tryz.prog 4 #[ShVal cs] w fun e w' => e = .returned (.bool true) ∧ Below w.heap.size w w' := by
  have HC := hide hs
  have HT := hide hT
  obtain ⟨kv, hcs, hrow, -⟩ := hs.open
  obtain ⟨-, a, cap, rfl, -⟩ := hrow.at
  have HCS := hide hcs
  have hv0 : ShVal cs = .agg #[.int .i64 s.op, .int .u8 s.lo, .int .u8 s.hi, .string s.text, .slice a s.kids.length cap] := by rw [hcs]; rfl
  rw [hv0]
  have HV0 := hide hv0
  clear hs hT hrow hcs hv0
  obtain ⟨B, hB⟩ : ∃ B, B = w.heap.size := ⟨_, rfl⟩
  go_enter Tryz.func4, Tryz.ntmps4
  go_wp2_with fail
  have hb0 : Below B w (w.alloc (.cells #[.int .i64 s.op, .int .u8 s.lo, .int .u8 s.hi, .string s.text, .slice a s.kids.length cap] 24)) := (Below.refl _ _).alloc (Nat.le_of_eq hB) _
  have hbx : Blk (w.alloc (.cells #[.int .i64 s.op, .int .u8 s.lo, .int .u8 s.hi, .string s.text, .slice a s.kids.length cap] 24)) B #[.int .i64 s.op, .int .u8 s.lo, .int .u8 s.hi, .string s.text, .slice a s.kids.length cap] 24 := Blk.newAt hB _ _
  refine (head7_any _ (HT.out.agree (Agree.of_all (K := fun _ => True) (hB ▸ hb0)) trivial)).mono ?_
  rintro e w1 ⟨rfl, hb1⟩
  have hbx1 := hbx.below hb1 hbx.lt
  have HX1 := hide hbx1
  have HB1 := hide (hb0.trans (hb1.mono (by simp; omega)))
  have HB := hide hB
  rw [← hB]
  clear hb0 hbx hb1 hB
  have xB := hbx1
  have x0 := xB.cell 0; have x1 := xB.cell 1; have x2 := xB.cell 2; have x3 := xB.cell 3; have x4 := xB.cell 4
  simp only [List.getElem?_toArray, List.getElem?_cons_zero, List.getElem?_cons_succ] at x0 x1 x2 x3 x4
  clear xB
  clear hbx1
  have hcnt := count_any s _ 0 w1 (HC.out.keep (HB.out ▸ HB1.out)) (by omega)
  rw [HV0.out] at hcnt
  have HCNT := hide hcnt
  clear hcnt
  go_wp2_with fail
  refine HCNT.out.mono ?_
  rintro e w2 ⟨c, rfl, -, hcc, hb2⟩
  have hsB1 : B ≤ w1.heap.size := by have := HX1.out.lt; omega
  have HB2 := hide (HB1.out.trans (hb2.mono hsB1))
  have hbx2 := HX1.out.below hb2 HX1.out.lt
  have HX2 := hide hbx2
  have HCW := hide hcc
  clear hb2 hcc HCNT x0 x1 x2 x3 x4 HX1 HB1
  by_cases h15 : 15 < c
  · have d15 : decide ((15 : Int) < (c : Int)) = true := decide_eq_true (by omega)
    clear hbx2
    go_wp2
    go_ret
    exact ⟨rfl, HB.out ▸ HB2.out⟩
  have d15 : decide ((15 : Int) < (c : Int)) = false := decide_eq_false (by omega)
  obtain ⟨htx, hnd⟩ := HCW.out (by omega)
  have hnd30 : s.nodes ≤ 30 := by omega
  clear HCW
  have xB := hbx2
  have x0 := xB.cell 0; have x1 := xB.cell 1; have x2 := xB.cell 2; have x3 := xB.cell 3; have x4 := xB.cell 4
  simp only [List.getElem?_toArray, List.getElem?_cons_zero, List.getElem?_cons_succ] at x0 x1 x2 x3 x4
  clear xB
  clear hbx2
  have hsB2 : B ≤ w2.heap.size := by have := HX2.out.lt; omega
  have hpu := pure_any s _ w2 (HC.out.keep (HB.out ▸ HB2.out))
  rw [HV0.out] at hpu
  have HPU := hide hpu
  clear hpu
  obtain ⟨pu, hpu⟩ : ∃ pu, s.pure = pu := ⟨_, rfl⟩
  rw [hpu] at HPU
  have HPP := hide hpu
  clear hpu
  go_wp2_with fail
  refine HPU.out.mono ?_
  rintro e w3 ⟨rfl, hb3⟩
  have HB3 := hide (HB2.out.trans (hb3.mono hsB2))
  have hbx3 := HX2.out.below hb3 HX2.out.lt
  have HX3 := hide hbx3
  clear hb3 HPU x0 x1 x2 x3 x4 HX2 HB2
  cases pu with
  | false =>
    clear hbx3
    go_wp2
    go_ret
    exact ⟨rfl, HB.out ▸ HB3.out⟩
  | true =>
  have xB := hbx3
  have x0 := xB.cell 0; have x1 := xB.cell 1; have x2 := xB.cell 2; have x3 := xB.cell 3; have x4 := xB.cell 4
  simp only [List.getElem?_toArray, List.getElem?_cons_zero, List.getElem?_cons_succ] at x0 x1 x2 x3 x4
  clear xB
  clear hbx3
  have hsB3 : B ≤ w3.heap.size := by have := HX3.out.lt; omega
  have hmk := make_any s _ w3 (HC.out.keep (HB.out ▸ HB3.out)) htx hnd30 (HT.out.agree (Agree.of_all (K := fun _ => True) (HB.out ▸ HB3.out)) trivial)
  rw [HV0.out] at hmk
  have HMK := hide hmk
  clear hmk
  go_wp2_with fail
  refine HMK.out.mono ?_
  rintro e w4 ⟨rb, rfl, hr4, hb4⟩
  have HB4 := hide (HB3.out.trans (hb4.mono hsB3))
  have HR4 := hide hr4
  have HX4 := hide (HX3.out.below hb4 HX3.out.lt)
  have hsB4 : B ≤ w4.heap.size := by have := hb4.size; omega
  have hwf := s.wf
  clear x0 x1 x2 x3 x4 HX3 HB3 HMK hsB3 hsB2 hsB1 hb4 hr4
  go_wp2_with fail
  refine (grant_any 400 w4 (by omega)).mono ?_
  rintro e w5 ⟨bud, rfl, hbd, hbl, hb5⟩
  rw [show max (400 : Int) 0 = 400 from by omega] at hbd
  have HB5 := hide (HB4.out.trans (hb5.mono hsB4))
  have hwb : B < bud := by have := HX4.out.lt; omega
  have HX5 := hide (HX4.out.below hb5 HX4.out.lt)
  have HT5 := hide (HT.out.agree (Agree.of_all (K := fun _ => True) (HB.out ▸ HB5.out)) trivial)
  have HWI := hide (witness_new s.re rb w5 (HR4.out.keep hb5) hwf bud 400 hbd (by omega) (by omega) HT5.out)
  have hBlt5 : B < w5.heap.size := HX5.out.lt
  clear hbd hbl hb5 HX4 HR4 HB4
  unfold PT at HWI
  try unfold PT
  go_wp2_with fail
  refine HWI.out.mono ?_
  rintro e w6 ⟨hwit, hfr⟩
  have hb6 : Below B w5 w6 := hfr B (Nat.le_of_lt hBlt5) (Nat.le_of_lt hwb)
  have HX6 := hide (HX5.out.below (hfr (B + 1) hBlt5 hwb) (Nat.lt_succ_self B))
  have HB6 := hide (HB5.out.trans hb6)
  have hsB6 : B ≤ w6.heap.size := by have := HX6.out.lt; omega
  have HLT := hide (pure_let s HPP.out)
  clear HWI hfr hb6 HX5
  rcases hwit with ⟨-, rfl⟩ | ⟨t, hby, hin, hle, rfl⟩ | ⟨hno, rfl⟩
  · go_wp2
    go_ret
    exact ⟨rfl, HB.out ▸ HB6.out⟩
  · have hin' := (shape_lang s t hby).1 hin
    have HLE : Hid (leastB t true (fun t => hB s.lang (strB t)) = true) := least_some ((hB_strB hby).2 hin') (HLT.out t hin') fun u hu hp => hle u hu ((shape_lang s u hu).2 ((hB_strB hu).1 hp))
    have hsz : ((strB t).size : Int) = (t.length : Int) := by rw [strB_len]
    by_cases h8 : 8 < t.length
    · have d8 : decide ((8 : Int) < ((strB t).size : Int)) = true := decide_eq_true (by omega)
      clear HLE hin hin' hle hby hsz
      generalize strB t = st at *
      go_wp2
      go_ret
      exact ⟨rfl, HB.out ▸ HB6.out⟩
    · have d8 : decide ((8 : Int) < ((strB t).size : Int)) = false := decide_eq_false (by omega)
      have HL := hide (leastL_any 24 #[ShVal cs] #[] (fun t => hB s.lang (strB t)) t true w6 hby (by omega) (in_holds s cs w6 (HC.out.keep (HB.out ▸ HB6.out))))
      rw [HLE.out, HV0.out] at HL
      have xB := HX6.out
      have x0 := xB.cell 0; have x1 := xB.cell 1; have x2 := xB.cell 2; have x3 := xB.cell 3; have x4 := xB.cell 4
      simp only [List.getElem?_toArray, List.getElem?_cons_zero, List.getElem?_cons_succ] at x0 x1 x2 x3 x4
      clear HLE hin hin' hle hby hsz xB
      generalize strB t = st at *
      go_wp2_with fail
      refine HL.out.mono ?_
      rintro e w7 ⟨rfl, hb7⟩
      have HB7 := hide (HB6.out.trans (hb7.mono hsB6))
      clear x0 x1 x2 x3 x4 HL hb7
      go_wp2
      go_ret
      exact ⟨rfl, HB.out ▸ HB7.out⟩
  · have HLE : Hid (leastB [] false (fun t => hB s.lang (strB t)) = true) := least_none fun u hu => by
      rw [Bool.eq_false_iff]
      exact fun h => hno u hu ((shape_lang s u hu).2 ((hB_strB hu).1 h))
    have HL := hide (leastL_any 24 #[ShVal cs] #[] (fun t => hB s.lang (strB t)) [] false w6 (fun x hx => absurd hx (by simp)) (by simp) (in_holds s cs w6 (HC.out.keep (HB.out ▸ HB6.out))))
    rw [HLE.out, HV0.out, show strB [] = ⟨#[]⟩ from rfl] at HL
    have xB := HX6.out
    have x0 := xB.cell 0; have x1 := xB.cell 1; have x2 := xB.cell 2; have x3 := xB.cell 3; have x4 := xB.cell 4
    simp only [List.getElem?_toArray, List.getElem?_cons_zero, List.getElem?_cons_succ] at x0 x1 x2 x3 x4
    clear HLE xB hno
    go_wp2_with fail
    refine HL.out.mono ?_
    rintro e w7 ⟨rfl, hb7⟩
    have HB7 := hide (HB6.out.trans (hb7.mono hsB6))
    clear x0 x1 x2 x3 x4 HL hb7
    go_wp2
    go_ret
    exact ⟨rfl, HB.out ▸ HB7.out⟩
theorem autoWitness_all (v : Value) (s : SHP) (w : World) (hv : ∃ cs, v = ShVal cs ∧ ShC w cs s) (hT : TabAt w) :
    Calls Tryz.prog 4 #[v] w fun e w' => e = .returned (.bool true) ∧ Below w.heap.size w w' := by
  obtain ⟨cs, rfl, hs⟩ := hv
  exact autoWitness_any cs s w hs hT
end Go.Proofs.YtjcfnmjjkadaeaaGreatDoor
/- AutoWitness: Witness answers the least text of an expression, and none where it has none. Conditions: the table of math/bits holds what its initialiser lays (the card ties that to the program's text). -/
namespace Go.Proofs.YtjcfnmjjkadaeaaGreatDoor
set_option maxRecDepth 100000
open Go.ChangeShapes Go.WideShapes Go.ChangeAt Go.WideMaps Go.WideElems Go.RowKit

set_option maxRecDepth 100000 in
theorem autoWitness_lifted (os : Os) (started : os.Started) (H : Type) (enc : TypeId × Value → H) :
    ReturnsInHanded {} Tryz.checked os 4 .any (fun w args => (Rows.autoWitnessSpec.pre enc Tryz.prog Tryz.f4 [] false w args ∧ laidMetH Tryz.prog [("math/bits.deBruijn64tab", Rows.laid_math_bits_deBruijn64tab)] w) ∧ sizedMet enc Tryz.prog Tryz.f4 (OpenSpec.ofChange Rows.autoWitnessSpec) false w args)
      (Rows.autoWitnessSpec.post enc Tryz.prog Tryz.f4 false true false false) := by
  refine returnsInHanded_of_change_and (C := Tryz.checked) (X := fun w _ => laidMetH Tryz.prog [("math/bits.deBruijn64tab", Rows.laid_math_bits_deBruijn64tab)] w) (fun _ _ _ hh h => h.of_heap hh) own started (by kernel_rfl) Tryz.func4
    (ChangeSpec.witness_shaped (enc := enc) (C := Tryz.checked) (os := os) (X := fun w _ => laidMetH Tryz.prog [("math/bits.deBruijn64tab", Rows.laid_math_bits_deBruijn64tab)] w) false (World.doorLaid Tryz.prog 400 os)
      #[.agg #[.int .i64 0, .int .u8 0, .int .u8 0, .string ⟨#[]⟩, .slice none 0 0]] 8 rfl (World.shaped_of_RefB (by kernel_rfl) (by kernel_rfl)) (by kernel_rfl) (by kernel_rfl) (by kernel_rfl) (door_met os _)) ?_
  intro W base args ds gs before hval0 hW _ _ hL _
  have hval : ∀ (j : Nat) t v, Tryz.f4.params[j]? = some t → args[j]? = some v → Value.okWide Tryz.prog W .any base t v := hval0
  have hW' := hW
  obtain ⟨p, q, hA0, hV, rfl, hfz, hnd⟩ := hW
  have hA : DataW.TrodAll enc Tryz.prog W 0 (fun _ => true) true Tryz.f4.params.toList args.toList ds p := hA0
  rw [Tryz.params4] at hA hval
  obtain ⟨v0, d0, rfl, rfl, h0⟩ := trodAll_one hA
  obtain ⟨rfl, rfl⟩ := trodVars_none hV
  have k0 := h0
  have lt0 : ∀ x ∈ p, x.block < W.heap.size := by obtain ⟨m, hm⟩ := k0; exact DataW.trod_lt m _ _ _ hm
  obtain ⟨z0, hz0⟩ := open_shape (hval 0 24 v0 rfl rfl) h0
  have hT := tab_of_laid hL
  clear hA0 hval0
  refine (autoWitness_all v0 z0 W hz0 hT).mono fun e W' ⟨he, hb⟩ => ?_
  subst he
  exact ⟨_, rfl, _, _, _, [], _, [], hW', trodAll_mk1 (shut_bool Tryz.underlying4 _), trodAll_mk1 (Below.trod laidOut (by kernel_rfl) (of_decide_eq_true (by kernel_rfl)) k0 hb lt0), rfl, hb.frame _, fun h => by cases h⟩

theorem autoWitness_said : Rows.AutoWitnessSaid :=
  OpenClaim.holds_of_wide 4 Tryz.f4 rfl rfl rfl rfl rfl rfl rfl ⟨rfl, rfl, rfl, rfl, rfl⟩ rfl rfl rfl rfl rfl (by kernel_rfl) Tryz.func4 (by kernel_rfl)
    (of_decide_eq_true (by kernel_rfl)) (by unfold Func.isWrapper; first | (rw [if_pos (by decide +kernel)]; kernel_rfl) | (rw [if_neg (by decide +kernel)]; exact ⟨rfl, rfl⟩))
    (fun os started H enc _ => autoWitness_lifted os started H enc)

theorem autoWitness_card : Rows.AutoWitnessCardSaid :=
  Claim7.holds_tied_plain_at .later [] [.data] true Rows.autoWitnessCard.stood.harness false
    autoWitness_said (fun _ h => by cases h) (by kernel_rfl) (fun _ h => by cases h) autoWitness_row_tie rfl ⟨rfl, rfl⟩ (by kernel_rfl) rfl
    (fun f fn hf hfn => by
      obtain rfl : f = 4 := Option.some.inj ((show Tryz.prog.funcNamed "periscope/periscopelaw07.AutoWitness" = some 4 by kernel_rfl).symm.trans hf) |>.symm
      obtain rfl : fn = Tryz.f4 := (Option.some.inj (Tryz.func4.symm.trans hfn)).symm
      exact ⟨by kernel_rfl, fun j t ht => by
        rw [Tryz.params4] at ht
        have hm : t ∈ [24] := by simpa using Array.mem_of_getElem? ht
        have hall : ([24].all fun u => !Tryz.prog.wantsStandIn u) = true := by kernel_rfl
        exact (show Tryz.prog.wantsStandIn t = false by simpa using List.all_eq_true.1 hall t hm)⟩)
    (by kernel_rfl)
#print axioms autoWitness_card
end Go.Proofs.YtjcfnmjjkadaeaaGreatDoor
