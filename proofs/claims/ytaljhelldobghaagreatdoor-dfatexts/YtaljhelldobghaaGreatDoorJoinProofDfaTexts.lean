/- DfaTexts answers true for every shape, row of numbers and number: a Dfa has just the expression's texts, and a text run in two parts comes to the same. Conditions: the table of math/bits holds what its initialiser lays (the card ties that to the program's text). -/
/- Texts of this claim put together: LawDfaTexts, ProofDfaTexts. -/
import Derived.Test.YtaljhelldobghaaGreatDoorJoinHead6
import Derived.Test.YtaljhelldobghaaGreatDoorJoinSomeInts
import Derived.Test.YtaljhelldobghaaGreatDoorCards
import Derived.Test.YtaljhelldobghaaGreatDoorTie
/- DfaTexts: a text is one of them just where it should; run in two parts it comes to the same. -/
namespace Go.Proofs.YtaljhelldobghaaGreatDoor
set_option maxRecDepth 100000
set_option linter.unusedSimpArgs false
set_option linter.unusedVariables false
open Go.RowKit

theorem bytesN_extract (t : ByteArray) (c : Nat) (h : c ≤ t.size) : bytesN (t.extract 0 c) ++ bytesN (t.extract c t.size) = bytesN t := by
  unfold bytesN
  rw [← List.map_append]
  congr 1
  simp only [ByteArray.data_extract, Array.toList_extract, List.extract_eq_take_drop, Nat.sub_zero, List.drop_zero]
  rw [List.take_of_length_le (l := List.drop c t.data.toList) (by rw [List.length_drop]; exact Nat.le_refl _), List.take_append_drop]

set_option maxHeartbeats 4000000 in
theorem dfaTexts_any (cs : List Value) (s : SHP) (v : Value) (ln : Nat) (cut : Int) (hcut : -9223372036854775808 ≤ cut ∧ cut ≤ 9223372036854775807) (w : World) (hs : ShC w cs s) (hv : IntRow w v ln) (hT : TabAt w) :
    Calls Tryz.prog 4 #[ShVal cs, v, .int .i64 cut] w fun e w' => e = .returned (.bool true) ∧ Below w.heap.size w w' := by
  have HC := hide hs
  have HT := hide hT
  have HV := hide hv
  have HLEN := hide hs.len
  obtain ⟨hln, la, lcap, rfl, -⟩ := hv
  obtain ⟨kv, hcs, hrow, -⟩ := hs.open
  obtain ⟨-, a, cap, rfl, -⟩ := hrow.at
  have HCS := hide hcs
  have hv0 : ShVal cs = .agg #[.int .i64 s.op, .int .u8 s.lo, .int .u8 s.hi, .string s.text, .slice a s.kids.length cap] := by rw [hcs]; rfl
  rw [hv0]
  have HV0 := hide hv0
  clear hs hT hrow hcs hv0
  obtain ⟨B, hB⟩ : ∃ B, B = w.heap.size := ⟨_, rfl⟩
  go_enter Tryz.func4, Tryz.ntmps4
  go_wp2_with fail
  have hb0 : Below B w (w.alloc (.cells #[.int .i64 s.op, .int .u8 s.lo, .int .u8 s.hi, .string s.text, .slice a s.kids.length cap] 24)) := (Below.refl _ _).alloc (Nat.le_of_eq hB) _
  have hbx : Blk (w.alloc (.cells #[.int .i64 s.op, .int .u8 s.lo, .int .u8 s.hi, .string s.text, .slice a s.kids.length cap] 24)) B #[.int .i64 s.op, .int .u8 s.lo, .int .u8 s.hi, .string s.text, .slice a s.kids.length cap] 24 := Blk.newAt hB _ _
  refine (head6_any _ (HT.out.agree (Agree.of_all (K := fun _ => True) (hB ▸ hb0)) trivial)).mono ?_
  rintro e w1 ⟨rfl, hb1⟩
  have hbx1 := hbx.below hb1 hbx.lt
  have HX1 := hide hbx1
  have HB1 := hide (hb0.trans (hb1.mono (by simp; omega)))
  have HB := hide hB
  rw [← hB]
  clear hb0 hbx hb1 hB
  have xB := hbx1
  have x0 := xB.cell 0; have x1 := xB.cell 1; have x2 := xB.cell 2; have x3 := xB.cell 3; have x4 := xB.cell 4
  simp only [List.getElem?_toArray, List.getElem?_cons_zero, List.getElem?_cons_succ] at x0 x1 x2 x3 x4
  clear xB
  clear hbx1
  have hfew := few_any s _ w1 (HC.out.keep (HB.out ▸ HB1.out))
  rw [HV0.out] at hfew
  have HFEW := hide hfew
  clear hfew
  go_wp2_with fail
  refine HFEW.out.mono ?_
  rintro e w2 ⟨few, rfl, hfw, hb2⟩
  have hsB1 : B ≤ w1.heap.size := by have := HX1.out.lt; omega
  have HB2 := hide (HB1.out.trans (hb2.mono hsB1))
  have hbx2 := HX1.out.below hb2 HX1.out.lt
  have HX2 := hide hbx2
  have HFW := hide hfw
  clear hb2 hfw HFEW x0 x1 x2 x3 x4 HX1 HB1
  cases few
  · clear hbx2
    go_wp2
    go_ret
    exact ⟨rfl, HB.out ▸ HB2.out⟩
  obtain ⟨htx, hnd⟩ := HFW.out rfl
  clear HFW
  by_cases h5 : 6 < ln
  · have hd5 : decide ((ln : Int) > 6) = true := decide_eq_true (by omega)
    have hd5' : decide (6 < ln) = true := decide_eq_true h5
    clear hbx2
    go_wp2
    go_ret
    exact ⟨rfl, HB.out ▸ HB2.out⟩
  have hd5 : decide ((ln : Int) > 6) = false := decide_eq_false (by omega)
  have hd5' : decide (6 < ln) = false := decide_eq_false h5
  have xB := hbx2
  have x0 := xB.cell 0; have x1 := xB.cell 1; have x2 := xB.cell 2; have x3 := xB.cell 3; have x4 := xB.cell 4
  simp only [List.getElem?_toArray, List.getElem?_cons_zero, List.getElem?_cons_succ] at x0 x1 x2 x3 x4
  clear xB
  clear hbx2
  have hsB2 : B ≤ w2.heap.size := by have := HX2.out.lt; omega
  have hmk := make_any s _ w2 (HC.out.keep (HB.out ▸ HB2.out)) htx hnd (HT.out.agree (Agree.of_all (K := fun _ => True) (HB.out ▸ HB2.out)) trivial)
  rw [HV0.out] at hmk
  have HMK := hide hmk
  clear hmk
  go_wp2_with fail
  refine HMK.out.mono ?_
  rintro e w3 ⟨rb, rfl, hr3, hb3⟩
  have HB3 := hide (HB2.out.trans (hb3.mono hsB2))
  have HR3 := hide hr3
  have HX3 := hide (HX2.out.below hb3 HX2.out.lt)
  have hsB3 : B ≤ w3.heap.size := by have := hb3.size; omega
  have hwf := s.wf
  clear x0 x1 x2 x3 x4 HX2 HB2 HMK hsB2 hsB1 hb3 hr3
  go_wp2_with fail
  refine (grant_any 400 w3 (by omega)).mono ?_
  rintro e w4 ⟨bud, rfl, hbd, hbl, hb4⟩
  rw [show max (400 : Int) 0 = 400 from by omega] at hbd
  have HB4 := hide (HB3.out.trans (hb4.mono hsB3))
  have hwb : B ≤ bud := Nat.le_trans hsB3 hbl
  have HX4 := hide (HX3.out.below hb4 HX3.out.lt)
  have HT4 := hide (HT.out.agree (Agree.of_all (K := fun _ => True) (HB.out ▸ HB4.out)) trivial)
  have HBU := hide (build_new s.re rb w4 (HR3.out.keep hb4) hwf bud 400 hbd (by omega) (by omega) HT4.out)
  have hbne : B ≠ bud := fun e => by
    have h1 := HX4.out.of_cells
    rw [e] at h1
    have h2 := h1.symm.trans hbd.blk.of_cells
    injection h2 with h2; injection h2 with _ h2
    exact absurd h2 (by decide)
  have hBlt4 : B < w4.heap.size := HX4.out.lt
  clear hbd hbl hb4 HX3 HR3
  unfold PT at HBU
  try unfold PT
  go_wp2_with fail
  refine HBU.out.mono ?_
  rintro e w5 ⟨pl, hp1, hp2, hl, hh⟩
  have HB5 := hide (HB4.out.trans (hl.below (Nat.le_of_lt hBlt4) hwb))
  have HX5 := hide (show Blk w5 B #[.int .i64 s.op, .int .u8 s.lo, .int .u8 s.hi, .string s.text, .slice a s.kids.length cap] 24 from (hl.old B hBlt4 hbne).trans HX4.out)
  have hsB5 : B ≤ w5.heap.size := by have := HX5.out.lt; omega
  clear HX4 HBU
  rcases hh with ⟨-, rfl, -, -⟩ | ⟨sb, rows, p, -, rfl, -, hd, -, -⟩
  · clear hl
    go_wp2
    go_ret
    exact ⟨rfl, HB.out ▸ HB5.out⟩
  · have HD := hide hd
    have HSO := hide (some_any ln (.slice la ln lcap) w5 (by omega) (HV.out.keep (HB.out ▸ HB5.out)))
    clear hl hd
    try unfold PT
    go_wp2_with fail
    refine HSO.out.mono ?_
    rintro e w6 ⟨t, rfl, hts, hb6⟩
    have HB6 := hide (HB5.out.trans (hb6.mono hsB5))
    have HX6 := hide (HX5.out.below hb6 HX5.out.lt)
    have HD6 := hide (HD.out.keep hb6)
    have hts' : (t.size : Int) = ln := by omega
    obtain ⟨c8, hc8, hcm⟩ := and255 cut
    obtain ⟨cc, hcc0, hce⟩ : ∃ cc : Nat, cc ≤ t.size ∧ ((c8 : Int) % ((t.size : Int) + 1)) = (cc : Int) := ⟨c8 % (t.size + 1), by have := Nat.mod_lt c8 (show 0 < t.size + 1 by omega); omega, by simp⟩
    have hnz : ((t.size : Int) + 1 == 0) = false := beq_eq_false_iff_ne.2 (by omega)
    have hts6 : t.size ≤ 6 := by omega
    clear hb6 HSO HX5 HD hts' hts
    have hby : By (bytesN t) := by_bytes t
    obtain ⟨q1, hq1⟩ : ∃ q1, q1 = hB s.lang t := ⟨_, rfl⟩
    obtain ⟨i1, hi1⟩ : ∃ i, i = runN rows (idxF pl pl.length) 0 (bytesN (t.extract 0 cc)) := ⟨_, rfl⟩
    obtain ⟨i2, hi2⟩ : ∃ i, i = runN rows (idxF pl pl.length) 0 (bytesN t) := ⟨_, rfl⟩
    obtain ⟨C, hC⟩ : ∃ C : World → Prop, C = fun W => Below w6.heap.size w6 W := ⟨_, rfl⟩
    have hcb : ∀ W, C W → Below w6.heap.size w6 W := fun W h => by rw [hC] at h; exact h
    have HG : Hid (Grows C) := fun W W' h hb => by rw [hC] at h ⊢; exact h.trans (hb.mono h.size)
    have HQS : Hid (∀ W, C W → ∀ j u, cs[j]? = some u → W.cell? ⟨B, 0 + j, none⟩ = some u) := fun W hW j u hu => by
      have hx := HX6.out.below (hcb W hW) HX6.out.lt
      rw [Nat.zero_add, hx.cell j]
      rw [HCS.out] at hu
      simpa using hu
    have hsB6 : B ≤ w6.heap.size := by have := HX6.out.lt; omega
    have HSW : Hid (∀ W, C W → ShC W cs s) := fun W hW => HC.out.keep (HB.out ▸ (HB6.out.trans ((hcb W hW).mono hsB6)))
    have hmx : ∀ x : ByteArray, x.size ≤ t.size → x.size ≤ maxLen := fun x hx => by unfold maxLen; omega
    have HQ1 : Hid (∀ W, C W → Calls Tryz.prog 21 #[PT p, .string t] W fun e w' => e = .returned (.bool q1) ∧ Below W.heap.size W w') := fun W hW => by
      refine ((HD6.out.keep (hcb W hW)).match t (hmx t (Nat.le_refl _))).mono ?_
      rintro e w' ⟨b, rfl, hb, hbl⟩
      have e : b = q1 := by
        rw [hq1, Bool.eq_iff_iff, hB_iff, hb]
        exact shape_lang s _ hby
      exact ⟨by rw [e], hbl⟩
    have HQ2 : Hid (∀ W, C W → Calls Tryz.prog 22 #[ShVal cs, .string t] W fun e w' => e = .returned (.bool q1) ∧ Below W.heap.size W w') := fun W hW => by
      rw [hq1]; exact shIn_any s t (by omega) cs W (HSW.out W hW)
    have HQ3 : Hid (∀ W, C W → Calls Tryz.prog 23 #[PT p, .int .i64 0, .string (t.extract 0 cc)] W fun e w' => e = .returned (.int .i64 i1) ∧ Below W.heap.size W w') := fun W hW => by
      rw [hi1]; exact (HD6.out.keep (hcb W hW)).run 0 _ (hmx _ (by rw [ByteArray.size_extract]; omega))
    have HQ4 : Hid (∀ W, C W → Calls Tryz.prog 23 #[PT p, .int .i64 i1, .string (t.extract cc t.size)] W fun e w' => e = .returned (.int .i64 i2) ∧ Below W.heap.size W w') := fun W hW => by
      have e : i2 = runN rows (idxF pl pl.length) i1 (bytesN (t.extract cc t.size)) := by rw [hi2, ← bytesN_extract t cc hcc0, runN_append, ← hi1]
      rw [e]; exact (HD6.out.keep (hcb W hW)).run i1 _ (hmx _ (by rw [ByteArray.size_extract]; omega))
    have HQ5 : Hid (∀ W, C W → Calls Tryz.prog 23 #[PT p, .int .i64 0, .string t] W fun e w' => e = .returned (.int .i64 i2) ∧ Below W.heap.size W w') := fun W hW => by
      rw [hi2]; exact (HD6.out.keep (hcb W hW)).run 0 t (hmx _ (Nat.le_refl _))
    have HQ6 : Hid (∀ W, C W → Calls Tryz.prog 23 #[PT p, .int .i64 0, .string ⟨#[]⟩] W fun e w' => e = .returned (.int .i64 0) ∧ Below W.heap.size W w') := fun W hW =>
      (HD6.out.keep (hcb W hW)).run 0 ⟨#[]⟩ (hmx _ (Nat.zero_le _))
    have HC6 : Hid (C { w6 with drawn := w6.drawn + 1 }) := by
      rw [hC]
      exact ⟨rfl, rfl, rfl, Nat.le_refl _, fun _ _ => rfl⟩
    have HCB := hide hcb
    have HCC := hide hcc0
    clear hq1 hi1 hi2 hC hcb hmx hby HD6 HSW hcc0 HX6
    go_wp2
    rw [hce]
    have hG := HG.out
    have hqS := HQS.out
    have hq1 := HQ1.out
    have hq2 := HQ2.out
    have hq3 := HQ3.out
    have hq4 := HQ4.out
    have hq5 := HQ5.out
    have hq6 := HQ6.out
    have hcc := HCC.out
    refine w_lit (C := C) (by kernel_rfl) (by kernel_rfl) HC6.out ?_
    refine w_value (PT p) (by kernel_rfl) (fun w hw => x_move _ _ _ _ _ _ _ _ rfl w) ?_
    simp only [Act.put, List.setIfInBounds_toArray, List.set_cons_succ, List.set_cons_zero]
    refine w_value (.string t) (by kernel_rfl) (fun w hw => x_move _ _ _ _ _ _ _ _ rfl w) ?_
    simp only [Act.put, List.setIfInBounds_toArray, List.set_cons_succ, List.set_cons_zero]
    refine w_call hG 21 #[PT p, .string t] (.bool q1) (by kernel_rfl) (fun w => x_call2 _ _ _ _ _ _ _ _ _ _ _ _ _ rfl rfl rfl (enters_of Tryz.func21 (by kernel_rfl) rfl) w) (fun w hw => hq1 w hw) ?_
    simp only [Act.put, List.setIfInBounds_toArray, List.set_cons_succ, List.set_cons_zero]
    refine w_value (ShVal cs) (by kernel_rfl) (fun w hw => x_loadSh _ _ _ _ _ _ _ B 0 cs rfl w HLEN.out (hqS w hw)) ?_
    simp only [Act.put, List.setIfInBounds_toArray, List.set_cons_succ, List.set_cons_zero]
    refine w_value (.string t) (by kernel_rfl) (fun w hw => x_move _ _ _ _ _ _ _ _ rfl w) ?_
    simp only [Act.put, List.setIfInBounds_toArray, List.set_cons_succ, List.set_cons_zero]
    refine w_call hG 22 #[ShVal cs, .string t] (.bool q1) (by kernel_rfl) (fun w => x_call2 _ _ _ _ _ _ _ _ _ _ _ _ _ rfl rfl rfl (enters_of Tryz.func22 (by kernel_rfl) rfl) w) (fun w hw => hq2 w hw) ?_
    simp only [Act.put, List.setIfInBounds_toArray, List.set_cons_succ, List.set_cons_zero]
    refine w_value (.bool true) (by kernel_rfl) (fun w hw => x_eqBoolB _ _ _ _ _ _ _ _ q1 q1 (by simp) rfl rfl w) ?_
    simp only [Act.put, List.setIfInBounds_toArray, List.set_cons_succ, List.set_cons_zero]
    refine w_value (.bool true) (by kernel_rfl) (fun w hw => x_move _ _ _ _ _ _ _ _ rfl w) ?_
    simp only [Act.put, List.setIfInBounds_toArray, List.set_cons_succ, List.set_cons_zero]
    refine w_value (PT p) (by kernel_rfl) (fun w hw => x_move _ _ _ _ _ _ _ _ rfl w) ?_
    simp only [Act.put, List.setIfInBounds_toArray, List.set_cons_succ, List.set_cons_zero]
    refine w_value (PT p) (by kernel_rfl) (fun w hw => x_move _ _ _ _ _ _ _ _ rfl w) ?_
    simp only [Act.put, List.setIfInBounds_toArray, List.set_cons_succ, List.set_cons_zero]
    refine w_value (.string t) (by kernel_rfl) (fun w hw => x_move _ _ _ _ _ _ _ _ rfl w) ?_
    simp only [Act.put, List.setIfInBounds_toArray, List.set_cons_succ, List.set_cons_zero]
    refine w_value (.int .i64 cc) (by kernel_rfl) (fun w hw => x_move _ _ _ _ _ _ _ _ rfl w) ?_
    simp only [Act.put, List.setIfInBounds_toArray, List.set_cons_succ, List.set_cons_zero]
    refine w_value (.string (t.extract 0 cc)) (by kernel_rfl) (fun w hw => x_strTo _ _ _ _ _ _ _ _ t cc rfl rfl hcc w) ?_
    simp only [Act.put, List.setIfInBounds_toArray, List.set_cons_succ, List.set_cons_zero]
    refine w_call hG 23 #[PT p, .int .i64 0, .string (t.extract 0 cc)] (.int .i64 i1) (by kernel_rfl) (fun w => x_call3 _ _ _ _ _ _ _ _ _ _ _ _ _ _ _ _ rfl rfl rfl rfl (enters_of Tryz.func23 (by kernel_rfl) rfl) w) (fun w hw => hq3 w hw) ?_
    simp only [Act.put, List.setIfInBounds_toArray, List.set_cons_succ, List.set_cons_zero]
    refine w_value (.string t) (by kernel_rfl) (fun w hw => x_move _ _ _ _ _ _ _ _ rfl w) ?_
    simp only [Act.put, List.setIfInBounds_toArray, List.set_cons_succ, List.set_cons_zero]
    refine w_value (.int .i64 cc) (by kernel_rfl) (fun w hw => x_move _ _ _ _ _ _ _ _ rfl w) ?_
    simp only [Act.put, List.setIfInBounds_toArray, List.set_cons_succ, List.set_cons_zero]
    refine w_value (.string (t.extract cc t.size)) (by kernel_rfl) (fun w hw => x_strFrom _ _ _ _ _ _ _ _ t cc rfl rfl hcc w) ?_
    simp only [Act.put, List.setIfInBounds_toArray, List.set_cons_succ, List.set_cons_zero]
    refine w_call hG 23 #[PT p, .int .i64 i1, .string (t.extract cc t.size)] (.int .i64 i2) (by kernel_rfl) (fun w => x_call3 _ _ _ _ _ _ _ _ _ _ _ _ _ _ _ _ rfl rfl rfl rfl (enters_of Tryz.func23 (by kernel_rfl) rfl) w) (fun w hw => hq4 w hw) ?_
    simp only [Act.put, List.setIfInBounds_toArray, List.set_cons_succ, List.set_cons_zero]
    refine w_value (PT p) (by kernel_rfl) (fun w hw => x_move _ _ _ _ _ _ _ _ rfl w) ?_
    simp only [Act.put, List.setIfInBounds_toArray, List.set_cons_succ, List.set_cons_zero]
    refine w_value (.string t) (by kernel_rfl) (fun w hw => x_move _ _ _ _ _ _ _ _ rfl w) ?_
    simp only [Act.put, List.setIfInBounds_toArray, List.set_cons_succ, List.set_cons_zero]
    refine w_call hG 23 #[PT p, .int .i64 0, .string t] (.int .i64 i2) (by kernel_rfl) (fun w => x_call3 _ _ _ _ _ _ _ _ _ _ _ _ _ _ _ _ rfl rfl rfl rfl (enters_of Tryz.func23 (by kernel_rfl) rfl) w) (fun w hw => hq5 w hw) ?_
    simp only [Act.put, List.setIfInBounds_toArray, List.set_cons_succ, List.set_cons_zero]
    refine w_value (.bool true) (by kernel_rfl) (fun w hw => x_eqIntB _ _ _ _ _ _ _ _ i2 i2 true (by simp) rfl rfl w) ?_
    simp only [Act.put, List.setIfInBounds_toArray, List.set_cons_succ, List.set_cons_zero]
    refine w_value (.bool true) (by kernel_rfl) (fun w hw => x_pick _ _ _ _ _ _ _ _ _ true (.bool true) (.bool false) rfl rfl rfl w) ?_
    simp only [Act.put, List.setIfInBounds_toArray, List.set_cons_succ, List.set_cons_zero]
    refine w_value (.bool true) (by kernel_rfl) (fun w hw => x_move _ _ _ _ _ _ _ _ rfl w) ?_
    simp only [Act.put, List.setIfInBounds_toArray, List.set_cons_succ, List.set_cons_zero]
    refine w_value (PT p) (by kernel_rfl) (fun w hw => x_move _ _ _ _ _ _ _ _ rfl w) ?_
    simp only [Act.put, List.setIfInBounds_toArray, List.set_cons_succ, List.set_cons_zero]
    refine w_call hG 23 #[PT p, .int .i64 0, .string ⟨#[]⟩] (.int .i64 0) (by kernel_rfl) (fun w => x_call3 _ _ _ _ _ _ _ _ _ _ _ _ _ _ _ _ rfl rfl rfl rfl (enters_of Tryz.func23 (by kernel_rfl) rfl) w) (fun w hw => hq6 w hw) ?_
    simp only [Act.put, List.setIfInBounds_toArray, List.set_cons_succ, List.set_cons_zero]
    refine w_value (.bool true) (by kernel_rfl) (fun w hw => x_eqIntB _ _ _ _ _ _ _ _ 0 0 true rfl rfl rfl w) ?_
    simp only [Act.put, List.setIfInBounds_toArray, List.set_cons_succ, List.set_cons_zero]
    refine w_value (.bool true) (by kernel_rfl) (fun w hw => x_pick _ _ _ _ _ _ _ _ _ true (.bool true) (.bool false) rfl rfl rfl w) ?_
    simp only [Act.put, List.setIfInBounds_toArray, List.set_cons_succ, List.set_cons_zero]
    refine w_value (.bool true) (by kernel_rfl) (fun w hw => x_assign _ _ _ _ _ _ _ _ rfl w) ?_
    simp only [Act.put, List.setIfInBounds_toArray, List.set_cons_succ, List.set_cons_zero]
    refine w_nil ?_
    intro W hW
    have HW := hide (HB6.out.trans ((HCB.out W hW).mono hsB6))
    clear hG hqS hq1 hq2 hq3 hq4 hq5 hq6
    go_wp2
    go_ret
    exact ⟨rfl, HB.out ▸ HW.out⟩
theorem dfaTexts_all (v v1 : Value) (s : SHP) (n : Nat) (cut : Int) (hcut : -9223372036854775808 ≤ cut ∧ cut ≤ 9223372036854775807) (w : World) (hv : ∃ cs, v = ShVal cs ∧ ShC w cs s) (hv1 : IntRow w v1 n) (hT : TabAt w) :
    Calls Tryz.prog 4 #[v, v1, .int .i64 cut] w fun e w' => e = .returned (.bool true) ∧ Below w.heap.size w w' := by
  obtain ⟨cs, rfl, hs⟩ := hv
  exact dfaTexts_any cs s v1 n cut hcut w hs hv1 hT
end Go.Proofs.YtaljhelldobghaaGreatDoor
/- DfaTexts answers true for every shape, row of numbers and number: a Dfa has just the expression's texts, and a text run in two parts comes to the same. Conditions: the table of math/bits holds what its initialiser lays (the card ties that to the program's text). -/
namespace Go.Proofs.YtaljhelldobghaaGreatDoor
set_option maxRecDepth 100000
open Go.ChangeShapes Go.WideShapes Go.ChangeAt Go.WideMaps Go.WideElems Go.RowKit

set_option maxRecDepth 100000 in
theorem dfaTexts_lifted (os : Os) (started : os.Started) (H : Type) (enc : TypeId × Value → H) :
    ReturnsInHanded {} Tryz.checked os 4 .any (fun w args => (Rows.dfaTextsSpec.pre enc Tryz.prog Tryz.f4 [] false w args ∧ laidMetH Tryz.prog [("math/bits.deBruijn64tab", Rows.laid_math_bits_deBruijn64tab)] w) ∧ sizedMet enc Tryz.prog Tryz.f4 (OpenSpec.ofChange Rows.dfaTextsSpec) false w args)
      (Rows.dfaTextsSpec.post enc Tryz.prog Tryz.f4 false true false false) := by
  refine returnsInHanded_of_change_and (C := Tryz.checked) (X := fun w _ => laidMetH Tryz.prog [("math/bits.deBruijn64tab", Rows.laid_math_bits_deBruijn64tab)] w) (fun _ _ _ hh h => h.of_heap hh) own started (by kernel_rfl) Tryz.func4
    (ChangeSpec.witness_shaped (enc := enc) (C := Tryz.checked) (os := os) (X := fun w _ => laidMetH Tryz.prog [("math/bits.deBruijn64tab", Rows.laid_math_bits_deBruijn64tab)] w) false (World.doorLaid Tryz.prog 400 os)
      #[.agg #[.int .i64 0, .int .u8 0, .int .u8 0, .string ⟨#[]⟩, .slice none 0 0], .slice none 0 0, .int .i64 0] 8 rfl (World.shaped_of_RefB (by kernel_rfl) (by kernel_rfl)) (by kernel_rfl) (by kernel_rfl) (by kernel_rfl) (door_met os _)) ?_
  intro W base args ds gs before hval0 hW _ _ hL _
  have hval : ∀ (j : Nat) t v, Tryz.f4.params[j]? = some t → args[j]? = some v → Value.okWide Tryz.prog W .any base t v := hval0
  have hW' := hW
  obtain ⟨p, q, hA0, hV, rfl, hfz, hnd⟩ := hW
  have hA : DataW.TrodAll enc Tryz.prog W 0 (fun _ => true) true Tryz.f4.params.toList args.toList ds p := hA0
  rw [Tryz.params4] at hA hval
  obtain ⟨v0, v1, v2, d0, d1, d2, p0, p1, p2, rfl, rfl, rfl, h0, h1, h2⟩ := trodAll_three hA
  obtain ⟨rfl, rfl⟩ := trodVars_none hV
  have k0 := h0
  have lt0 : ∀ x ∈ p0, x.block < W.heap.size := by obtain ⟨m, hm⟩ := k0; exact DataW.trod_lt m _ _ _ hm
  obtain ⟨z0, hz0⟩ := open_shape (hval 0 24 v0 rfl rfl) h0
  have k1 := h1
  have lt1 : ∀ x ∈ p1, x.block < W.heap.size := by obtain ⟨m, hm⟩ := k1; exact DataW.trod_lt m _ _ _ hm
  obtain ⟨z1, hz1⟩ := open_introw (hval 1 41 v1 rfl rfl) h1
  have k2 := h2
  obtain ⟨i2, rfl, rfl, rfl, w2⟩ := open_int Tryz.underlying3 (hval 2 3 v2 rfl rfl) h2
  have b2 := bounds_i64 w2
  have hT := tab_of_laid hL
  clear hA0 hval0
  refine (dfaTexts_all v0 v1 z0 z1 i2 b2 W hz0 hz1 hT).mono fun e W' ⟨he, hb⟩ => ?_
  subst he
  exact ⟨_, rfl, _, _, _, [], _, [], hW', trodAll_mk1 (shut_bool Tryz.underlying4 _), trodAll_mk3 (Below.trod laidOut (by kernel_rfl) (of_decide_eq_true (by kernel_rfl)) k0 hb lt0) (Below.trod laidOut (by kernel_rfl) (of_decide_eq_true (by kernel_rfl)) k1 hb lt1) (shut_int Tryz.underlying3 w2), rfl, hb.frame _, fun h => by cases h⟩

theorem dfaTexts_said : Rows.DfaTextsSaid :=
  OpenClaim.holds_of_wide 4 Tryz.f4 rfl rfl rfl rfl rfl rfl rfl ⟨rfl, rfl, rfl, rfl, rfl⟩ rfl rfl rfl rfl rfl (by kernel_rfl) Tryz.func4 (by kernel_rfl)
    (of_decide_eq_true (by kernel_rfl)) (by unfold Func.isWrapper; first | (rw [if_pos (by decide +kernel)]; kernel_rfl) | (rw [if_neg (by decide +kernel)]; exact ⟨rfl, rfl⟩))
    (fun os started H enc _ => dfaTexts_lifted os started H enc)

theorem dfaTexts_card : Rows.DfaTextsCardSaid :=
  Claim7.holds_tied_plain_at .later [] [.data] true Rows.dfaTextsCard.stood.harness false
    dfaTexts_said (fun _ h => by cases h) (by kernel_rfl) (fun _ h => by cases h) dfaTexts_row_tie rfl ⟨rfl, rfl⟩ (by kernel_rfl) rfl
    (fun f fn hf hfn => by
      obtain rfl : f = 4 := Option.some.inj ((show Tryz.prog.funcNamed "periscope/periscopelaw06.DfaTexts" = some 4 by kernel_rfl).symm.trans hf) |>.symm
      obtain rfl : fn = Tryz.f4 := (Option.some.inj (Tryz.func4.symm.trans hfn)).symm
      exact ⟨by kernel_rfl, fun j t ht => by
        rw [Tryz.params4] at ht
        have hm : t ∈ [24, 41, 3] := by simpa using Array.mem_of_getElem? ht
        have hall : ([24, 41, 3].all fun u => !Tryz.prog.wantsStandIn u) = true := by kernel_rfl
        exact (show Tryz.prog.wantsStandIn t = false by simpa using List.all_eq_true.1 hall t hm)⟩)
    (by kernel_rfl)
#print axioms dfaTexts_card
end Go.Proofs.YtaljhelldobghaaGreatDoor
