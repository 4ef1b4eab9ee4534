/- LensTexts answers true for every plan of a term: the term is written as the page says. Conditions: the table of math/bits and the words of package lens hold what their initialisers lay (the card ties that to the program's text). -/
/- Texts of this claim put together: LawLensTexts, ProofLensTexts. -/
import Derived.Test.YtblpekljiilkjaaGreatDoorJoinTmM
import Derived.Test.YtblpekljiilkjaaGreatDoorJoinTwB
import Derived.Test.YtblpekljiilkjaaGreatDoorJoinPlB
import Derived.Test.YtblpekljiilkjaaGreatDoorCards
import Derived.Test.YtblpekljiilkjaaGreatDoorTie
/- LensTexts: any term as it is written. -/
namespace Go.Proofs.YtblpekljiilkjaaGreatDoor
set_option maxRecDepth 100000
set_option linter.unusedSimpArgs false
set_option linter.unusedVariables false
open Go.RowKit Go.Shelf

set_option maxHeartbeats 4000000 in
theorem lensTexts_any (s : PL) (cs : List Value) (w : World) (h : PlC w cs s) (hT : TabAt w) (hD : WordsAt w) :
    Calls Tryz.prog 3 #[PlVal cs] w fun e w' => e = .returned (.bool true) ∧ Below w.heap.size w w' := by
  obtain ⟨v, rfl, hr, -⟩ := h.open
  obtain ⟨hn, a, cap, rfl, -⟩ := hr.at
  have HT := hide hT
  have HDW := hide hD
  have HC := hide h
  have hb1 := (Below.refl w.heap.size w).alloc (Nat.le_refl _) (.cells #[.int .i64 s.op, .int .i64 s.wd, .int .i64 s.num, .slice a s.kids.length cap] 24)
  have hPk := Blk.newAt (w := w) rfl #[.int .i64 s.op, .int .i64 s.wd, .int .i64 s.num, .slice a s.kids.length cap] 24
  have HB1 := hide hb1
  have HPK := hide hPk
  have HFEW : Hid (∀ W, Below w.heap.size w W → Calls Tryz.prog 13 #[PlVal [.int .i64 s.op, .int .i64 s.wd, .int .i64 s.num, .slice a s.kids.length cap]] W fun e w' => ∃ c : Bool, e = .returned (.bool c) ∧ (c = true → s.nodes ≤ 30) ∧ Below W.heap.size W w') := fun W hW => pfew_any s _ W (h.keep hW)
  have HMK : Hid (∀ W, Below w.heap.size w W → Calls Tryz.prog 14 #[PlVal [.int .i64 s.op, .int .i64 s.wd, .int .i64 s.num, .slice a s.kids.length cap]] W fun e w' => ∃ p, e = .returned (PT p) ∧ TmAt w' p s.tm ∧ Below W.heap.size W w') := fun W hW => make_any s _ W (h.keep hW) (hT.onS hW)
  clear h hr hT hD hb1 hPk hn
  unfold PlVal at HFEW HMK ⊢
  go_enter Tryz.func3, Tryz.ntmps3
  go_wp2_with fail
  refine (head10_any _ (HT.out.onS HB1.out) (HDW.out.on HB1.out)).mono ?_
  rintro e w1 ⟨rfl, hb⟩
  have HP1 := hide (HPK.out.below hb HPK.out.lt)
  have HL1 := hide (HB1.out.trans (hb.mono HB1.out.size))
  clear hb
  have q0 := HP1.out.cell 0
  have q1 := HP1.out.cell 1
  have q2 := HP1.out.cell 2
  have q3 := HP1.out.cell 3
  simp only [List.getElem?_toArray, List.getElem?_cons_zero, List.getElem?_cons_succ] at q0 q1 q2 q3
  go_wp2_with fail
  refine (HFEW.out w1 HL1.out).mono ?_
  rintro e w2 ⟨few, rfl, hfew, hb⟩
  have HP2 := hide (HP1.out.below hb HP1.out.lt)
  have HL2 := hide (HL1.out.trans (hb.mono HL1.out.size))
  have HF := hide hfew
  clear hb hfew q0 q1 q2 q3 HFEW
  cases few with
  | false =>
    go_wp2
    go_ret
    exact ⟨rfl, HL2.out⟩
  | true =>
    have hn30 := HF.out rfl
    have q0 := HP2.out.cell 0
    have q1 := HP2.out.cell 1
    have q2 := HP2.out.cell 2
    have q3 := HP2.out.cell 3
    simp only [List.getElem?_toArray, List.getElem?_cons_zero, List.getElem?_cons_succ] at q0 q1 q2 q3
    go_wp2_with fail
    refine (HMK.out w2 HL2.out).mono ?_
    rintro e w3 ⟨p, rfl, ht, hb⟩
    have HL3 := hide (HL2.out.trans (hb.mono HL2.out.size))
    have HTM := hide ht
    have hlen : s.tm.txt.length ≤ 6000 := by have := tm_len s; omega
    have hsz : s.tm.sz ≤ 90 := by have := pl_sz s; omega
    have hsp := sz_pos s.tm
    have HST := hide (string_any s.tm p w3 s.tm_wf ht (by omega) (HT.out.onS HL3.out) (HDW.out.on HL3.out))
    have HWR : Hid (∀ W, Below w3.heap.size w3 W → Calls Tryz.prog 16 #[PT p] W fun e w' => e = .returned (.string (strB s.tm.txt)) ∧ Below W.heap.size W w') := fun W hW => write_any s.tm s.tm_wf p W (HTM.out.keep hW) (by omega) ((HT.out.onS HL3.out).onS hW)
    have HSZ : Hid (∀ W, Below w3.heap.size w3 W → Calls Tryz.prog 17 #[PT p] W fun e w' => e = .returned (.int .i64 s.tm.sz) ∧ Below W.heap.size W w') := fun W hW => sizeT_any s.tm p W (HTM.out.keep hW) (by omega)
    obtain ⟨T, hTT⟩ : ∃ T, T = strB s.tm.txt := ⟨_, rfl⟩
    rw [← hTT] at HST HWR
    generalize s.tm.sz = z at *
    have hz1 : decide ((1 : Int) ≤ z) = true := by simp; omega
    have hz2 : decide (1 ≤ z) = true := by simp [hsp]
    clear hb ht hTT hlen q0 q1 q2 q3 HMK hn30 HF
    unfold PT at HST HWR HSZ ⊢
    go_wp2_with fail
    refine HST.out.mono ?_
    rintro e w4 ⟨rfl, hb4⟩
    have HB4 := hide hb4
    clear hb4 HST
    go_wp2_with fail
    refine (HWR.out w4 HB4.out).mono ?_
    rintro e w5 ⟨rfl, hb⟩
    have HB5 := hide (HB4.out.trans (hb.mono HB4.out.size))
    clear hb HWR HB4
    go_wp2_with fail
    refine (HSZ.out w5 HB5.out).mono ?_
    rintro e w6 ⟨rfl, hb⟩
    have HB6 := hide (HB5.out.trans (hb.mono HB5.out.size))
    clear hb HSZ HB5
    go_wp2_with fail
    refine (string_nil w6).mono ?_
    rintro e w7 ⟨rfl, hb⟩
    have HB7 := hide (HB6.out.trans (hb.mono HB6.out.size))
    clear hb HB6
    go_wp2_with fail
    refine (size_nil w7).mono ?_
    rintro e w8 ⟨rfl, rfl⟩
    go_wp2
    go_ret
    exact ⟨rfl, HL3.out.trans (HB7.out.mono HL3.out.size)⟩
theorem lensTexts_all (v : Value) (s : PL) (w : World) (hs : ∃ cs, v = PlVal cs ∧ PlC w cs s) (hT : TabAt w) (hD : WordsAt w) :
    Calls Tryz.prog 3 #[v] w fun e w' => e = .returned (.bool true) ∧ Below w.heap.size w w' := by
  obtain ⟨cs, rfl, h⟩ := hs
  exact lensTexts_any s cs w h hT hD
end Go.Proofs.YtblpekljiilkjaaGreatDoor
/- LensTexts answers true for every plan of a term: the term is written as the page says. Conditions: the table of math/bits and the words of package lens hold what their initialisers lay (the card ties that to the program's text). -/
namespace Go.Proofs.YtblpekljiilkjaaGreatDoor
set_option maxRecDepth 100000
open Go.ChangeShapes Go.WideShapes Go.ChangeAt Go.WideMaps Go.WideElems Go.RowKit

set_option maxRecDepth 100000 in
theorem lensTexts_lifted (os : Os) (started : os.Started) (H : Type) (enc : TypeId × Value → H) :
    ReturnsInHanded {} Tryz.checked os 3 .any (fun w args => (Rows.lensTextsSpec.pre enc Tryz.prog Tryz.f3 [] false w args ∧ laidMetH Tryz.prog [("math/bits.deBruijn64tab", Rows.laid_math_bits_deBruijn64tab), ("periscope/lens.words", Rows.laid_periscope_lens_words)] w) ∧ sizedMet enc Tryz.prog Tryz.f3 (OpenSpec.ofChange Rows.lensTextsSpec) false w args)
      (Rows.lensTextsSpec.post enc Tryz.prog Tryz.f3 false true false false) := by
  refine returnsInHanded_of_change_and (C := Tryz.checked) (X := fun w _ => laidMetH Tryz.prog [("math/bits.deBruijn64tab", Rows.laid_math_bits_deBruijn64tab), ("periscope/lens.words", Rows.laid_periscope_lens_words)] w) (fun _ _ _ hh h => h.of_heap hh) own started (by kernel_rfl) Tryz.func3
    (ChangeSpec.witness_shaped (enc := enc) (C := Tryz.checked) (os := os) (X := fun w _ => laidMetH Tryz.prog [("math/bits.deBruijn64tab", Rows.laid_math_bits_deBruijn64tab), ("periscope/lens.words", Rows.laid_periscope_lens_words)] w) false (World.doorLaid Tryz.prog 400 os)
      #[.agg #[.int .i64 0, .int .i64 0, .int .i64 0, .slice none 0 0]] 8 rfl (World.shaped_of_RefB (by kernel_rfl) (by kernel_rfl)) (by kernel_rfl) (by kernel_rfl) (by kernel_rfl) (door_metL os _)) ?_
  intro W base args ds gs before hval0 hW _ _ hL _
  have hval : ∀ (j : Nat) t v, Tryz.f3.params[j]? = some t → args[j]? = some v → Value.okWide Tryz.prog W .any base t v := hval0
  have hW' := hW
  obtain ⟨p, q, hA0, hV, rfl, hfz, hnd⟩ := hW
  have hA : DataW.TrodAll enc Tryz.prog W 0 (fun _ => true) true Tryz.f3.params.toList args.toList ds p := hA0
  rw [Tryz.params3] at hA hval
  obtain ⟨v0, d0, rfl, rfl, h0⟩ := trodAll_one hA
  obtain ⟨rfl, rfl⟩ := trodVars_none hV
  have k0 := h0
  have lt0 : ∀ x ∈ p, x.block < W.heap.size := by obtain ⟨m, hm⟩ := k0; exact DataW.trod_lt m _ _ _ hm
  obtain ⟨z0, hz0⟩ := open_plan (hval 0 24 v0 rfl rfl) h0
  have hT := tab_of_laidL hL
  have hD := words_of_laid hL
  clear hA0 hval0
  refine (lensTexts_all v0 z0 W hz0 hT hD).mono fun e W' ⟨he, hb⟩ => ?_
  subst he
  exact ⟨_, rfl, _, _, _, [], _, [], hW', trodAll_mk1 (shut_bool Tryz.underlying4 _), trodAll_mk1 (Below.trod laidOut (by kernel_rfl) (of_decide_eq_true (by kernel_rfl)) k0 hb lt0), rfl, hb.frame _, fun h => by cases h⟩

theorem lensTexts_said : Rows.LensTextsSaid :=
  OpenClaim.holds_of_wide 3 Tryz.f3 rfl rfl rfl rfl rfl rfl rfl ⟨rfl, rfl, rfl, rfl, rfl⟩ rfl rfl rfl rfl rfl (by kernel_rfl) Tryz.func3 (by kernel_rfl)
    (of_decide_eq_true (by kernel_rfl)) (by unfold Func.isWrapper; first | (rw [if_pos (by decide +kernel)]; kernel_rfl) | (rw [if_neg (by decide +kernel)]; exact ⟨rfl, rfl⟩))
    (fun os started H enc _ => lensTexts_lifted os started H enc)

theorem lensTexts_card : Rows.LensTextsCardSaid :=
  Claim7.holds_tied_plain_at .later [] [.data, .data] true Rows.lensTextsCard.stood.harness false
    lensTexts_said (fun _ h => by cases h) (by kernel_rfl) (fun _ h => by cases h) lensTexts_row_tie rfl ⟨rfl, rfl⟩ (by kernel_rfl) rfl
    (fun f fn hf hfn => by
      obtain rfl : f = 3 := Option.some.inj ((show Tryz.prog.funcNamed "periscope/periscopelaw10.LensTexts" = some 3 by kernel_rfl).symm.trans hf) |>.symm
      obtain rfl : fn = Tryz.f3 := (Option.some.inj (Tryz.func3.symm.trans hfn)).symm
      exact ⟨by kernel_rfl, fun j t ht => by
        rw [Tryz.params3] at ht
        have hm : t ∈ [24] := by simpa using Array.mem_of_getElem? ht
        have hall : ([24].all fun u => !Tryz.prog.wantsStandIn u) = true := by kernel_rfl
        exact (show Tryz.prog.wantsStandIn t = false by simpa using List.all_eq_true.1 hall t hm)⟩)
    (by kernel_rfl)
#print axioms lensTexts_card
end Go.Proofs.YtblpekljiilkjaaGreatDoor
