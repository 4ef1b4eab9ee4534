/- LensWords answers true for every op and text: the op's word is the page's, and a text quoted is what the page says. Conditions: the table of math/bits and the words of package lens hold what their initialisers lay (the card ties that to the program's text). -/
/- Texts of this claim put together: LawLensWords, OpenStr, ProofLensWords. -/
import Derived.Test.YtblpekljiilkjaaGreatDoorJoinTmF
import Derived.Test.YtblpekljiilkjaaGreatDoorJoinTwB
import Derived.Test.YtblpekljiilkjaaGreatDoorCards
import Derived.Test.YtblpekljiilkjaaGreatDoorTie
/- LensWords: each op's word; texts quoted. -/
namespace Go.Proofs.YtblpekljiilkjaaGreatDoor
set_option maxRecDepth 100000
set_option linter.unusedSimpArgs false
set_option linter.unusedVariables false
open Go.RowKit Go.Shelf

theorem list18 : (#[.string ⟨#[]⟩, .string ⟨#[]⟩, .string ⟨#[99, 111, 112, 121]⟩, .string ⟨#[107, 101, 121]⟩, .string ⟨#[99, 111, 110, 115, 116]⟩, .string ⟨#[100, 101, 108]⟩, .string ⟨#[105, 110, 115]⟩, .string ⟨#[]⟩, .string ⟨#[]⟩, .string ⟨#[]⟩, .string ⟨#[115, 119, 97, 112]⟩, .string ⟨#[]⟩, .string ⟨#[105, 110, 118]⟩, .string ⟨#[100, 105, 99, 116]⟩, .string ⟨#[108, 101, 102, 116]⟩, .string ⟨#[114, 105, 103, 104, 116]⟩, .string ⟨#[107, 101, 101, 112]⟩, .string ⟨#[110, 111, 114, 109]⟩] : Array Value) = ((List.range 18).map fun j => Value.string (strB (wordT j))).toArray := by kernel_rfl
theorem list18_at (w : World) (n : Nat) (hn : n < 18) : (w.alloc (.cells #[.string ⟨#[]⟩, .string ⟨#[]⟩, .string ⟨#[99, 111, 112, 121]⟩, .string ⟨#[107, 101, 121]⟩, .string ⟨#[99, 111, 110, 115, 116]⟩, .string ⟨#[100, 101, 108]⟩, .string ⟨#[105, 110, 115]⟩, .string ⟨#[]⟩, .string ⟨#[]⟩, .string ⟨#[]⟩, .string ⟨#[115, 119, 97, 112]⟩, .string ⟨#[]⟩, .string ⟨#[105, 110, 118]⟩, .string ⟨#[100, 105, 99, 116]⟩, .string ⟨#[108, 101, 102, 116]⟩, .string ⟨#[114, 105, 103, 104, 116]⟩, .string ⟨#[107, 101, 101, 112]⟩, .string ⟨#[110, 111, 114, 109]⟩] 9)).cell? ⟨w.heap.size, n, none⟩ = some (.string (strB (wordT n))) := by
  rw [(Blk.newAt (w := w) rfl _ _).cell, list18]
  simp [hn]

set_option maxHeartbeats 4000000 in
theorem lensWords_any (o : Int) (ho : -9223372036854775808 ≤ o ∧ o ≤ 9223372036854775807) (s : ByteArray) (w : World) (hT : TabAt w) (hD : WordsAt w) :
    Calls Tryz.prog 6 #[.int .i64 o, .string s] w fun e w' => e = .returned (.bool true) ∧ Below w.heap.size w w' := by
  have HT := hide hT
  have HDW := hide hD
  have HO := hide ho
  clear hT hD ho
  go_enter Tryz.func6, Tryz.ntmps6
  go_wp2_with fail
  refine (head10_any w HT.out HDW.out).mono ?_
  rintro e w1 ⟨rfl, hb1⟩
  have HB1 := hide hb1
  clear hb1
  by_cases hs : 100 < s.size
  · have hd : decide ((100 : Int) < s.size) = true := by simp; omega
    have hd2 : decide (100 < s.size) = true := by simp [hs]
    go_wp2
    go_ret
    exact ⟨rfl, HB1.out⟩
  · have hd : decide ((100 : Int) < s.size) = false := by simp; omega
    have hd2 : decide (100 < s.size) = false := by simp; omega
    have HQ : Hid (∀ W, Calls Tryz.prog 26 #[.string s] W fun e w' => e = .returned (.string (strB (quoteT s))) ∧ Below W.heap.size W w') := fun W => quote_any s (by omega) W
    have HLQ : Hid (∀ W, Calls Tryz.prog 27 #[.string s] W fun e w' => e = .returned (.string (strB (quoteT s))) ∧ Below W.heap.size W w') := fun W => lquote_any s (by omega) W
    obtain ⟨Q, hQ⟩ : ∃ Q, Q = strB (quoteT s) := ⟨_, rfl⟩
    rw [← hQ] at HQ HLQ
    clear hQ hs
    have hbl := (Below.refl w1.heap.size w1).alloc (Nat.le_refl _) (.cells #[.string ⟨#[]⟩, .string ⟨#[]⟩, .string ⟨#[99, 111, 112, 121]⟩, .string ⟨#[107, 101, 121]⟩, .string ⟨#[99, 111, 110, 115, 116]⟩, .string ⟨#[100, 101, 108]⟩, .string ⟨#[105, 110, 115]⟩, .string ⟨#[]⟩, .string ⟨#[]⟩, .string ⟨#[]⟩, .string ⟨#[115, 119, 97, 112]⟩, .string ⟨#[]⟩, .string ⟨#[105, 110, 118]⟩, .string ⟨#[100, 105, 99, 116]⟩, .string ⟨#[108, 101, 102, 116]⟩, .string ⟨#[114, 105, 103, 104, 116]⟩, .string ⟨#[107, 101, 101, 112]⟩, .string ⟨#[110, 111, 114, 109]⟩] 9)
    by_cases hin : 0 ≤ o ∧ o < 18
    · obtain ⟨n, rfl⟩ := Int.eq_ofNat_of_zero_le hin.1
      have hn : n < 18 := by omega
      have hc := list18_at w1 n hn
      have e0 : decide ((0 : Int) ≤ (n : Int)) = true := by simp
      have e1 : decide ((n : Int) < 18) = true := by simp; omega
      have e2 : decide (n < 18) = true := by simp [hn]
      have HW := hide (wordOp_any n hn _ (HDW.out.on (HB1.out.trans (hbl.mono HB1.out.size))))
      have HBL := hide (HB1.out.alloc HB1.out.size (.cells #[.string ⟨#[]⟩, .string ⟨#[]⟩, .string ⟨#[99, 111, 112, 121]⟩, .string ⟨#[107, 101, 121]⟩, .string ⟨#[99, 111, 110, 115, 116]⟩, .string ⟨#[100, 101, 108]⟩, .string ⟨#[105, 110, 115]⟩, .string ⟨#[]⟩, .string ⟨#[]⟩, .string ⟨#[]⟩, .string ⟨#[115, 119, 97, 112]⟩, .string ⟨#[]⟩, .string ⟨#[105, 110, 118]⟩, .string ⟨#[100, 105, 99, 116]⟩, .string ⟨#[108, 101, 102, 116]⟩, .string ⟨#[114, 105, 103, 104, 116]⟩, .string ⟨#[107, 101, 101, 112]⟩, .string ⟨#[110, 111, 114, 109]⟩] 9))
      obtain ⟨wd, hwd⟩ : ∃ wd, wd = strB (wordT n) := ⟨_, rfl⟩
      rw [← hwd] at HW hc
      clear hin hbl HB1 HO hwd
      go_wp2_with fail
      refine HW.out.mono ?_
      rintro e w3 ⟨rfl, rfl⟩
      clear HW hc
      generalize hg : (w1.alloc (.cells #[.string ⟨#[]⟩, .string ⟨#[]⟩, .string ⟨#[99, 111, 112, 121]⟩, .string ⟨#[107, 101, 121]⟩, .string ⟨#[99, 111, 110, 115, 116]⟩, .string ⟨#[100, 101, 108]⟩, .string ⟨#[105, 110, 115]⟩, .string ⟨#[]⟩, .string ⟨#[]⟩, .string ⟨#[]⟩, .string ⟨#[115, 119, 97, 112]⟩, .string ⟨#[]⟩, .string ⟨#[105, 110, 118]⟩, .string ⟨#[100, 105, 99, 116]⟩, .string ⟨#[108, 101, 102, 116]⟩, .string ⟨#[114, 105, 103, 104, 116]⟩, .string ⟨#[107, 101, 101, 112]⟩, .string ⟨#[110, 111, 114, 109]⟩] 9)) = w3 at *
      go_wp2_with fail
      refine (HQ.out _).mono ?_
      rintro e w4 ⟨rfl, hb4⟩
      have HB4 := hide (HBL.out.trans (hb4.mono HBL.out.size))
      clear hb4
      go_wp2_with fail
      refine (HLQ.out _).mono ?_
      rintro e w5 ⟨rfl, hb5⟩
      have HB5 := hide (HB4.out.trans (hb5.mono HB4.out.size))
      clear hb5
      go_wp2
      go_ret
      exact ⟨rfl, HB5.out⟩
    · have HBL := hide (HB1.out.alloc HB1.out.size (.cells #[.string ⟨#[]⟩, .string ⟨#[]⟩, .string ⟨#[99, 111, 112, 121]⟩, .string ⟨#[107, 101, 121]⟩, .string ⟨#[99, 111, 110, 115, 116]⟩, .string ⟨#[100, 101, 108]⟩, .string ⟨#[105, 110, 115]⟩, .string ⟨#[]⟩, .string ⟨#[]⟩, .string ⟨#[]⟩, .string ⟨#[115, 119, 97, 112]⟩, .string ⟨#[]⟩, .string ⟨#[105, 110, 118]⟩, .string ⟨#[100, 105, 99, 116]⟩, .string ⟨#[108, 101, 102, 116]⟩, .string ⟨#[114, 105, 103, 104, 116]⟩, .string ⟨#[107, 101, 101, 112]⟩, .string ⟨#[110, 111, 114, 109]⟩] 9))
      have HW : Hid (∀ W, Calls Tryz.prog 25 #[.int .i64 o] W fun e w' => e = .returned (.string ⟨#[]⟩) ∧ w' = W) := fun W => wordOp_off o HO.out (by omega) W
      clear hbl HB1
      by_cases h0 : o < 0
      · have e0 : decide ((0 : Int) ≤ o) = false := by simp; omega
        go_wp2_with fail
        refine (HW.out _).mono ?_
        rintro e w3 ⟨rfl, rfl⟩
        go_wp2_with fail
        refine (HQ.out _).mono ?_
        rintro e w4 ⟨rfl, hb4⟩
        have HB4 := hide (HBL.out.trans (hb4.mono HBL.out.size))
        clear hb4
        go_wp2_with fail
        refine (HLQ.out _).mono ?_
        rintro e w5 ⟨rfl, hb5⟩
        have HB5 := hide (HB4.out.trans (hb5.mono HB4.out.size))
        clear hb5
        go_wp2
        go_ret
        exact ⟨rfl, HB5.out⟩
      · have e0 : decide ((0 : Int) ≤ o) = true := by simp; omega
        have e1 : decide (o < 18) = false := by simp; omega
        go_wp2_with fail
        refine (HW.out _).mono ?_
        rintro e w3 ⟨rfl, rfl⟩
        go_wp2_with fail
        refine (HQ.out _).mono ?_
        rintro e w4 ⟨rfl, hb4⟩
        have HB4 := hide (HBL.out.trans (hb4.mono HBL.out.size))
        clear hb4
        go_wp2_with fail
        refine (HLQ.out _).mono ?_
        rintro e w5 ⟨rfl, hb5⟩
        have HB5 := hide (HB4.out.trans (hb5.mono HB4.out.size))
        clear hb5
        go_wp2
        go_ret
        exact ⟨rfl, HB5.out⟩
theorem lensWords_all (o : Int) (ho : -9223372036854775808 ≤ o ∧ o ≤ 9223372036854775807) (v : Value) (s : ByteArray) (hs : v = .string s ∧ s.size ≤ 9223372036854775807) (w : World) (hT : TabAt w) (hD : WordsAt w) :
    Calls Tryz.prog 6 #[.int .i64 o, v] w fun e w' => e = .returned (.bool true) ∧ Below w.heap.size w w' := by
  obtain ⟨rfl, -⟩ := hs
  exact lensWords_any o ho s w hT hD
end Go.Proofs.YtblpekljiilkjaaGreatDoor
/- A string that came in. -/
namespace Go.Proofs.YtblpekljiilkjaaGreatDoor
set_option maxRecDepth 100000
set_option linter.unusedSimpArgs false
set_option linter.unusedVariables false
open Go.RowKit

section
open Go.ChangeShapes Go.WideShapes Go.ChangeAt Go.WideMaps Go.WideElems
theorem open_str {H : Type} {enc : TypeId × Value → H} {w : World} {r : Reach} {b0 base : Nat} {sp : Nat → Bool} {held : Bool} {v : Value} {d : DataW H} {p : List MemPlace}
    (hv : Value.okWide Tryz.prog w r b0 9 v) (h : DataW.Trod enc Tryz.prog w base sp held 9 v d p) : ∃ s : ByteArray, v = .string s ∧ s.size ≤ 9223372036854775807 := by
  obtain ⟨s, rfl⟩ := okWide_string Tryz.underlying9 hv
  obtain ⟨fuel, hf⟩ := h
  refine ⟨s, rfl, ?_⟩
  cases fuel with
  | zero => simp [DataW.trod] at hf
  | succ m =>
    unfold DataW.trod at hf
    rw [Tryz.underlying9] at hf
    simp [Value.cells] at hf
    have := hf.1
    unfold maxLen at this
    omega
end
end Go.Proofs.YtblpekljiilkjaaGreatDoor
/- LensWords answers true for every op and text: the op's word is the page's, and a text quoted is what the page says. Conditions: the table of math/bits and the words of package lens hold what their initialisers lay (the card ties that to the program's text). -/
namespace Go.Proofs.YtblpekljiilkjaaGreatDoor
set_option maxRecDepth 100000
open Go.ChangeShapes Go.WideShapes Go.ChangeAt Go.WideMaps Go.WideElems Go.RowKit

set_option maxRecDepth 100000 in
theorem lensWords_lifted (os : Os) (started : os.Started) (H : Type) (enc : TypeId × Value → H) :
    ReturnsInHanded {} Tryz.checked os 6 .any (fun w args => (Rows.lensWordsSpec.pre enc Tryz.prog Tryz.f6 [] false w args ∧ laidMetH Tryz.prog [("math/bits.deBruijn64tab", Rows.laid_math_bits_deBruijn64tab), ("periscope/lens.words", Rows.laid_periscope_lens_words)] w) ∧ sizedMet enc Tryz.prog Tryz.f6 (OpenSpec.ofChange Rows.lensWordsSpec) false w args)
      (Rows.lensWordsSpec.post enc Tryz.prog Tryz.f6 false true false false) := by
  refine returnsInHanded_of_change_and (C := Tryz.checked) (X := fun w _ => laidMetH Tryz.prog [("math/bits.deBruijn64tab", Rows.laid_math_bits_deBruijn64tab), ("periscope/lens.words", Rows.laid_periscope_lens_words)] w) (fun _ _ _ hh h => h.of_heap hh) own started (by kernel_rfl) Tryz.func6
    (ChangeSpec.witness_shaped (enc := enc) (C := Tryz.checked) (os := os) (X := fun w _ => laidMetH Tryz.prog [("math/bits.deBruijn64tab", Rows.laid_math_bits_deBruijn64tab), ("periscope/lens.words", Rows.laid_periscope_lens_words)] w) false (World.doorLaid Tryz.prog 400 os)
      #[.int .i64 0, .string ⟨#[]⟩] 8 rfl (World.shaped_of_RefB (by kernel_rfl) (by kernel_rfl)) (by kernel_rfl) (by kernel_rfl) (by kernel_rfl) (door_metL os _)) ?_
  intro W base args ds gs before hval0 hW _ _ hL _
  have hval : ∀ (j : Nat) t v, Tryz.f6.params[j]? = some t → args[j]? = some v → Value.okWide Tryz.prog W .any base t v := hval0
  have hW' := hW
  obtain ⟨p, q, hA0, hV, rfl, hfz, hnd⟩ := hW
  have hA : DataW.TrodAll enc Tryz.prog W 0 (fun _ => true) true Tryz.f6.params.toList args.toList ds p := hA0
  rw [Tryz.params6] at hA hval
  obtain ⟨v0, v1, d0, d1, p0, p1, rfl, rfl, rfl, h0, h1⟩ := trodAll_two hA
  obtain ⟨rfl, rfl⟩ := trodVars_none hV
  have k0 := h0
  obtain ⟨i0, rfl, rfl, rfl, w0⟩ := open_int Tryz.underlying3 (hval 0 3 v0 rfl rfl) h0
  have b0 := bounds_i64 w0
  have k1 := h1
  have lt1 : ∀ x ∈ p1, x.block < W.heap.size := by obtain ⟨m, hm⟩ := k1; exact DataW.trod_lt m _ _ _ hm
  obtain ⟨z1, hz1⟩ := open_str (hval 1 9 v1 rfl rfl) h1
  have hT := tab_of_laidL hL
  have hD := words_of_laid hL
  clear hA0 hval0
  refine (lensWords_all i0 b0 v1 z1 hz1 W hT hD).mono fun e W' ⟨he, hb⟩ => ?_
  subst he
  exact ⟨_, rfl, _, _, _, [], _, [], hW', trodAll_mk1 (shut_bool Tryz.underlying4 _), trodAll_mk2 (shut_int Tryz.underlying3 w0) (Below.trod laidOut (by kernel_rfl) (of_decide_eq_true (by kernel_rfl)) k1 hb lt1), rfl, hb.frame _, fun h => by cases h⟩

theorem lensWords_said : Rows.LensWordsSaid :=
  OpenClaim.holds_of_wide 6 Tryz.f6 rfl rfl rfl rfl rfl rfl rfl ⟨rfl, rfl, rfl, rfl, rfl⟩ rfl rfl rfl rfl rfl (by kernel_rfl) Tryz.func6 (by kernel_rfl)
    (of_decide_eq_true (by kernel_rfl)) (by unfold Func.isWrapper; first | (rw [if_pos (by decide +kernel)]; kernel_rfl) | (rw [if_neg (by decide +kernel)]; exact ⟨rfl, rfl⟩))
    (fun os started H enc _ => lensWords_lifted os started H enc)

theorem lensWords_card : Rows.LensWordsCardSaid :=
  Claim7.holds_tied_plain_at .later [] [.data, .data] true Rows.lensWordsCard.stood.harness false
    lensWords_said (fun _ h => by cases h) (by kernel_rfl) (fun _ h => by cases h) lensWords_row_tie rfl ⟨rfl, rfl⟩ (by kernel_rfl) rfl
    (fun f fn hf hfn => by
      obtain rfl : f = 6 := Option.some.inj ((show Tryz.prog.funcNamed "periscope/periscopelaw10.LensWords" = some 6 by kernel_rfl).symm.trans hf) |>.symm
      obtain rfl : fn = Tryz.f6 := (Option.some.inj (Tryz.func6.symm.trans hfn)).symm
      exact ⟨by kernel_rfl, fun j t ht => by
        rw [Tryz.params6] at ht
        have hm : t ∈ [3, 9] := by simpa using Array.mem_of_getElem? ht
        have hall : ([3, 9].all fun u => !Tryz.prog.wantsStandIn u) = true := by kernel_rfl
        exact (show Tryz.prog.wantsStandIn t = false by simpa using List.all_eq_true.1 hall t hm)⟩)
    (by kernel_rfl)
#print axioms lensWords_card
end Go.Proofs.YtblpekljiilkjaaGreatDoor
