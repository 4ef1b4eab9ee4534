/- TextReads answers true for every text: Read tells an error of three, within the text, or an expression whose own text (if it is not too big, nor too deep) is read as that expression. Conditions: the table of math/bits holds what its initialiser lays (the card ties that to the program's text). -/
/- Texts of this claim put together: LawTextReads, ProofTextReads. -/
import Derived.Test.YtdbdjjjmomociaaGreatDoorJoinMathSame
import Derived.Test.YtdbdjjjmomociaaGreatDoorJoinRunQ
import Derived.Test.YtdbdjjjmomociaaGreatDoorJoinOpen
import Derived.Test.YtdbdjjjmomociaaGreatDoorCards
import Derived.Test.YtdbdjjjmomociaaGreatDoorTie
/- TextReads: whatever text: an expression whose text is read as it is, or an error within the text. -/
namespace Go.Proofs.YtdbdjjjmomociaaGreatDoor
set_option maxRecDepth 100000
set_option linter.unusedSimpArgs false
set_option linter.unusedVariables false
open Go.RowKit Go.Shelf

theorem TabAt.pastR {w w' : World} (hT : TabAt w) (hb : Below w.heap.size w w') : TabAt w' := hT.agree (Agree.of_all (K := fun _ => True) hb) trivial
theorem same_selfR (r : RE) (p q : Nat) (w : World) (hr : Wf r) (hp : ReAt w p r) (hq : ReAt w q r) (hT : TabAt w) :
    Calls Tryz.prog 14 #[PT p, PT q] w fun e w' => e = .returned (.bool true) ∧ Below w.heap.size w w' := by
  refine (same_re r r p q w hr.k hr.k hp hq hT).mono ?_
  rintro e w' ⟨rfl, hm⟩
  exact ⟨by rw [lexN_self]; rfl, hm.below⟩
theorem drop_at (s : ByteArray) (k : Nat) (h : k < s.size) : (bytesN s).drop k = s[k].toNat :: (bytesN s).drop (k + 1) := by
  have hl : k < (bytesN s).length := by simpa [bytesN] using h
  rw [List.drop_eq_getElem_cons hl]
  congr 1
  simp [bytesN]
  rfl
theorem dps_mark1 (l : List Nat) (n m : Int) : dps (92 :: l) n m = dps (l.drop 1) n m := by
  cases l with
  | nil => exact dps_mark0 n m
  | cons y l => exact dps_mark y l n m
set_option maxHeartbeats 2000000 in
theorem deepest_any (s : ByteArray) (w : World) (hs : s.size ≤ 1000000) :
    Calls Tryz.prog 13 #[.string s] w fun e w' => e = .returned (.int .i64 (dps (bytesN s) 0 0)) ∧ w' = w := by
  obtain ⟨D, hD⟩ : ∃ D, D = dps (bytesN s) 0 0 := ⟨_, rfl⟩
  rw [← hD]
  have HD := hide hD
  clear hD
  have hlen : (bytesN s).length = s.size := by simp [bytesN]
  have HLEN := hide hlen
  clear hlen
  go_enter Tryz.func13, Tryz.ntmps13
  go_wp2
  go_loopw [3, 4, 5] (fun n m i wr => ∃ (k : Nat) (nz mz : Int), k ≤ s.size + 1 ∧ i = .int .i64 k ∧ n = .int .i64 nz ∧ m = .int .i64 mz ∧ -(k : Int) ≤ nz ∧ nz ≤ k ∧ 0 ≤ mz ∧ mz ≤ k ∧ Hid (dps ((bytesN s).drop k) nz mz = D) ∧ wr = w) (fun _ _ i _ => s.size + 1 - (intOf i).toNat)
  case atStart => exact ⟨0, 0, 0, by omega, rfl, rfl, rfl, by omega, by omega, by omega, by omega, by show _ = _; rw [HD.out]; rfl, rfl⟩
  case round =>
    obtain ⟨k, nz, mz, hk, rfl, rfl, rfl, b1, b2, b3, b4, HK, rfl⟩ := hrel
    by_cases hlt : k < s.size
    · have hkd : decide ((k : Int) < s.size) = true := decide_eq_true (by omega)
      have hdr := drop_at s k hlt
      have HDR := hide hdr
      clear hdr
      generalize hx : s[k].toNat = x at *
      have HK2 : Hid (dps (x :: (bytesN s).drop (k + 1)) nz mz = D) := by show _ = _; rw [← HDR.out]; exact HK.out
      have hx' : ∀ h : k < s.size, s[k].toNat = x := fun _ => hx
      clear HK HDR
      go_wp2
      · rename_i h92
        have e : x = 92 := by simp [hx] at h92; omega
        subst e
        have := HK2.out
        rw [dps_mark1, List.drop_drop] at this
        exact ⟨⟨k + 2, nz, mz, by omega, by go_num, rfl, rfl, by omega, by omega, by omega, by omega, this, trivial⟩, by simp [intOf]; omega⟩
      · rename_i h92 h40
        have e : x = 40 := by simp [hx] at h40; omega
        subst e
        have := HK2.out
        rw [dps_open] at this
        exact ⟨⟨k + 1, nz + 1, max mz (nz + 1), by omega, by go_num, rfl, rfl, by omega, by omega, by omega, by omega, this, trivial⟩, by simp [intOf]; omega⟩
      · rename_i h92 h40 h41
        have e : x = 41 := by simp [hx] at h41; omega
        subst e
        have := HK2.out
        rw [dps_close] at this
        exact ⟨⟨k + 1, nz - 1, mz, by omega, by go_num, rfl, rfl, by omega, by omega, by omega, by omega, this, trivial⟩, by simp [intOf]; omega⟩
      · rename_i h92 h40 h41
        have e : x ≠ 92 ∧ x ≠ 40 ∧ x ≠ 41 := by
          simp [hx] at h92 h40 h41
          omega
        have := HK2.out
        rw [dps_other e] at this
        exact ⟨⟨k + 1, nz, mz, by omega, by go_num, rfl, rfl, by omega, by omega, by omega, by omega, this, trivial⟩, by simp [intOf]; omega⟩
    · have hkd : decide ((k : Int) < s.size) = false := decide_eq_false (by omega)
      have HX : Hid (mz = D) := by
        have := HK.out
        rw [List.drop_eq_nil_of_le (by rw [HLEN.out]; omega)] at this
        exact this
      go_wp2
      go_ret
      refine ⟨?_, rfl⟩
      rw [← HX.out]; rfl
theorem bdw_le (s : BitVec 256) : bdw g8 s ≤ 9180 := by
  have : ((List.range 255).map fun p => if s.getLsbD p = s.getLsbD (p + 1) then 0 else g8 p).sum ≤ ((List.range 255).map fun _ => 36).sum := sum_le fun p _ => by
    have := g8_le p
    split <;> omega
  exact Nat.le_trans this (by decide)
theorem wt_le (r : RE) : r.wt g8 ≤ 9180 * r.cnt := by
  refine RE.ind (P := fun r => r.wt g8 ≤ 9180 * r.cnt) ?_ r
  intro o s ks ih
  have hs := bdw_le s
  have hk : wtL g8 ks ≤ 9180 * cntL ks := by
    induction ks with
    | nil => exact Nat.zero_le _
    | cons x ks ihk =>
      rw [wtL_cons, cntL_cons]
      have := ih x (by simp)
      have := ihk fun k hk => ih k (by simp [hk])
      omega
  rw [RE.wt_mk, RE.cnt_mk]
  omega
theorem rd_size {l : List Nat} (h : (rdEnd l).err = 0) : ¬ 1000 < (readQ l).1.size := fun hs => by
  unfold rdEnd at h
  generalize readQ l = q at *
  simp only at h
  have key : ∀ s1 : St, (if s1.err = 0 ∧ 1000 < q.1.size then s1.fail 3 0 else s1).err = 0 → False := fun s1 h => by
    by_cases h0 : s1.err = 0
    · rw [if_pos ⟨h0, hs⟩] at h; exact absurd h (fail_err 3 _ _ (by decide))
    · rw [if_neg (fun x => h0 x.1)] at h; exact h0 h
  exact key _ h
/-- What Read answers at what Of has written. -/
theorem read_again (r : RE) (hw : Wf r) (h : r.cnt ≤ 300 → r.pd ≤ 50 → r.txt.length ≤ 65536) (hl : r.txt.length ≤ 800000000000) (w : World) (hT : TabAt w) :
    Calls Tryz.prog 10 #[.string (strB r.txt)] w fun e w' => ∃ (v : Value) (er wh : Nat), e = .returned (.tuple #[v, .int .i64 er, .int .i64 wh]) ∧ Below w.heap.size w w' ∧ (r.cnt ≤ 300 → r.pd ≤ 50 → er = 0 ∧ ∃ b, v = PT b ∧ ReAt w' b r) := by
  by_cases hs : r.txt.length ≤ 65536
  · by_cases hc : r.cnt ≤ 300 ∧ r.pd ≤ 50
    · refine (read_ok _ _ r _ (bytesN_strB (txt_lt r)) (by rw [strB_size]; exact hs) (read_txt hw (by omega) (by omega) hs) w hT).mono ?_
      rintro e w' ⟨b, rfl, h1, h2⟩
      exact ⟨_, 0, 0, rfl, h2, fun _ _ => ⟨rfl, b, rfl, h1⟩⟩
    · refine (read_any _ w (by rw [strB_size]; exact hs) hT).mono ?_
      intro e w' hp
      unfold ReadPost at hp
      by_cases he : (rdEnd (bytesN (strB r.txt))).err = 0
      · obtain ⟨b, rfl, -, h2⟩ := hp.1 he
        exact ⟨_, 0, 0, rfl, h2, fun h1 h2 => absurd ⟨h1, h2⟩ hc⟩
      · obtain ⟨rfl, h2⟩ := hp.2 he
        exact ⟨_, _, _, rfl, h2, fun h1 h2 => absurd ⟨h1, h2⟩ hc⟩
  · refine (read_long (strB r.txt) w (by rw [strB_size]; omega) (by rw [strB_size]; omega)).mono ?_
    rintro e w' ⟨rfl, rfl⟩
    exact ⟨_, 3, 0, rfl, Below.refl _ _, fun h1 h2 => absurd (h h1 h2) hs⟩
set_option maxHeartbeats 4000000 in
theorem textReads_any (s : ByteArray) (w : World) (hsz : s.size ≤ 9223372036854775807) (hT : TabAt w) :
    Calls Tryz.prog 3 #[.string s] w fun e w' => e = .returned (.bool true) ∧ Below w.heap.size w w' := by
  have HT := hide hT
  clear hT
  go_enter Tryz.func3, Tryz.ntmps3
  go_wp2_with fail
  refine (head4_any w HT.out).mono ?_
  rintro e w1 ⟨rfl, hb1⟩
  have HB1 := hide hb1
  have HT1 := hide (HT.out.pastR hb1)
  clear hb1
  by_cases h3 : 300 < s.size
  · have hd : decide ((300 : Int) < s.size) = true := decide_eq_true (by omega)
    have hd2 : decide (300 < s.size) = true := decide_eq_true h3
    go_wp2
    go_ret
    exact ⟨rfl, HB1.out⟩
  have hd : decide ((300 : Int) < s.size) = false := decide_eq_false (by omega)
  have hd2 : decide (300 < s.size) = false := decide_eq_false h3
  have hlen : (bytesN s).length = s.size := by simp [bytesN]
  have HLEN := hide hlen
  have HRA := hide (read_any s w1 (by omega) HT1.out)
  clear hlen
  go_wp2_with fail
  refine HRA.out.mono ?_
  intro e w2 hp
  unfold ReadPost at hp
  clear HRA
  by_cases he : (rdEnd (bytesN s)).err = 0
  · obtain ⟨rb, rfl, hr, hb2⟩ := hp.1 he
    have HE := hide he
    have HB2 := hide hb2
    have HR := hide hr
    clear hp he hb2 hr
    obtain ⟨r, hrr⟩ : ∃ r, r = (readQ (bytesN s)).1 := ⟨_, rfl⟩
    rw [← hrr] at HR
    have hwf : Wf r := by rw [hrr]; exact readQ_wf (by rw [HLEN.out]; omega)
    have hsh : r.cnt ≤ 300 → r.txt.length ≤ 65536 := fun h => by rw [hrr] at h ⊢; exact read_short (by rw [HLEN.out]; omega) HE.out h
    have hbig : r.txt.length ≤ 800000000000 := by
      have h1 := cnt_of_size (rd_size HE.out)
      rw [← hrr] at h1
      have h2 := txtN_len hwf
      have h3 := wt_le r
      omega
    have HWF := hide hwf
    have HSH := hide hsh
    have HBIG := hide hbig
    clear hwf hsh hbig hrr
    have HOF := hide (textOf_any r rb w2 HWF.out HR.out HBIG.out (HT1.out.pastR HB2.out))
    unfold PT at HOF ⊢
    go_wp2_with fail
    refine HOF.out.mono ?_
    rintro e w3 ⟨rfl, hb3⟩
    have HB3 := hide (HB2.out.trans (hb3.mono HB2.out.size))
    have HR3 := hide (HR.out.keep hb3)
    clear hb3 HOF HR HB2
    have HRG := hide (read_again r HWF.out (fun h _ => HSH.out h) HBIG.out w3 (HT1.out.pastR HB3.out))
    go_wp2_with fail
    refine HRG.out.mono ?_
    rintro e w4 ⟨v4, er, wh, rfl, hb4, hag⟩
    have HB4 := hide (HB3.out.trans (hb4.mono HB3.out.size))
    have HR4 := hide (HR3.out.keep hb4)
    have HAG := hide hag
    clear hb4 hag HRG HR3 HB3
    obtain ⟨z, hz⟩ : ∃ z, z = r.size := ⟨_, rfl⟩
    have hsza := size_any rb r w4 HR4.out
    rw [← hz] at hsza
    have HSZ := hide hsza
    have HZ := hide hz
    clear hsza hz
    unfold PT at HSZ
    go_wp2_with fail
    refine HSZ.out.mono ?_
    rintro e w5 ⟨rfl, rfl⟩
    clear HSZ
    by_cases hz3 : 300 < z
    · have hdz : decide ((300 : Int) < z) = true := decide_eq_true (by omega)
      go_wp2
      go_ret
      exact ⟨rfl, HB1.out.trans (HB4.out.mono HB1.out.size)⟩
    have hdz : decide ((300 : Int) < z) = false := decide_eq_false (by omega)
    have hcnt : r.cnt ≤ 300 := by have := size_min r; have := HZ.out; omega
    have hst : (strB r.txt).size ≤ 1000000 := by rw [strB_size]; have := HSH.out hcnt; omega
    have hdp := deepest_any (strB r.txt) w5 hst
    rw [bytesN_strB (txt_lt r), dps_txt HWF.out] at hdp
    have HDP := hide hdp
    have HCNT := hide hcnt
    clear hdp hst hcnt
    go_wp2_with fail
    refine HDP.out.mono ?_
    rintro e w6 ⟨rfl, rfl⟩
    clear HDP
    obtain ⟨pd, hpd⟩ : ∃ pd, pd = r.pd := ⟨_, rfl⟩
    rw [← hpd]
    have HPD := hide hpd
    clear hpd
    by_cases h50 : 50 < pd
    · have hd5 : decide ((50 : Int) < pd) = true := decide_eq_true (by omega)
      go_wp2
      go_ret
      exact ⟨rfl, HB1.out.trans (HB4.out.mono HB1.out.size)⟩
    have hd5 : decide ((50 : Int) < pd) = false := decide_eq_false (by omega)
    obtain ⟨rfl, xb, rfl, hx⟩ := HAG.out HCNT.out (by have := HPD.out; omega)
    have HSM := hide (same_selfR r xb rb w6 HWF.out hx HR4.out (HT1.out.pastR HB4.out))
    clear hx HAG
    unfold PT at HSM ⊢
    go_wp2_with fail
    refine HSM.out.mono ?_
    rintro e w7 ⟨rfl, hb7⟩
    have HB7 := hide (HB1.out.trans ((HB4.out.trans (hb7.mono HB4.out.size)).mono HB1.out.size))
    clear hb7 HSM
    go_wp2
    go_ret
    exact ⟨rfl, HB7.out⟩
  · obtain ⟨rfl, hb2⟩ := hp.2 he
    obtain ⟨h234, hwh⟩ := rd_within (l := bytesN s) (by rw [HLEN.out]; omega) he
    rw [HLEN.out] at hwh
    have HB2 := hide (HB1.out.trans (hb2.mono HB1.out.size))
    clear hp hb2
    generalize (rdEnd (bytesN s)).err = er at *
    generalize (rdEnd (bytesN s)).wh = wh at *
    have hd9 : decide ((wh : Int) ≤ s.size) = true := decide_eq_true (by omega)
    have hd8 : decide ((0 : Int) ≤ wh) = true := decide_eq_true (by omega)
    rcases h234 with rfl | rfl | rfl
    · go_wp2
      go_ret
      exact ⟨rfl, HB2.out⟩
    · go_wp2
      go_ret
      exact ⟨rfl, HB2.out⟩
    · go_wp2
      go_ret
      exact ⟨rfl, HB2.out⟩
section
open Go.ChangeShapes Go.WideShapes Go.ChangeAt Go.WideMaps Go.WideElems
theorem open_str {H : Type} {enc : TypeId × Value → H} {w : World} {r : Reach} {b0 base : Nat} {sp : Nat → Bool} {held : Bool} {v : Value} {d : DataW H} {p : List MemPlace}
    (hv : Value.okWide Tryz.prog w r b0 9 v) (h : DataW.Trod enc Tryz.prog w base sp held 9 v d p) : ∃ s : ByteArray, v = .string s ∧ s.size ≤ 9223372036854775807 := by
  obtain ⟨s, rfl⟩ := okWide_string Tryz.underlying9 hv
  obtain ⟨fuel, hf⟩ := h
  refine ⟨s, rfl, ?_⟩
  cases fuel with
  | zero => simp [DataW.trod] at hf
  | succ m =>
    unfold DataW.trod at hf
    rw [Tryz.underlying9] at hf
    simp [Value.cells] at hf
    have := hf.1
    unfold maxLen at this
    omega
end
theorem textReads_all (v : Value) (s : ByteArray) (w : World) (hv : v = .string s ∧ s.size ≤ 9223372036854775807) (hT : TabAt w) :
    Calls Tryz.prog 3 #[v] w fun e w' => e = .returned (.bool true) ∧ Below w.heap.size w w' := by
  obtain ⟨rfl, hs⟩ := hv
  exact textReads_any s w hs hT
end Go.Proofs.YtdbdjjjmomociaaGreatDoor
/- TextReads answers true for every text: Read tells an error of three, within the text, or an expression whose own text (if it is not too big, nor too deep) is read as that expression. Conditions: the table of math/bits holds what its initialiser lays (the card ties that to the program's text). -/
namespace Go.Proofs.YtdbdjjjmomociaaGreatDoor
set_option maxRecDepth 100000
open Go.ChangeShapes Go.WideShapes Go.ChangeAt Go.WideMaps Go.WideElems Go.RowKit

set_option maxRecDepth 100000 in
theorem textReads_lifted (os : Os) (started : os.Started) (H : Type) (enc : TypeId × Value → H) :
    ReturnsInHanded {} Tryz.checked os 3 .any (fun w args => (Rows.textReadsSpec.pre enc Tryz.prog Tryz.f3 [] false w args ∧ laidMetH Tryz.prog [("math/bits.deBruijn64tab", Rows.laid_math_bits_deBruijn64tab)] w) ∧ sizedMet enc Tryz.prog Tryz.f3 (OpenSpec.ofChange Rows.textReadsSpec) false w args)
      (Rows.textReadsSpec.post enc Tryz.prog Tryz.f3 false true false false) := by
  refine returnsInHanded_of_change_and (C := Tryz.checked) (X := fun w _ => laidMetH Tryz.prog [("math/bits.deBruijn64tab", Rows.laid_math_bits_deBruijn64tab)] w) (fun _ _ _ hh h => h.of_heap hh) own started (by kernel_rfl) Tryz.func3
    (ChangeSpec.witness_shaped (enc := enc) (C := Tryz.checked) (os := os) (X := fun w _ => laidMetH Tryz.prog [("math/bits.deBruijn64tab", Rows.laid_math_bits_deBruijn64tab)] w) false (World.doorLaid Tryz.prog 400 os)
      #[.string ⟨#[]⟩] 8 rfl (World.shaped_of_RefB (by kernel_rfl) (by kernel_rfl)) (by kernel_rfl) (by kernel_rfl) (by kernel_rfl) (door_met os _)) ?_
  intro W base args ds gs before hval0 hW _ _ hL _
  have hval : ∀ (j : Nat) t v, Tryz.f3.params[j]? = some t → args[j]? = some v → Value.okWide Tryz.prog W .any base t v := hval0
  have hW' := hW
  obtain ⟨p, q, hA0, hV, rfl, hfz, hnd⟩ := hW
  have hA : DataW.TrodAll enc Tryz.prog W 0 (fun _ => true) true Tryz.f3.params.toList args.toList ds p := hA0
  rw [Tryz.params3] at hA hval
  obtain ⟨v0, d0, rfl, rfl, h0⟩ := trodAll_one hA
  obtain ⟨rfl, rfl⟩ := trodVars_none hV
  have k0 := h0
  have lt0 : ∀ x ∈ p, x.block < W.heap.size := by obtain ⟨m, hm⟩ := k0; exact DataW.trod_lt m _ _ _ hm
  obtain ⟨z0, hz0⟩ := open_str (hval 0 9 v0 rfl rfl) h0
  have hT := tab_of_laid hL
  clear hA0 hval0
  refine (textReads_all v0 z0 W hz0 hT).mono fun e W' ⟨he, hb⟩ => ?_
  subst he
  exact ⟨_, rfl, _, _, _, [], _, [], hW', trodAll_mk1 (shut_bool Tryz.underlying4 _), trodAll_mk1 (Below.trod laidOut (by kernel_rfl) (of_decide_eq_true (by kernel_rfl)) k0 hb lt0), rfl, hb.frame _, fun h => by cases h⟩

theorem textReads_said : Rows.TextReadsSaid :=
  OpenClaim.holds_of_wide 3 Tryz.f3 rfl rfl rfl rfl rfl rfl rfl ⟨rfl, rfl, rfl, rfl, rfl⟩ rfl rfl rfl rfl rfl (by kernel_rfl) Tryz.func3 (by kernel_rfl)
    (of_decide_eq_true (by kernel_rfl)) (by unfold Func.isWrapper; first | (rw [if_pos (by decide +kernel)]; kernel_rfl) | (rw [if_neg (by decide +kernel)]; exact ⟨rfl, rfl⟩))
    (fun os started H enc _ => textReads_lifted os started H enc)

theorem textReads_card : Rows.TextReadsCardSaid :=
  Claim7.holds_tied_plain_at .later [] [.data] true Rows.textReadsCard.stood.harness false
    textReads_said (fun _ h => by cases h) (by kernel_rfl) (fun _ h => by cases h) textReads_row_tie rfl ⟨rfl, rfl⟩ (by kernel_rfl) rfl
    (fun f fn hf hfn => by
      obtain rfl : f = 3 := Option.some.inj ((show Tryz.prog.funcNamed "periscope/periscopelaw04.TextReads" = some 3 by kernel_rfl).symm.trans hf) |>.symm
      obtain rfl : fn = Tryz.f3 := (Option.some.inj (Tryz.func3.symm.trans hfn)).symm
      exact ⟨by kernel_rfl, fun j t ht => by
        rw [Tryz.params3] at ht
        have hm : t ∈ [9] := by simpa using Array.mem_of_getElem? ht
        have hall : ([9].all fun u => !Tryz.prog.wantsStandIn u) = true := by kernel_rfl
        exact (show Tryz.prog.wantsStandIn t = false by simpa using List.all_eq_true.1 hall t hm)⟩)
    (by kernel_rfl)
#print axioms textReads_card
end Go.Proofs.YtdbdjjjmomociaaGreatDoor
