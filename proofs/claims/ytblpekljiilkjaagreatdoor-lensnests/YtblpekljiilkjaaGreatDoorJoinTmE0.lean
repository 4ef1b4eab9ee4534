/- Texts of this claim put together: TmD, TmE0. -/
import Derived.Test.YtblpekljiilkjaaGreatDoorJoinTmC
/- appendKid, appendKids, appendTo, String: a term as it is written. -/
namespace Go.Proofs.YtblpekljiilkjaaGreatDoor
set_option maxRecDepth 100000
set_option linter.unusedSimpArgs false
set_option linter.unusedVariables false
open Go.RowKit Go.Shelf

theorem WfT.op {o : Nat} {n t b : ByteArray} {r : Option RE} {ks : List TM} (h : WfT (.mk o n t b r ks)) : 2 ≤ o ∧ o ≤ 17 := by cases h; assumption
theorem WfT.len {o : Nat} {n t b : ByteArray} {r : Option RE} {ks : List TM} (h : WfT (.mk o n t b r ks)) : ks.length = kidsO o := by cases h; assumption
theorem WfT.kid {o : Nat} {n t b : ByteArray} {r : Option RE} {ks : List TM} (h : WfT (.mk o n t b r ks)) : ∀ k ∈ ks, WfT k := by cases h; assumption
theorem WfT.re {o : Nat} {n t b : ByteArray} {r : Option RE} {ks : List TM} (h : WfT (.mk o n t b r ks)) : ∀ q, r = some q → Wf q ∧ q.txt.length ≤ 1000000 := by cases h; assumption
theorem WfT.sz {o : Nat} {n t b : ByteArray} {r : Option RE} {ks : List TM} (h : WfT (.mk o n t b r ks)) : n.size ≤ 1000000 ∧ t.size ≤ 1000000 ∧ b.size ≤ 1000000 := by cases h; exact ⟨by assumption, by assumption, by assumption⟩
theorem WfT.op' {t : TM} (h : WfT t) : 2 ≤ t.op ∧ t.op ≤ 17 := by cases h; assumption

/-- What writing a term does. -/
abbrev WrT (t : TM) : Prop := ∀ (b : Nat) (v : Value) (n : Nat) (xs : List Value) (w0 w : World), TmAt w0 b t → Below w0.heap.size w0 w → OwnU w w0.heap.size v n xs → n + t.txt.length ≤ 800000000000 → TabAt w0 → WordsAt w0 →
  Calls Tryz.prog 43 #[PT b, v] w fun e w' => ∃ V, e = .returned V ∧ AV w w0.heap.size v n xs t.txt V w'

set_option maxHeartbeats 4000000 in
theorem appendKid_any (b o : Nat) (nm tx bk : ByteArray) (r : Option RE) (ks : List TM) (rp : Value) (a : Option Addr) (c : Nat) (v : Value) (m : Nat) (xs : List Value) (w0 w : World) (hS : TmSee w0 b o nm tx bk r ks rp a c) (ho : 2 ≤ o ∧ o ≤ 17)
    (i : Nat) (hi : i < ks.length) (hi2 : ks.length ≤ 1000) (hk : WrT ks[i]) (hwk : WfT ks[i]) (hW : Below w0.heap.size w0 w) (hO : OwnU w w0.heap.size v m xs) (hl : m + (inT (levT (ks[i]).op) (mustT o i) (ks[i]).txt).length ≤ 800000000000) (hT : TabAt w0) (hD : WordsAt w0) :
    Calls Tryz.prog 68 #[PT b, v, .int .i64 i] w fun e w' => ∃ V, e = .returned V ∧ AV w w0.heap.size v m xs (inT (levT (ks[i]).op) (mustT o i) (ks[i]).txt) V w' := by
  obtain ⟨a0, cp0, rfl⟩ := hO.slice
  obtain ⟨g, f, p, rfl, hc, hp⟩ := hS.kid i hi
  have c6 := hS.c6 w hW
  have cK := hc w hW
  have HKK := hide hk
  have HP := hide hp
  have HW := hide hW
  have HO := hide hO
  have HT := hide hT
  have HDW := hide hD
  obtain ⟨lv, hlv⟩ : ∃ lv, lv = levT (ks[i]).op := ⟨_, rfl⟩
  obtain ⟨nd, hnd⟩ : ∃ nd, nd = mustT o i := ⟨_, rfl⟩
  have HH : Hid (Calls Tryz.prog 50 #[PT p] w fun e w' => e = .returned (.int .i64 lv) ∧ Below w.heap.size w w') := by
    rw [hlv]
    refine hold_tm p _ hwk.op' w ?_
    cases hks : ks[i] with
    | mk o' n' t' k' r' ks' =>
      rw [hks] at hp
      obtain ⟨_, _, _, hs'⟩ := hp.see
      exact hs'.c0 w hW
  have HN : Hid (∀ w', Below w.heap.size w w' → Calls Tryz.prog 51 #[PT b, .int .i64 i] w' fun e w'' => e = .returned (.int .i64 nd) ∧ Below w'.heap.size w' w'') := fun w' hw' => by
    rw [hnd]
    exact need_tm b o i ho (by omega) w' (hS.c0 w' (hW.trans (hw'.mono hW.size)))
  obtain ⟨T, hTT⟩ : ∃ T, T = (ks[i]).txt := ⟨_, rfl⟩
  rw [← hlv, ← hnd, ← hTT] at hl ⊢
  have HTT := hide hTT
  have HL := hide hl
  have hlen := hi
  have HB0 := hide (Below.refl w.heap.size w)
  clear hS hk hp hW hO hT hD hc hlv hnd hTT hl hwk
  unfold PT at cK HH HN ⊢
  go_enter Tryz.func68, Tryz.ntmps68
  go_wp2_with fail
  refine HH.out.mono ?_
  rintro e w1 ⟨rfl, hb1⟩
  have HB1 := hide hb1
  clear hb1 HH cK c6
  go_wp2_with fail
  refine (HN.out w1 HB1.out).mono ?_
  rintro e w2 ⟨rfl, hb2⟩
  have HB2 := hide (HB1.out.trans (hb2.mono HB1.out.size))
  clear hb2 HB1 HN
  have HA := hide ((AV.start HO.out HW.out.size).step HB2.out)
  by_cases hln : nd ≤ lv
  · have hd : decide ((nd : Int) ≤ lv) = true := by simp; omega
    have hd2 : decide (nd ≤ lv) = true := by simp [hln]
    have HE : Hid (inT lv nd T = T) := by show _ = _; unfold inT; rw [if_neg (by omega)]
    have HREC := hide (HKK.out p (.slice a0 m cp0) _ _ w0 w2 HP.out (HA.out.below HW.out HO.out) (by have := HA.out.own; simpa [byteV] using this) (by have := HL.out; rw [HE.out, HTT.out] at this; exact this) HT.out HDW.out)
    rw [← HTT.out] at HREC
    clear hln
    unfold PT at HREC
    go_wp2_with fail
    refine HREC.out.mono ?_
    rintro e w4 ⟨V4, rfl, hA4⟩
    have hA5 := HA.out.more (m := T) (by simpa [byteV] using hA4)
    obtain ⟨a4, c4, hv4⟩ := hA4.slice
    obtain ⟨M4, hM4⟩ : ∃ M4, M4 = m + T.length := ⟨_, rfl⟩
    rw [← hM4] at hv4
    subst hv4
    have HA5 := hide hA5
    clear hA4 hA5 HREC hM4 HA
    go_wp2
    go_ret
    exact ⟨_, rfl, by rw [HE.out]; exact HA5.out⟩
  · have hd : decide ((nd : Int) ≤ lv) = false := by simp; omega
    have hd2 : decide (nd ≤ lv) = false := by simp; omega
    have HE : Hid (inT lv nd T = [] ++ [40] ++ T ++ [41]) := by show _ = _; unfold inT; rw [if_pos (by omega)]; rfl
    have hTl : m + T.length + 2 ≤ 800000000000 := by have := HL.out; rw [HE.out] at this; simp at this; omega
    obtain ⟨V3, W3, hr3, hA3⟩ := HA.out.app1 40 (by simp; omega)
    obtain ⟨a3, c3, hv3⟩ := hA3.slice
    obtain ⟨M3, hM3⟩ : ∃ M3, M3 = m + ([] ++ [40] : List Nat).length := ⟨_, rfl⟩
    rw [← hM3] at hv3
    subst hv3
    have HREC := hide (HKK.out p _ _ _ w0 W3 HP.out (hA3.below HW.out HO.out) hA3.own (by rw [← HTT.out]; simp; omega) HT.out HDW.out)
    rw [← HTT.out, ← hM3] at HREC
    have HA3 := hide hA3
    have HM3 := hide hM3
    clear hA3 hM3 hln
    unfold PT at HREC
    go_wp2_with (refine wpList_append_run rfl _ _ _ rfl _ _ _ rfl rfl hr3 ?_)
    refine HREC.out.mono ?_
    rintro e w4 ⟨V4, rfl, hA4⟩
    have hA5 := HA3.out.more (m := T) (V' := V4) (W' := w4) (by rw [← HM3.out]; exact hA4)
    obtain ⟨V6, W6, hr6, hA6⟩ := hA5.app1 41 (by simp; omega)
    obtain ⟨a4, c4, hv4⟩ := hA5.slice
    obtain ⟨M4, hM4⟩ : ∃ M4, M4 = m + ([] ++ [40] ++ T : List Nat).length := ⟨_, rfl⟩
    rw [← hM4] at hv4
    subst hv4
    obtain ⟨a6, c6, hv6⟩ := hA6.slice
    obtain ⟨M6, hM6⟩ : ∃ M6, M6 = m + ([] ++ [40] ++ T ++ [41] : List Nat).length := ⟨_, rfl⟩
    rw [← hM6] at hv6
    subst hv6
    have HA6 := hide hA6
    clear hA4 hA5 hA6 HREC hr3 hM4 hM6 HA3 HA
    go_wp2_with (refine wpList_append_run rfl _ _ _ rfl _ _ _ rfl rfl hr6 ?_)
    go_ret
    exact ⟨_, rfl, by rw [HE.out]; exact HA6.out⟩

set_option maxHeartbeats 4000000 in
theorem tKids_any (b o : Nat) (nm tx bk : ByteArray) (r : Option RE) (ks : List TM) (rp : Value) (a : Option Addr) (c : Nat) (v : Value) (m : Nat) (xs : List Value) (w0 w : World) (hS : TmSee w0 b o nm tx bk r ks rp a c) (ho : 2 ≤ o ∧ o ≤ 17)
    (hi2 : ks.length ≤ 1000) (ih : ∀ k ∈ ks, WrT k) (hwk : ∀ k ∈ ks, WfT k) (s : ByteArray) (sep : List Nat) (hs : bytesN s = sep) (hW : Below w0.heap.size w0 w) (hO : OwnU w w0.heap.size v m xs) (hl : m + (tkT o sep 0 (tkL ks)).length ≤ 800000000000) (hT : TabAt w0) (hD : WordsAt w0) :
    Calls Tryz.prog 67 #[PT b, v, .string s] w fun e w' => ∃ V, e = .returned V ∧ AV w w0.heap.size v m xs (tkT o sep 0 (tkL ks)) V w' := by
  obtain ⟨a0, cp0, rfl⟩ := hO.slice
  have c6 := hS.c6 w hW
  have HSS := hide hS
  have HIH := hide ih
  have HWK := hide hwk
  have HW := hide hW
  have HO := hide hO
  have HT := hide hT
  have HDW := hide hD
  have HSP := hide hs
  have HL := hide hl
  clear hS ih hW hO hT hD hl hwk hs
  unfold PT
  go_enter Tryz.func67, Tryz.ntmps67
  go_wp2
  clear c6
  go_loopw [1, 13] (fun q i wr => ∃ k : Nat, k ≤ ks.length ∧ i = .int .i64 k ∧ Hid (AV w w0.heap.size (.slice a0 m cp0) m xs (tkT o sep 0 (tkL (ks.take k))) q wr)) (fun _ i _ => ks.length - (intOf i).toNat)
  case atStart => exact ⟨0, by omega, rfl, AV.start HO.out HW.out.size⟩
  case round =>
    obtain ⟨k, hk1, rfl, HA⟩ := hrel
    obtain ⟨aq, cq, hq⟩ := HA.out.slice
    obtain ⟨M, hM⟩ : ∃ M, M = m + (tkT o sep 0 (tkL (ks.take k))).length := ⟨_, rfl⟩
    rw [← hM] at hq
    subst hq
    have HM := hide hM
    by_cases hlt : k < ks.length
    · have hkd : decide (k < ks.length) = true := by simp [hlt]
      have HTK := hide (tkT_take o sep ks k hlt)
      obtain ⟨T, hTT⟩ : ∃ T, T = tkT o sep 0 (tkL (ks.take k)) := ⟨_, rfl⟩
      obtain ⟨U, hU⟩ : ∃ U, U = inT (levT (ks[k]).op) (mustT o k) (ks[k]).txt := ⟨_, rfl⟩
      have HAK : Hid (∀ (V : Value) (n : Nat) (ys : List Value) (W : World), Below w0.heap.size w0 W → OwnU W w0.heap.size V n ys → n + U.length ≤ 800000000000 → Calls Tryz.prog 68 #[PT b, V, .int .i64 k] W fun e w' => ∃ V', e = .returned V' ∧ AV W w0.heap.size V n ys U V' w') := fun V n ys W h1 h2 h3 => by
        rw [hU] at h3 ⊢
        exact appendKid_any b o nm tx bk r ks rp a c V n ys w0 W HSS.out ho k hlt hi2 (HIH.out _ (List.getElem_mem hlt)) (HWK.out _ (List.getElem_mem hlt)) h1 h2 h3 HT.out HDW.out
      rw [← hTT, ← hU] at HTK
      rw [← hTT] at HA HM
      have hTL : m + T.length + (if 0 < k then sep else []).length + U.length ≤ 800000000000 := by
        have h1 := HL.out
        have h2 := tkT_le o sep ks (k + 1)
        rw [HTK.out, List.length_append, List.length_append] at h2
        omega
      clear hM hTT hU
      unfold PT at HAK
      by_cases hk0 : 0 < k
      · have hd0 : decide ((0 : Int) < k) = true := by simp; omega
        have hd1 : decide (0 < k) = true := by simp [hk0]
        rw [if_pos hk0] at hTL HTK
        obtain ⟨V1, W1, hr1, hA1⟩ := HA.out.appT s sep HSP.out (by omega)
        obtain ⟨a1, c1, hv1⟩ := hA1.slice
        obtain ⟨M1, hM1⟩ : ∃ M1, M1 = m + (T ++ sep).length := ⟨_, rfl⟩
        rw [← hM1] at hv1
        subst hv1
        have HREC := hide (HAK.out _ _ _ W1 (hA1.below HW.out HO.out) hA1.own (by simp; omega))
        rw [← hM1] at HREC
        have HA1 := hide hA1
        have HM1 := hide hM1
        clear hA1 hM1 HAK hk0
        go_wp2_with (refine wpList_appendS_run rfl _ _ _ _ rfl _ _ _ rfl rfl hr1 ?_)
        refine HREC.out.mono ?_
        rintro e w4 ⟨V4, rfl, hA4⟩
        have hA5 := HA1.out.more (m := U) (V' := V4) (W' := w4) (by rw [← HM1.out]; exact hA4)
        obtain ⟨a4, c4, hv4⟩ := hA5.slice
        obtain ⟨M4, hM4⟩ : ∃ M4, M4 = m + (T ++ sep ++ U).length := ⟨_, rfl⟩
        rw [← hM4] at hv4
        subst hv4
        have HA5 := hide hA5
        clear hA4 hA5 HREC hr1 hM4 HA1 HA
        go_wp2
        refine ⟨⟨k + 1, by omega, by go_num, ?_⟩, by simp [intOf]; omega⟩
        show AV _ _ _ _ _ _ _ _
        rw [HTK.out, ← List.append_assoc]
        exact HA5.out
      · have hd0 : decide ((0 : Int) < k) = false := by simp; omega
        have hd1 : decide (0 < k) = false := by simp; omega
        rw [if_neg hk0] at hTL HTK
        have HREC := hide (HAK.out _ _ _ wr (HA.out.below HW.out HO.out) HA.out.own (by simp at hTL; omega))
        rw [← HM.out] at HREC
        clear HAK
        go_wp2_with fail
        refine HREC.out.mono ?_
        rintro e w4 ⟨V4, rfl, hA4⟩
        have hA5 := HA.out.more (m := U) (V' := V4) (W' := w4) (by rw [← HM.out]; exact hA4)
        obtain ⟨a4, c4, hv4⟩ := hA5.slice
        obtain ⟨M4, hM4⟩ : ∃ M4, M4 = m + (T ++ U).length := ⟨_, rfl⟩
        rw [← hM4] at hv4
        subst hv4
        have HA5 := hide hA5
        clear hA4 hA5 HREC hM4 HA hk0
        go_wp2
        refine ⟨⟨k + 1, by omega, by go_num, ?_⟩, by simp [intOf]; omega⟩
        show AV _ _ _ _ _ _ _ _
        rw [HTK.out, List.nil_append]
        exact HA5.out
    · obtain rfl : k = ks.length := by omega
      rw [List.take_length] at HA
      clear hM
      go_wp2
      go_ret
      exact ⟨_, rfl, HA.out⟩
end Go.Proofs.YtblpekljiilkjaaGreatDoor
/- appendTo, String: a term as it is written. -/
namespace Go.Proofs.YtblpekljiilkjaaGreatDoor
set_option maxRecDepth 100000
set_option linter.unusedSimpArgs false
set_option linter.unusedVariables false
open Go.RowKit Go.Shelf

theorem wordT_lt : ∀ o < 18, ∀ x ∈ wordT o, x < 256 := by decide +kernel
theorem tmT_leaf (o : Nat) (n t b : ByteArray) (r : Option RE) (ks : List (Nat × List Nat)) (h : leafO o = true) : tmT o n t b r ks = wordT o ++ restT o n t b r := by unfold tmT; rw [if_pos h, leafT_rest]
theorem tmT_row (o : Nat) (n t b : ByteArray) (r : Option RE) (ks : List (Nat × List Nat)) (h : leafO o = false) (h2 : rowO o = true) : tmT o n t b r ks = tkT o (tsep o) 0 ks := by unfold tmT; rw [if_neg (by simp [h]), if_pos h2]
theorem tmT_9 (n t b : ByteArray) (r : Option RE) (ks : List (Nat × List Nat)) : tmT 9 n t b r ks = tkT 9 [] 0 ks ++ [42] := by unfold tmT; rw [if_neg (by decide), if_neg (by decide), if_pos rfl]
theorem tmT_word (o : Nat) (n t b : ByteArray) (r : Option RE) (ks : List (Nat × List Nat)) (h : leafO o = false) (h2 : rowO o = false) (h3 : o ≠ 9) : tmT o n t b r ks = wordT o ++ [40] ++ tkT o (tsep o) 0 ks ++ [41] := by unfold tmT; rw [if_neg (by simp [h]), if_neg (by simp [h2]), if_neg h3]

end Go.Proofs.YtblpekljiilkjaaGreatDoor
