/- Texts of this claim put together: LxT. -/
import Derived.Test.YtjlgepahgmkamaaGreatDoorJoinLxG
import Derived.Test.YtjlgepahgmkamaaGreatDoorJoinRdW
/- The reader of programs: an expression between slashes, whatever stands there. -/
namespace Go.Proofs.YtjlgepahgmkamaaGreatDoor
set_option maxRecDepth 100000
set_option linter.unusedSimpArgs false
set_option linter.unusedVariables false
open Go.RowKit Go.Shelf

/-- What re answers. -/
def RePost (s : ByteArray) (p a x0 n : Nat) (w : World) (r : Ending) (w' : World) : Prop :=
  (s.size ≤ a + 1 + n → ∃ at', r = .returned (.pointer none) ∧ LxAt w' p s at' 2 s.size) ∧
  (a + 1 + n < s.size → (rdEnd (bytesN (s.extract (a + 1) (a + 1 + n)))).err = 0 → ∃ q, r = .returned (PT q) ∧ ReAt w' q (readQ (bytesN (s.extract (a + 1) (a + 1 + n)))).1 ∧ LxAt w' p s (a + 1 + n + 1) 0 x0) ∧
  (a + 1 + n < s.size → (rdEnd (bytesN (s.extract (a + 1) (a + 1 + n)))).err ≠ 0 → ∃ at', r = .returned (.pointer none) ∧ LxAt w' p s at' (rdEnd (bytesN (s.extract (a + 1) (a + 1 + n)))).err (a + 1 + (rdEnd (bytesN (s.extract (a + 1) (a + 1 + n)))).wh)) ∧
  Aside p w w'
set_option maxHeartbeats 1500000 in
theorem lxRe_any (p : Nat) (s : ByteArray) (a x0 n : Nat) (w : World) (h : LxAt w p s a 0 x0) (hT : TabAt w) (ha : a < s.size) (hn : n = reN ((bytesN s).drop (a + 1))) :
    Calls Tryz.prog 41 #[PT p] w fun r w' => RePost s p a x0 n w r w' := by
  have hbig := h.big
  have HT := hide (And.intro h.blk hT)
  have c1 := h.c1
  have f1 := h.blk.frozen 1
  have HM := hide (h.move (a + 1) (by omega))
  have HA0 := hide (Aside.put w p 1 (.int .i64 ((a + 1 : Nat) : Int)))
  have HE1 : Hid (((a + 1 : Nat) : Int) = (a : Int) + 1) := by show _ = _; omega
  have HN := hide hn
  clear h hT hn
  rw [HE1.out] at HM HA0
  unfold PT
  go_enter Tryz.func41, Tryz.ntmps41
  go_wp2
  obtain ⟨w1, hw1⟩ : ∃ w1, w1 = w.setCell ⟨p, 1, none⟩ (.int .i64 ((a : Int) + 1)) := ⟨_, rfl⟩
  try rw [← hw1]
  rw [← hw1] at HM HA0
  clear hw1 c1 f1
  go_loopw [40] (fun _ wr => Hid (∃ j, LxAt wr p s (a + 1 + j) 0 x0 ∧ j + reN ((bytesN s).drop (a + 1 + j)) = n ∧ Aside p w wr ∧ a + 1 + j ≤ s.size + 1)) (fun _ wr => s.size - atOf wr p)
  case atStart => exact ⟨0, HM.out, by rw [Nat.zero_add, Nat.add_zero]; exact HN.out.symm, HA0.out, by omega⟩
  case round =>
    obtain ⟨j, hL, hj, hA, hle⟩ := hrel
    have HLJ := hide hL
    have HJ := hide hj
    have HA := hide hA
    have hjk : j ≤ n := by omega
    have hat := hL.atOf
    have HAT := hide hat
    clear hL hj hA hat
    obtain ⟨b, hb⟩ : ∃ b, b = a + 1 + j := ⟨_, rfl⟩
    rw [← hb] at HLJ HJ HAT hle
    have HBB := hide hb
    clear hb
    by_cases hin : b < s.size
    · skip
      have hlt : decide ((b : Int) < (s.size : Int)) = true := by simp; omega
      obtain ⟨c, hcb⟩ : ∃ c, (bytesN s)[b]? = some c := ⟨_, List.getElem?_eq_getElem (by rw [bN_len]; exact hin)⟩
      have hc256 : c < 256 := bN_lt s c (List.mem_of_getElem? hcb)
      have HDR : Hid ((bytesN s).drop b = c :: (bytesN s).drop (b + 1)) := by
        obtain ⟨hl, rfl⟩ := List.getElem?_eq_some_iff.1 hcb
        exact List.drop_eq_getElem_cons hl
      obtain ⟨tt, htt⟩ : ∃ tt, ((c : Int) != ((47 : Nat) : Int)) = tt := ⟨_, rfl⟩
      obtain ⟨C, hC⟩ : ∃ C : World → Prop, C = fun V => Below wr.heap.size wr V := ⟨_, rfl⟩
      have HCD : Hid (C { wr with drawn := wr.drawn + 1 }) := by rw [hC]; exact ⟨rfl, rfl, rfl, Nat.le_refl _, fun _ _ => rfl⟩
      have HCB : Hid (∀ V, C V → Below wr.heap.size wr V) := by rw [hC]; exact fun V h => h
      clear hC
      have y0 : ∀ V, C V → V.cell? ⟨p, 0, none⟩ = some (.string s) := fun V hV => (HLJ.out.keep (HCB.out V hV)).c0
      have y1 : ∀ V, C V → V.cell? ⟨p, 1, none⟩ = some (.int .i64 b) := fun V hV => (HLJ.out.keep (HCB.out V hV)).c1
      go_wp2
      try rw [show Value.pointer (some ⟨p, 0, none⟩) = PT p from rfl]
      refine w_lit (C := C) (by kernel_rfl) (by kernel_rfl) HCD.out ?_
      refine w_value (PT p) (by kernel_rfl) (fun w hw => x_move _ _ _ _ _ _ _ _ rfl w) ?_
      simp only [Act.put, List.setIfInBounds_toArray, List.set_cons_succ, List.set_cons_zero]
      refine w_value (PT p) (by kernel_rfl) (fun w hw => x_nilCheck _ _ _ _ _ _ _ _ rfl w) ?_
      simp only [Act.put, List.setIfInBounds_toArray, List.set_cons_succ, List.set_cons_zero]
      refine w_value (.pointer (some ⟨p, 1, none⟩)) (by kernel_rfl) (fun w hw => x_lxF1 _ _ _ _ _ _ _ _ rfl w) ?_
      simp only [Act.put, List.setIfInBounds_toArray, List.set_cons_succ, List.set_cons_zero]
      refine w_value (.int .i64 b) (by kernel_rfl) (fun w hw => x_ldN _ _ _ _ _ _ _ p 1 _ rfl w (y1 w hw)) ?_
      simp only [Act.put, List.setIfInBounds_toArray, List.set_cons_succ, List.set_cons_zero]
      refine w_value (PT p) (by kernel_rfl) (fun w hw => x_move _ _ _ _ _ _ _ _ rfl w) ?_
      simp only [Act.put, List.setIfInBounds_toArray, List.set_cons_succ, List.set_cons_zero]
      refine w_value (PT p) (by kernel_rfl) (fun w hw => x_nilCheck _ _ _ _ _ _ _ _ rfl w) ?_
      simp only [Act.put, List.setIfInBounds_toArray, List.set_cons_succ, List.set_cons_zero]
      refine w_value (PT p) (by kernel_rfl) (fun w hw => x_lxF0 _ _ _ _ _ _ _ _ rfl w) ?_
      simp only [Act.put, List.setIfInBounds_toArray, List.set_cons_succ, List.set_cons_zero]
      refine w_value (.string s) (by kernel_rfl) (fun w hw => x_ldS _ _ _ _ _ _ _ p _ rfl w (y0 w hw)) ?_
      simp only [Act.put, List.setIfInBounds_toArray, List.set_cons_succ, List.set_cons_zero]
      refine w_value (.int .i64 s.size) (by kernel_rfl) (fun w hw => x_lenS _ _ _ _ _ _ _ s rfl w) ?_
      simp only [Act.put, List.setIfInBounds_toArray, List.set_cons_succ, List.set_cons_zero]
      refine w_value (.bool true) (by kernel_rfl) (fun w hw => x_lssZ _ _ _ _ _ _ _ _ b s.size true hlt rfl rfl w) ?_
      simp only [Act.put, List.setIfInBounds_toArray, List.set_cons_succ, List.set_cons_zero]
      refine w_value (.bool true) (by kernel_rfl) (fun w hw => x_move _ _ _ _ _ _ _ _ rfl w) ?_
      simp only [Act.put, List.setIfInBounds_toArray, List.set_cons_succ, List.set_cons_zero]
      refine w_value (PT p) (by kernel_rfl) (fun w hw => x_move _ _ _ _ _ _ _ _ rfl w) ?_
      simp only [Act.put, List.setIfInBounds_toArray, List.set_cons_succ, List.set_cons_zero]
      refine w_value (PT p) (by kernel_rfl) (fun w hw => x_nilCheck _ _ _ _ _ _ _ _ rfl w) ?_
      simp only [Act.put, List.setIfInBounds_toArray, List.set_cons_succ, List.set_cons_zero]
      refine w_value (PT p) (by kernel_rfl) (fun w hw => x_lxF0 _ _ _ _ _ _ _ _ rfl w) ?_
      simp only [Act.put, List.setIfInBounds_toArray, List.set_cons_succ, List.set_cons_zero]
      refine w_value (.string s) (by kernel_rfl) (fun w hw => x_ldS _ _ _ _ _ _ _ p _ rfl w (y0 w hw)) ?_
      simp only [Act.put, List.setIfInBounds_toArray, List.set_cons_succ, List.set_cons_zero]
      refine w_value (PT p) (by kernel_rfl) (fun w hw => x_move _ _ _ _ _ _ _ _ rfl w) ?_
      simp only [Act.put, List.setIfInBounds_toArray, List.set_cons_succ, List.set_cons_zero]
      refine w_value (PT p) (by kernel_rfl) (fun w hw => x_nilCheck _ _ _ _ _ _ _ _ rfl w) ?_
      simp only [Act.put, List.setIfInBounds_toArray, List.set_cons_succ, List.set_cons_zero]
      refine w_value (.pointer (some ⟨p, 1, none⟩)) (by kernel_rfl) (fun w hw => x_lxF1 _ _ _ _ _ _ _ _ rfl w) ?_
      simp only [Act.put, List.setIfInBounds_toArray, List.set_cons_succ, List.set_cons_zero]
      refine w_value (.int .i64 b) (by kernel_rfl) (fun w hw => x_ldN _ _ _ _ _ _ _ p 1 _ rfl w (y1 w hw)) ?_
      simp only [Act.put, List.setIfInBounds_toArray, List.set_cons_succ, List.set_cons_zero]
      refine w_value (.int .u8 c) (by kernel_rfl) (fun w hw => x_sIdx _ _ _ _ _ _ _ _ s b c hcb rfl rfl w) ?_
      simp only [Act.put, List.setIfInBounds_toArray, List.set_cons_succ, List.set_cons_zero]
      refine w_value (.bool tt) (by kernel_rfl) (fun w hw => x_neB _ _ _ _ _ _ _ _ c 47 tt htt rfl rfl w) ?_
      simp only [Act.put, List.setIfInBounds_toArray, List.set_cons_succ, List.set_cons_zero]
      refine w_value (.bool tt) (by kernel_rfl) (fun w hw => x_pick _ _ _ _ _ _ _ _ _ true (.bool tt) (.bool false) rfl rfl rfl w) ?_
      simp only [Act.put, List.setIfInBounds_toArray, List.set_cons_succ, List.set_cons_zero]
      refine w_nil ?_
      intro W hCW
      have HLW := hide (HLJ.out.keep (HCB.out W hCW))
      have HAW := hide (HA.out.trans (Aside.of_below (HCB.out W hCW)))
      clear hCW y0 y1
      cases tt with
      | true =>
        have h47 : c ≠ 47 := by rintro rfl; simp at htt
        obtain ⟨t2, ht2⟩ : ∃ t2, ((c : Int) == ((92 : Nat) : Int)) = t2 := ⟨_, rfl⟩
        obtain ⟨C2, hC2⟩ : ∃ C2 : World → Prop, C2 = fun V => Below W.heap.size W V := ⟨_, rfl⟩
        have HC2D : Hid (C2 { W with drawn := W.drawn + 1 }) := by rw [hC2]; exact ⟨rfl, rfl, rfl, Nat.le_refl _, fun _ _ => rfl⟩
        have HC2B : Hid (∀ V, C2 V → Below W.heap.size W V) := by rw [hC2]; exact fun V h => h
        clear hC2
        have z0 : ∀ V, C2 V → V.cell? ⟨p, 0, none⟩ = some (.string s) := fun V hV => (HLW.out.keep (HC2B.out V hV)).c0
        have z1 : ∀ V, C2 V → V.cell? ⟨p, 1, none⟩ = some (.int .i64 b) := fun V hV => (HLW.out.keep (HC2B.out V hV)).c1
        go_wp2
        try rw [show Value.pointer (some ⟨p, 0, none⟩) = PT p from rfl]
        refine w_lit (C := C2) (by kernel_rfl) (by kernel_rfl) HC2D.out ?_
        refine w_value (PT p) (by kernel_rfl) (fun w hw => x_move _ _ _ _ _ _ _ _ rfl w) ?_
        simp only [Act.put, List.setIfInBounds_toArray, List.set_cons_succ, List.set_cons_zero]
        refine w_value (PT p) (by kernel_rfl) (fun w hw => x_nilCheck _ _ _ _ _ _ _ _ rfl w) ?_
        simp only [Act.put, List.setIfInBounds_toArray, List.set_cons_succ, List.set_cons_zero]
        refine w_value (PT p) (by kernel_rfl) (fun w hw => x_lxF0 _ _ _ _ _ _ _ _ rfl w) ?_
        simp only [Act.put, List.setIfInBounds_toArray, List.set_cons_succ, List.set_cons_zero]
        refine w_value (.string s) (by kernel_rfl) (fun w hw => x_ldS _ _ _ _ _ _ _ p _ rfl w (z0 w hw)) ?_
        simp only [Act.put, List.setIfInBounds_toArray, List.set_cons_succ, List.set_cons_zero]
        refine w_value (PT p) (by kernel_rfl) (fun w hw => x_move _ _ _ _ _ _ _ _ rfl w) ?_
        simp only [Act.put, List.setIfInBounds_toArray, List.set_cons_succ, List.set_cons_zero]
        refine w_value (PT p) (by kernel_rfl) (fun w hw => x_nilCheck _ _ _ _ _ _ _ _ rfl w) ?_
        simp only [Act.put, List.setIfInBounds_toArray, List.set_cons_succ, List.set_cons_zero]
        refine w_value (.pointer (some ⟨p, 1, none⟩)) (by kernel_rfl) (fun w hw => x_lxF1 _ _ _ _ _ _ _ _ rfl w) ?_
        simp only [Act.put, List.setIfInBounds_toArray, List.set_cons_succ, List.set_cons_zero]
        refine w_value (.int .i64 b) (by kernel_rfl) (fun w hw => x_ldN _ _ _ _ _ _ _ p 1 _ rfl w (z1 w hw)) ?_
        simp only [Act.put, List.setIfInBounds_toArray, List.set_cons_succ, List.set_cons_zero]
        refine w_value (.int .u8 c) (by kernel_rfl) (fun w hw => x_sIdx _ _ _ _ _ _ _ _ s b c hcb rfl rfl w) ?_
        simp only [Act.put, List.setIfInBounds_toArray, List.set_cons_succ, List.set_cons_zero]
        refine w_value (.bool t2) (by kernel_rfl) (fun w hw => x_eqB _ _ _ _ _ _ _ _ c 92 t2 ht2 rfl rfl w) ?_
        simp only [Act.put, List.setIfInBounds_toArray, List.set_cons_succ, List.set_cons_zero]
        refine w_nil ?_
        intro X hCW
        have HLX := hide (HLW.out.keep (HC2B.out X hCW))
        have HAX := hide (HAW.out.trans (Aside.of_below (HC2B.out X hCW)))
        clear hCW z0 z1
        cases t2 with
        | true =>
          have HJ2 : Hid (j + 2 + reN ((bytesN s).drop (b + 2)) = n) := by
            show _ = _
            have h := HJ.out
            rw [HDR.out] at h
            have h92 : c = 92 := by
              have := ht2
              simp at this
              omega
            subst h92
            cases hd : (bytesN s).drop (b + 1) with
            | nil =>
              rw [hd, reN_92e] at h
              have hd2 : (bytesN s).drop (b + 2) = [] := by
                rw [show b + 2 = b + 1 + 1 from rfl, ← List.drop_drop, hd]; rfl
              rw [hd2]
              have h0 : reN [] = 0 := rfl
              omega
            | cons x r =>
              rw [hd, reN_92] at h
              have hd2 : (bytesN s).drop (b + 2) = r := by
                rw [show b + 2 = b + 1 + 1 from rfl, ← List.drop_drop, hd]; rfl
              rw [hd2]
              omega
          have c1 := HLX.out.c1
          have f1 := HLX.out.blk.frozen 1
          have HM2a := hide (HLX.out.move (b + 1) (by omega))
          have c1b := HM2a.out.c1
          have f1b := HM2a.out.blk.frozen 1
          have HM2 := hide (HM2a.out.move (b + 2) (by omega))
          have HA2 := hide ((HAX.out.trans (Aside.put X p 1 (.int .i64 ((b + 1 : Nat) : Int)))).trans (Aside.put _ p 1 (.int .i64 ((b + 2 : Nat) : Int))))
          have e1 : ((b + 1 : Nat) : Int) = (b : Int) + 1 := by omega
          have e2 : ((b + 2 : Nat) : Int) = (b : Int) + 1 + 1 := by omega
          rw [e1] at c1b f1b HM2 HA2
          rw [e2] at HM2 HA2
          clear e1 e2 HM2a
          unfold PT
          clear ht2 htt hcb HDR hlt
          go_wp2
          have hm := HM2.out
          have ha2 := HA2.out
          have hb2 := HBB.out
          have hj2 := HJ2.out
          refine ⟨⟨j + 2, by rw [← Nat.add_assoc, ← hb2]; exact hm, by rw [← Nat.add_assoc, ← hb2]; exact hj2, ha2, by omega⟩, ?_⟩
          rw [hm.atOf, HAT.out]
          omega
        | false =>
          have HJ2 : Hid (j + 1 + reN ((bytesN s).drop (b + 1)) = n) := by
            show _ = _
            have h := HJ.out
            rw [HDR.out] at h
            have h92 : c ≠ 92 := by rintro rfl; simp at ht2
            rw [reN_x _ h47 h92] at h
            omega
          have c1 := HLX.out.c1
          have f1 := HLX.out.blk.frozen 1
          have HM2 := hide (HLX.out.move (b + 1) (by omega))
          have HA2 := hide (HAX.out.trans (Aside.put X p 1 (.int .i64 ((b + 1 : Nat) : Int))))
          have e1 : ((b + 1 : Nat) : Int) = (b : Int) + 1 := by omega
          rw [e1] at HM2 HA2
          clear e1
          unfold PT
          clear ht2 htt hcb HDR hlt
          go_wp2
          have hm := HM2.out
          have ha2 := HA2.out
          have hb2 := HBB.out
          have hj2 := HJ2.out
          refine ⟨⟨j + 1, by rw [← Nat.add_assoc, ← hb2]; exact hm, by rw [← Nat.add_assoc, ← hb2]; exact hj2, ha2, by omega⟩, ?_⟩
          rw [hm.atOf, HAT.out]
          omega
      | false =>
        have h47 : c = 47 := by simp at htt; omega
        have HBK : Hid (b = a + 1 + n) := by
          show _ = _
          have h := HJ.out
          rw [HDR.out, h47, reN_47] at h
          have := HBB.out
          omega
        clear HDR htt hcb
        go_wp2
        try rw [show Value.pointer (some ⟨p, 0, none⟩) = PT p from rfl]
        have hS : LxAt { W with drawn := W.drawn + 1 } p s b 0 x0 ∧ Aside p w { W with drawn := W.drawn + 1 } := ⟨HLW.out.keep ⟨rfl, rfl, rfl, Nat.le_refl _, fun _ _ => rfl⟩, HAW.out.trans ⟨rfl, rfl, rfl, Nat.le_refl _, fun _ _ _ => rfl⟩⟩
        refine wp_region_noPanic (wp_region_held (S := fun X => LxAt X p s b 0 x0 ∧ Aside p w X) (by kernel_rfl) ?_)
        show wpAnyH _ _ _ _ _ 14 #[false, false, false, false, false, false, false, false, false, false, false, false, false, false] _ _
        generalize ({ W with drawn := W.drawn + 1 } : World) = X at hS ⊢
        refine h_take 0 (PT p) rfl (by kernel_rfl) (by kernel_rfl) (by kernel_rfl) rfl (fun w hw => x_move _ _ _ _ _ _ _ _ rfl w) hS ?_
        simp only [Act.put, List.setIfInBounds_toArray, List.set_cons_succ, List.set_cons_zero]
        refine h_take 1 (PT p) rfl (by kernel_rfl) (by kernel_rfl) (by kernel_rfl) rfl (fun w hw => x_move _ _ _ _ _ _ _ _ rfl w) hS ?_
        simp only [Act.put, List.setIfInBounds_toArray, List.set_cons_succ, List.set_cons_zero]
        refine h_take 2 (PT p) rfl (by kernel_rfl) (by kernel_rfl) (by kernel_rfl) rfl (fun w hw => x_nilCheck _ _ _ _ _ _ _ _ rfl w) hS ?_
        simp only [Act.put, List.setIfInBounds_toArray, List.set_cons_succ, List.set_cons_zero]
        refine h_take 3 (.pointer (some ⟨p, 1, none⟩)) rfl (by kernel_rfl) (by kernel_rfl) (by kernel_rfl) rfl (fun w hw => x_lxF1 _ _ _ _ _ _ _ _ rfl w) hS ?_
        simp only [Act.put, List.setIfInBounds_toArray, List.set_cons_succ, List.set_cons_zero]
        refine h_take 4 (.int .i64 b) rfl (by kernel_rfl) (by kernel_rfl) (by kernel_rfl) rfl (fun w hw => x_ldN _ _ _ _ _ _ _ p 1 _ rfl w hw.1.c1) hS ?_
        simp only [Act.put, List.setIfInBounds_toArray, List.set_cons_succ, List.set_cons_zero]
        refine h_take 5 (PT p) rfl (by kernel_rfl) (by kernel_rfl) (by kernel_rfl) rfl (fun w hw => x_move _ _ _ _ _ _ _ _ rfl w) hS ?_
        simp only [Act.put, List.setIfInBounds_toArray, List.set_cons_succ, List.set_cons_zero]
        refine h_take 6 (PT p) rfl (by kernel_rfl) (by kernel_rfl) (by kernel_rfl) rfl (fun w hw => x_nilCheck _ _ _ _ _ _ _ _ rfl w) hS ?_
        simp only [Act.put, List.setIfInBounds_toArray, List.set_cons_succ, List.set_cons_zero]
        refine h_take 7 (PT p) rfl (by kernel_rfl) (by kernel_rfl) (by kernel_rfl) rfl (fun w hw => x_lxF0 _ _ _ _ _ _ _ _ rfl w) hS ?_
        simp only [Act.put, List.setIfInBounds_toArray, List.set_cons_succ, List.set_cons_zero]
        refine h_take 8 (.string s) rfl (by kernel_rfl) (by kernel_rfl) (by kernel_rfl) rfl (fun w hw => x_ldS _ _ _ _ _ _ _ p _ rfl w hw.1.c0) hS ?_
        simp only [Act.put, List.setIfInBounds_toArray, List.set_cons_succ, List.set_cons_zero]
        refine h_take 9 (.int .i64 s.size) rfl (by kernel_rfl) (by kernel_rfl) (by kernel_rfl) rfl (fun w hw => x_lenS _ _ _ _ _ _ _ s rfl w) hS ?_
        simp only [Act.put, List.setIfInBounds_toArray, List.set_cons_succ, List.set_cons_zero]
        refine h_take 10 (.int .i64 (min (b : Int) s.size)) rfl (by kernel_rfl) (by kernel_rfl) (by kernel_rfl) rfl (fun w hw => x_min _ _ _ _ _ _ _ _ _ _ rfl rfl w) hS ?_
        simp only [Act.put, List.setIfInBounds_toArray, List.set_cons_succ, List.set_cons_zero]
        refine h_take 11 (PT p) rfl (by kernel_rfl) (by kernel_rfl) (by kernel_rfl) rfl (fun w hw => x_nilCheck _ _ _ _ _ _ _ _ rfl w) hS ?_
        simp only [Act.put, List.setIfInBounds_toArray, List.set_cons_succ, List.set_cons_zero]
        refine h_take 12 (.pointer (some ⟨p, 1, none⟩)) rfl (by kernel_rfl) (by kernel_rfl) (by kernel_rfl) rfl (fun w hw => x_lxF1 _ _ _ _ _ _ _ _ rfl w) hS ?_
        simp only [Act.put, List.setIfInBounds_toArray, List.set_cons_succ, List.set_cons_zero]
        have hmin : min (b : Int) s.size = b := by omega
        rw [hmin]
        have hS2 : LxAt (X.setCell ⟨p, 1, none⟩ (.int .i64 b)) p s b 0 x0 ∧ Aside p w (X.setCell ⟨p, 1, none⟩ (.int .i64 b)) := ⟨hS.1.move b (by omega), hS.2.trans (Aside.put X p 1 _)⟩
        refine h_step 13 (X.setCell ⟨p, 1, none⟩ (.int .i64 b)) rfl (by kernel_rfl) rfl (x_stN _ _ _ _ _ _ _ _ p b _ rfl rfl _ hS.1.c1 (hS.1.blk.frozen 1)) hS2 ?_
        simp only [Act.put, List.setIfInBounds_toArray, List.set_cons_succ, List.set_cons_zero]
        refine wpAnyH_done (by kernel_rfl) ?_ _
        refine NoPanic.normal ?_
        generalize (X.setCell ⟨p, 1, none⟩ (.int .i64 b)) = W2 at hS2 ⊢
        have HL2 := hide hS2.1
        have HA2 := hide hS2.2
        clear hS hS2 hmin
        have d1 := HL2.out.c1
        have HCL := hide (lxClosed_any p s b 0 x0 W2 HL2.out (by omega))
        unfold PT at HCL
        unfold PT
        go_wp2_with fail
        refine HCL.out.mono ?_
        rintro r w3 ⟨rfl, h3, hA3⟩
        rw [if_neg (by omega)] at h3
        have HL3 := hide h3
        have HA3 := hide (HA2.out.trans hA3)
        have e2 := h3.c2
        have e0 := h3.c0
        clear h3 hA3 HCL d1
        have hT3 : TabAt w3 := HT.out.2.asideL HT.out.1 HA3.out
        have HRD := hide (read_any (s.extract (a + 1) b) w3 (by have := extract_size s (a + 1) b; omega) hT3)
        have hb1 : (a : Int) + 1 ≤ (b : Int) := by have := HBK.out; omega
        have hb2 : (b : Int) ≤ (s.size : Int) := by omega
        have hb0 : (0 : Int) ≤ (a : Int) + 1 := by omega
        have hto : ((a : Int) + 1).toNat = a + 1 := by omega
        have HEX : Hid (s.extract (a + 1) (a + 1 + n) = s.extract (a + 1) b) := by show _ = _; rw [HBK.out]
        by_cases hr : (rdEnd (bytesN (s.extract (a + 1) b))).err = 0
        · have HR := hide hr
          clear hr
          go_wp2_with fail
          refine HRD.out.mono ?_
          intro r w4 hp
          obtain ⟨q, rfl, hq, hb4⟩ := hp.1 HR.out
          have HQ := hide hq
          have HL4 := hide (HL3.out.keep hb4)
          have HA4 := hide (HA3.out.trans (Aside.of_below hb4))
          clear hp hq hb4
          unfold PT
          go_wp2
          go_ret
          refine ⟨fun h => absurd h (by have := HBK.out; omega), fun _ h => ⟨q, rfl, ?_, ?_⟩, fun _ h => absurd ?_ h, HA4.out⟩
          · rw [HEX.out]; exact HQ.out
          · rw [← HBK.out]; exact HL4.out
          · rw [HEX.out]; exact HR.out
        · have HR := hide hr
          obtain ⟨er, her⟩ : ∃ er, er = (rdEnd (bytesN (s.extract (a + 1) b))).err := ⟨_, rfl⟩
          obtain ⟨wh, hwh⟩ : ∃ wh, wh = (rdEnd (bytesN (s.extract (a + 1) b))).wh := ⟨_, rfl⟩
          have HW1 := hide her
          have HW2 := hide hwh
          rw [← her] at hr
          have hne : ((er : Int) != 0) = true := by simp; omega
          have hwhb : (wh : Int) ≤ 65536 := by
            have h1 := (rd_within (l := bytesN (s.extract (a + 1) b)) (by rw [bN_len]; have := extract_size s (a + 1) b; omega) HR.out).2
            rw [bN_len, ← hwh] at h1
            have h2 := extract_size s (a + 1) b
            omega
          clear hr her hwh
          go_wp2_with fail
          refine HRD.out.mono ?_
          intro r w4 hp
          obtain ⟨rfl, hb4⟩ := hp.2 HR.out
          rw [← HW1.out, ← HW2.out]
          have HL4 := hide (HL3.out.keep hb4)
          have HA4 := hide (HA3.out.trans (Aside.of_below hb4))
          clear hp hb4
          have HFL := hide (lxFail_any p er (a + 1 + wh) s (b + 1) 0 x0 w4 HL4.out)
          have hcast : ((a + 1 + wh : Nat) : Int) = (a : Int) + 1 + (wh : Int) := by omega
          rw [hcast] at HFL
          clear hcast
          unfold PT at HFL
          try unfold PT
          go_wp2_with fail
          refine HFL.out.mono ?_
          rintro r w5 ⟨rfl, h5, hA5⟩
          have HL5 := hide h5
          have HA5 := hide (HA4.out.trans hA5)
          clear h5 hA5
          go_wp2
          go_ret
          refine ⟨fun h => absurd h (by have := HBK.out; omega), fun _ h => absurd ?_ HR.out, fun _ h => ⟨b + 1, rfl, ?_⟩, HA5.out⟩
          · rw [HEX.out] at h; exact h
          · rw [HEX.out, ← HW1.out, ← HW2.out]; exact HL5.out
    · have HBK : Hid (s.size ≤ a + 1 + n) := by
        show _ ≤ _
        have h := HJ.out
        have := HBB.out
        omega
      have hlt : decide ((b : Int) < (s.size : Int)) = false := by simp; omega
      obtain ⟨C, hC⟩ : ∃ C : World → Prop, C = fun V => Below wr.heap.size wr V := ⟨_, rfl⟩
      have HCD : Hid (C { wr with drawn := wr.drawn + 1 }) := by rw [hC]; exact ⟨rfl, rfl, rfl, Nat.le_refl _, fun _ _ => rfl⟩
      have HCB : Hid (∀ V, C V → Below wr.heap.size wr V) := by rw [hC]; exact fun V h => h
      clear hC
      have y0 : ∀ V, C V → V.cell? ⟨p, 0, none⟩ = some (.string s) := fun V hV => (HLJ.out.keep (HCB.out V hV)).c0
      have y1 : ∀ V, C V → V.cell? ⟨p, 1, none⟩ = some (.int .i64 b) := fun V hV => (HLJ.out.keep (HCB.out V hV)).c1
      go_wp2
      try rw [show Value.pointer (some ⟨p, 0, none⟩) = PT p from rfl]
      refine w_lit (C := C) (by kernel_rfl) (by kernel_rfl) HCD.out ?_
      refine w_value (PT p) (by kernel_rfl) (fun w hw => x_move _ _ _ _ _ _ _ _ rfl w) ?_
      simp only [Act.put, List.setIfInBounds_toArray, List.set_cons_succ, List.set_cons_zero]
      refine w_value (PT p) (by kernel_rfl) (fun w hw => x_nilCheck _ _ _ _ _ _ _ _ rfl w) ?_
      simp only [Act.put, List.setIfInBounds_toArray, List.set_cons_succ, List.set_cons_zero]
      refine w_value (.pointer (some ⟨p, 1, none⟩)) (by kernel_rfl) (fun w hw => x_lxF1 _ _ _ _ _ _ _ _ rfl w) ?_
      simp only [Act.put, List.setIfInBounds_toArray, List.set_cons_succ, List.set_cons_zero]
      refine w_value (.int .i64 b) (by kernel_rfl) (fun w hw => x_ldN _ _ _ _ _ _ _ p 1 _ rfl w (y1 w hw)) ?_
      simp only [Act.put, List.setIfInBounds_toArray, List.set_cons_succ, List.set_cons_zero]
      refine w_value (PT p) (by kernel_rfl) (fun w hw => x_move _ _ _ _ _ _ _ _ rfl w) ?_
      simp only [Act.put, List.setIfInBounds_toArray, List.set_cons_succ, List.set_cons_zero]
      refine w_value (PT p) (by kernel_rfl) (fun w hw => x_nilCheck _ _ _ _ _ _ _ _ rfl w) ?_
      simp only [Act.put, List.setIfInBounds_toArray, List.set_cons_succ, List.set_cons_zero]
      refine w_value (PT p) (by kernel_rfl) (fun w hw => x_lxF0 _ _ _ _ _ _ _ _ rfl w) ?_
      simp only [Act.put, List.setIfInBounds_toArray, List.set_cons_succ, List.set_cons_zero]
      refine w_value (.string s) (by kernel_rfl) (fun w hw => x_ldS _ _ _ _ _ _ _ p _ rfl w (y0 w hw)) ?_
      simp only [Act.put, List.setIfInBounds_toArray, List.set_cons_succ, List.set_cons_zero]
      refine w_value (.int .i64 s.size) (by kernel_rfl) (fun w hw => x_lenS _ _ _ _ _ _ _ s rfl w) ?_
      simp only [Act.put, List.setIfInBounds_toArray, List.set_cons_succ, List.set_cons_zero]
      refine w_value (.bool false) (by kernel_rfl) (fun w hw => x_lssZ _ _ _ _ _ _ _ _ b s.size false hlt rfl rfl w) ?_
      simp only [Act.put, List.setIfInBounds_toArray, List.set_cons_succ, List.set_cons_zero]
      refine w_value (.bool false) (by kernel_rfl) (fun w hw => x_move _ _ _ _ _ _ _ _ rfl w) ?_
      simp only [Act.put, List.setIfInBounds_toArray, List.set_cons_succ, List.set_cons_zero]
      refine w_skip (by kernel_rfl) ?_
      simp only [Act.put, List.setIfInBounds_toArray, List.set_cons_succ, List.set_cons_zero]
      refine w_skip (by kernel_rfl) ?_
      simp only [Act.put, List.setIfInBounds_toArray, List.set_cons_succ, List.set_cons_zero]
      refine w_skip (by kernel_rfl) ?_
      simp only [Act.put, List.setIfInBounds_toArray, List.set_cons_succ, List.set_cons_zero]
      refine w_skip (by kernel_rfl) ?_
      simp only [Act.put, List.setIfInBounds_toArray, List.set_cons_succ, List.set_cons_zero]
      refine w_skip (by kernel_rfl) ?_
      simp only [Act.put, List.setIfInBounds_toArray, List.set_cons_succ, List.set_cons_zero]
      refine w_skip (by kernel_rfl) ?_
      simp only [Act.put, List.setIfInBounds_toArray, List.set_cons_succ, List.set_cons_zero]
      refine w_skip (by kernel_rfl) ?_
      simp only [Act.put, List.setIfInBounds_toArray, List.set_cons_succ, List.set_cons_zero]
      refine w_skip (by kernel_rfl) ?_
      simp only [Act.put, List.setIfInBounds_toArray, List.set_cons_succ, List.set_cons_zero]
      refine w_skip (by kernel_rfl) ?_
      simp only [Act.put, List.setIfInBounds_toArray, List.set_cons_succ, List.set_cons_zero]
      refine w_skip (by kernel_rfl) ?_
      simp only [Act.put, List.setIfInBounds_toArray, List.set_cons_succ, List.set_cons_zero]
      refine w_value (.bool false) (by kernel_rfl) (fun w hw => x_pick _ _ _ _ _ _ _ _ _ false undef (.bool false) rfl rfl rfl w) ?_
      simp only [Act.put, List.setIfInBounds_toArray, List.set_cons_succ, List.set_cons_zero]
      refine w_nil ?_
      intro W hCW
      have HLW := hide (HLJ.out.keep (HCB.out W hCW))
      have HAW := hide (HA.out.trans (Aside.of_below (HCB.out W hCW)))
      clear hCW y0 y1
      go_wp2
      try rw [show Value.pointer (some ⟨p, 0, none⟩) = PT p from rfl]
      have hS : (∃ z, LxAt { W with drawn := W.drawn + 1 } p s z 0 x0) ∧ Aside p w { W with drawn := W.drawn + 1 } := ⟨⟨b, HLW.out.keep ⟨rfl, rfl, rfl, Nat.le_refl _, fun _ _ => rfl⟩⟩, HAW.out.trans ⟨rfl, rfl, rfl, Nat.le_refl _, fun _ _ _ => rfl⟩⟩
      have HLX : Hid (LxAt { W with drawn := W.drawn + 1 } p s b 0 x0) := HLW.out.keep ⟨rfl, rfl, rfl, Nat.le_refl _, fun _ _ => rfl⟩
      refine wp_region_noPanic (wp_region_held (S := fun X => (∃ z, LxAt X p s z 0 x0) ∧ Aside p w X) (by kernel_rfl) ?_)
      show wpAnyH _ _ _ _ _ 14 #[false, false, false, false, false, false, false, false, false, false, false, false, false, false] _ _
      generalize ({ W with drawn := W.drawn + 1 } : World) = X at hS HLX ⊢
      refine h_take 0 (PT p) rfl (by kernel_rfl) (by kernel_rfl) (by kernel_rfl) rfl (fun w hw => x_move _ _ _ _ _ _ _ _ rfl w) hS ?_
      simp only [Act.put, List.setIfInBounds_toArray, List.set_cons_succ, List.set_cons_zero]
      refine h_take 1 (PT p) rfl (by kernel_rfl) (by kernel_rfl) (by kernel_rfl) rfl (fun w hw => x_move _ _ _ _ _ _ _ _ rfl w) hS ?_
      simp only [Act.put, List.setIfInBounds_toArray, List.set_cons_succ, List.set_cons_zero]
      refine h_take 2 (PT p) rfl (by kernel_rfl) (by kernel_rfl) (by kernel_rfl) rfl (fun w hw => x_nilCheck _ _ _ _ _ _ _ _ rfl w) hS ?_
      simp only [Act.put, List.setIfInBounds_toArray, List.set_cons_succ, List.set_cons_zero]
      refine h_take 3 (.pointer (some ⟨p, 1, none⟩)) rfl (by kernel_rfl) (by kernel_rfl) (by kernel_rfl) rfl (fun w hw => x_lxF1 _ _ _ _ _ _ _ _ rfl w) hS ?_
      simp only [Act.put, List.setIfInBounds_toArray, List.set_cons_succ, List.set_cons_zero]
      refine h_take 5 (PT p) rfl (by kernel_rfl) (by kernel_rfl) (by kernel_rfl) rfl (fun w hw => x_move _ _ _ _ _ _ _ _ rfl w) hS ?_
      simp only [Act.put, List.setIfInBounds_toArray, List.set_cons_succ, List.set_cons_zero]
      refine h_take 6 (PT p) rfl (by kernel_rfl) (by kernel_rfl) (by kernel_rfl) rfl (fun w hw => x_nilCheck _ _ _ _ _ _ _ _ rfl w) hS ?_
      simp only [Act.put, List.setIfInBounds_toArray, List.set_cons_succ, List.set_cons_zero]
      refine h_take 7 (PT p) rfl (by kernel_rfl) (by kernel_rfl) (by kernel_rfl) rfl (fun w hw => x_lxF0 _ _ _ _ _ _ _ _ rfl w) hS ?_
      simp only [Act.put, List.setIfInBounds_toArray, List.set_cons_succ, List.set_cons_zero]
      refine h_take 8 (.string s) rfl (by kernel_rfl) (by kernel_rfl) (by kernel_rfl) rfl (fun w hw => x_ldS _ _ _ _ _ _ _ p _ rfl w (by obtain ⟨⟨z, hz⟩, -⟩ := hw; exact hz.c0)) hS ?_
      simp only [Act.put, List.setIfInBounds_toArray, List.set_cons_succ, List.set_cons_zero]
      refine h_take 9 (.int .i64 s.size) rfl (by kernel_rfl) (by kernel_rfl) (by kernel_rfl) rfl (fun w hw => x_lenS _ _ _ _ _ _ _ s rfl w) hS ?_
      simp only [Act.put, List.setIfInBounds_toArray, List.set_cons_succ, List.set_cons_zero]
      refine h_alloc 4 (.int .i64 b) X rfl (by kernel_rfl) rfl (x_ldN _ _ _ _ _ _ _ p 1 _ rfl X HLX.out.c1) hS ?_
      simp only [Act.put, List.setIfInBounds_toArray, List.set_cons_succ, List.set_cons_zero]
      refine h_alloc 10 (.int .i64 (min (b : Int) s.size)) X rfl (by kernel_rfl) rfl (x_min _ _ _ _ _ _ _ _ _ _ rfl rfl X) hS ?_
      simp only [Act.put, List.setIfInBounds_toArray, List.set_cons_succ, List.set_cons_zero]
      refine h_take 11 (PT p) rfl (by kernel_rfl) (by kernel_rfl) (by kernel_rfl) rfl (fun w hw => x_nilCheck _ _ _ _ _ _ _ _ rfl w) hS ?_
      simp only [Act.put, List.setIfInBounds_toArray, List.set_cons_succ, List.set_cons_zero]
      refine h_take 12 (.pointer (some ⟨p, 1, none⟩)) rfl (by kernel_rfl) (by kernel_rfl) (by kernel_rfl) rfl (fun w hw => x_lxF1 _ _ _ _ _ _ _ _ rfl w) hS ?_
      simp only [Act.put, List.setIfInBounds_toArray, List.set_cons_succ, List.set_cons_zero]
      have hmin : min (b : Int) s.size = s.size := by omega
      rw [hmin]
      have HL2 := hide (HLX.out.move s.size (by omega))
      have HA2 := hide (hS.2.trans (Aside.put X p 1 (.int .i64 (s.size : Int))))
      refine h_step 13 (X.setCell ⟨p, 1, none⟩ (.int .i64 s.size)) rfl (by kernel_rfl) rfl (x_stN _ _ _ _ _ _ _ _ p s.size _ rfl rfl _ HLX.out.c1 (HLX.out.blk.frozen 1)) ⟨⟨_, HL2.out⟩, HA2.out⟩ ?_
      simp only [Act.put, List.setIfInBounds_toArray, List.set_cons_succ, List.set_cons_zero]
      refine wpAnyH_done (by kernel_rfl) ?_ _
      refine NoPanic.normal ?_
      generalize (X.setCell ⟨p, 1, none⟩ (.int .i64 s.size)) = W2 at HL2 HA2 ⊢
      clear hS hmin HLX
      have d1 := HL2.out.c1
      have HCL := hide (lxClosed_any p s s.size 0 x0 W2 HL2.out (Nat.le_refl _))
      unfold PT at HCL
      unfold PT
      go_wp2_with fail
      refine HCL.out.mono ?_
      rintro r w3 ⟨rfl, h3, hA3⟩
      first | rw [if_pos rfl] at h3 | rw [if_pos trivial] at h3
      have HL3 := hide h3
      have HA3 := hide (HA2.out.trans hA3)
      have e2 := h3.c2
      clear h3 hA3 HCL d1
      go_wp2
      go_ret
      exact ⟨fun _ => ⟨_, rfl, HL3.out⟩, fun h => absurd h (by have := HBK.out; omega), fun h => absurd h (by have := HBK.out; omega), HA3.out⟩
end Go.Proofs.YtjlgepahgmkamaaGreatDoor
