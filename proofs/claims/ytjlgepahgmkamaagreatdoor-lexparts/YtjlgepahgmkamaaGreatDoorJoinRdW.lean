/- Texts of this claim put together: LxS, RunA, RdW. -/
import Derived.Test.YtjlgepahgmkamaaGreatDoorJoinLxG
import Derived.Test.YtjlgepahgmkamaaGreatDoorJoinRdL
/- The reader of programs: blanks and remarks. -/
namespace Go.Proofs.YtjlgepahgmkamaaGreatDoor
set_option maxRecDepth 100000
set_option linter.unusedSimpArgs false
set_option linter.unusedVariables false
open Go.RowKit Go.Shelf
section
variable (ρ : Operand → Value) (d : Option Tmp) (x : Operand) (t : TypeId) (pos : String) (af : Array Edge) (g : Option (Nat × Bool))
theorem x_ext0T (u v z : Value) (hx : ρ x = .tuple #[u, v, z]) (w : World) : (execOp ρ { dst := d, op := .extract x 0, type := t, pos := pos, after := af, guard := g }).run Tryz.prog w = .ok (.value u) w := by
  simp [go_sem, hx]
theorem x_ext1T (u v z : Value) (hx : ρ x = .tuple #[u, v, z]) (w : World) : (execOp ρ { dst := d, op := .extract x 1, type := t, pos := pos, after := af, guard := g }).run Tryz.prog w = .ok (.value v) w := by
  simp [go_sem, hx]
theorem x_ext2T (u v z : Value) (hx : ρ x = .tuple #[u, v, z]) (w : World) : (execOp ρ { dst := d, op := .extract x 2, type := t, pos := pos, after := af, guard := g }).run Tryz.prog w = .ok (.value z) w := by
  simp [go_sem, hx]
end
set_option maxHeartbeats 8000000 in
theorem lxSkip (p : Nat) (s : ByteArray) (a e0 x0 k : Nat) (w : World) (h : LxAt w p s a e0 x0) (ha : a ≤ s.size) (hk : k = skN false ((bytesN s).drop a)) :
    Calls Tryz.prog 36 #[PT p] w fun r w' => r = .returned (.tuple #[]) ∧ LxAt w' p s (a + k) e0 x0 ∧ Aside p w w' := by
  have HL := hide h
  have hks : a + k ≤ s.size := by
    have := skN_le ((bytesN s).drop a) false
    rw [List.length_drop, bN_len] at this
    omega
  have hbig := h.big
  have HK := hide hk
  clear h hk
  unfold PT
  go_enter Tryz.func36, Tryz.ntmps36
  go_wp2
  go_step3
  go_wp2
  go_step3
  go_wp2
  go_loopw [14] (fun _ wr => Hid (∃ j, LxAt wr p s (a + j) e0 x0 ∧ j + skN false ((bytesN s).drop (a + j)) = k ∧ Aside p w wr)) (fun _ wr => s.size - atOf wr p)
  case atStart => exact ⟨0, HL.out, by rw [Nat.zero_add, Nat.add_zero]; exact HK.out.symm, Aside.refl _ _⟩
  case round =>
    obtain ⟨j, hL, hj, hA⟩ := hrel
    have HLJ := hide hL
    have HJ := hide hj
    have HA := hide hA
    have hjk : j ≤ k := by omega
    have hat := hL.atOf
    have HAT := hide hat
    clear hL hj hA hat
    obtain ⟨C, hC⟩ : ∃ C : World → Prop, C = fun W => Below wr.heap.size wr W := ⟨_, rfl⟩
    have HCD : Hid (C { wr with drawn := wr.drawn + 1 }) := by rw [hC]; exact ⟨rfl, rfl, rfl, Nat.le_refl _, fun _ _ => rfl⟩
    have HCB : Hid (∀ W, C W → Below wr.heap.size wr W) := by rw [hC]; exact fun W h => h
    clear hC
    have y0 : ∀ W, C W → W.cell? ⟨p, 0, none⟩ = some (.string s) := fun W hW => (HLJ.out.keep (HCB.out W hW)).c0
    have y1 : ∀ W, C W → W.cell? ⟨p, 1, none⟩ = some (.int .i64 ((a + j : Nat) : Int)) := fun W hW => (HLJ.out.keep (HCB.out W hW)).c1
    obtain ⟨b, hb⟩ : ∃ b, b = a + j := ⟨_, rfl⟩
    rw [← hb] at HLJ HJ y1 HAT
    have HBB := hide hb
    clear hb
    by_cases hin : b < s.size
    · have hlt : decide ((b : Int) < (s.size : Int)) = true := by simp; omega
      obtain ⟨c, hcb⟩ : ∃ c, (bytesN s)[b]? = some c := ⟨_, List.getElem?_eq_getElem (by rw [bN_len]; exact hin)⟩
      have hc256 : c < 256 := bN_lt s c (List.mem_of_getElem? hcb)
      have HDR : Hid ((bytesN s).drop b = c :: (bytesN s).drop (b + 1)) := by
        obtain ⟨hl, rfl⟩ := List.getElem?_eq_some_iff.1 hcb
        exact List.drop_eq_getElem_cons hl
      go_wp2
      try rw [show Value.pointer (some ⟨p, 0, none⟩) = PT p from rfl]
      refine w_lit (C := C) (by kernel_rfl) (by kernel_rfl) HCD.out ?_
      refine w_value (PT p) (by kernel_rfl) (fun w hw => x_move _ _ _ _ _ _ _ _ rfl w) ?_
      simp only [Act.put, List.setIfInBounds_toArray, List.set_cons_succ, List.set_cons_zero]
      refine w_value (PT p) (by kernel_rfl) (fun w hw => x_nilCheck _ _ _ _ _ _ _ _ rfl w) ?_
      simp only [Act.put, List.setIfInBounds_toArray, List.set_cons_succ, List.set_cons_zero]
      refine w_value (.pointer (some ⟨p, 1, none⟩)) (by kernel_rfl) (fun w hw => x_lxF1 _ _ _ _ _ _ _ _ rfl w) ?_
      simp only [Act.put, List.setIfInBounds_toArray, List.set_cons_succ, List.set_cons_zero]
      refine w_value (.int .i64 b) (by kernel_rfl) (fun w hw => x_ldN _ _ _ _ _ _ _ p 1 _ rfl w (y1 w hw)) ?_
      simp only [Act.put, List.setIfInBounds_toArray, List.set_cons_succ, List.set_cons_zero]
      refine w_value (PT p) (by kernel_rfl) (fun w hw => x_move _ _ _ _ _ _ _ _ rfl w) ?_
      simp only [Act.put, List.setIfInBounds_toArray, List.set_cons_succ, List.set_cons_zero]
      refine w_value (PT p) (by kernel_rfl) (fun w hw => x_nilCheck _ _ _ _ _ _ _ _ rfl w) ?_
      simp only [Act.put, List.setIfInBounds_toArray, List.set_cons_succ, List.set_cons_zero]
      refine w_value (PT p) (by kernel_rfl) (fun w hw => x_lxF0 _ _ _ _ _ _ _ _ rfl w) ?_
      simp only [Act.put, List.setIfInBounds_toArray, List.set_cons_succ, List.set_cons_zero]
      refine w_value (.string s) (by kernel_rfl) (fun w hw => x_ldS _ _ _ _ _ _ _ p _ rfl w (y0 w hw)) ?_
      simp only [Act.put, List.setIfInBounds_toArray, List.set_cons_succ, List.set_cons_zero]
      refine w_value (.int .i64 s.size) (by kernel_rfl) (fun w hw => x_lenS _ _ _ _ _ _ _ s rfl w) ?_
      simp only [Act.put, List.setIfInBounds_toArray, List.set_cons_succ, List.set_cons_zero]
      refine w_value (.bool true) (by kernel_rfl) (fun w hw => x_lssZ _ _ _ _ _ _ _ _ b s.size true hlt rfl rfl w) ?_
      simp only [Act.put, List.setIfInBounds_toArray, List.set_cons_succ, List.set_cons_zero]
      refine w_nil ?_
      intro W hCW
      have HLW := hide (HLJ.out.keep (HCB.out W hCW))
      have HAW := hide (HA.out.trans (Aside.of_below (HCB.out W hCW)))
      clear hCW y0 y1
      go_wp2
      try rw [show Value.pointer (some ⟨p, 0, none⟩) = PT p from rfl]
      obtain ⟨C2, hC2⟩ : ∃ C2 : World → Prop, C2 = fun X => Below W.heap.size W X := ⟨_, rfl⟩
      have HCD2 : Hid (C2 { W with drawn := W.drawn + 1 }) := by rw [hC2]; exact ⟨rfl, rfl, rfl, Nat.le_refl _, fun _ _ => rfl⟩
      have HCB2 : Hid (∀ X, C2 X → Below W.heap.size W X) := by rw [hC2]; exact fun X h => h
      clear hC2
      have z0 : ∀ X, C2 X → X.cell? ⟨p, 0, none⟩ = some (.string s) := fun X hX => (HLW.out.keep (HCB2.out X hX)).c0
      have z1 : ∀ X, C2 X → X.cell? ⟨p, 1, none⟩ = some (.int .i64 b) := fun X hX => (HLW.out.keep (HCB2.out X hX)).c1
      refine w_lit (C := C2) (by kernel_rfl) (by kernel_rfl) HCD2.out ?_
      refine w_value (PT p) (by kernel_rfl) (fun w hw => x_move _ _ _ _ _ _ _ _ rfl w) ?_
      simp only [Act.put, List.setIfInBounds_toArray, List.set_cons_succ, List.set_cons_zero]
      refine w_value (PT p) (by kernel_rfl) (fun w hw => x_nilCheck _ _ _ _ _ _ _ _ rfl w) ?_
      simp only [Act.put, List.setIfInBounds_toArray, List.set_cons_succ, List.set_cons_zero]
      refine w_value (PT p) (by kernel_rfl) (fun w hw => x_lxF0 _ _ _ _ _ _ _ _ rfl w) ?_
      simp only [Act.put, List.setIfInBounds_toArray, List.set_cons_succ, List.set_cons_zero]
      refine w_value (.string s) (by kernel_rfl) (fun w hw => x_ldS _ _ _ _ _ _ _ p _ rfl w (z0 w hw)) ?_
      simp only [Act.put, List.setIfInBounds_toArray, List.set_cons_succ, List.set_cons_zero]
      refine w_value (PT p) (by kernel_rfl) (fun w hw => x_move _ _ _ _ _ _ _ _ rfl w) ?_
      simp only [Act.put, List.setIfInBounds_toArray, List.set_cons_succ, List.set_cons_zero]
      refine w_value (PT p) (by kernel_rfl) (fun w hw => x_nilCheck _ _ _ _ _ _ _ _ rfl w) ?_
      simp only [Act.put, List.setIfInBounds_toArray, List.set_cons_succ, List.set_cons_zero]
      refine w_value (.pointer (some ⟨p, 1, none⟩)) (by kernel_rfl) (fun w hw => x_lxF1 _ _ _ _ _ _ _ _ rfl w) ?_
      simp only [Act.put, List.setIfInBounds_toArray, List.set_cons_succ, List.set_cons_zero]
      refine w_value (.int .i64 b) (by kernel_rfl) (fun w hw => x_ldN _ _ _ _ _ _ _ p 1 _ rfl w (z1 w hw)) ?_
      simp only [Act.put, List.setIfInBounds_toArray, List.set_cons_succ, List.set_cons_zero]
      refine w_value (.int .u8 c) (by kernel_rfl) (fun w hw => x_sIdx _ _ _ _ _ _ _ _ s b c hcb rfl rfl w) ?_
      simp only [Act.put, List.setIfInBounds_toArray, List.set_cons_succ, List.set_cons_zero]
      refine w_nil ?_
      intro X hCX
      have HLX := hide (HLW.out.keep (HCB2.out X hCX))
      have HAX := hide (HAW.out.trans (Aside.of_below (HCB2.out X hCX)))
      clear hCX z0 z1
      unfold PT
      cases hbl : isBl c with
      | true =>
        have HJ2 : Hid (j + 1 + skN false ((bytesN s).drop (b + 1)) = k) := by
          show _ = _
          have h := HJ.out
          rw [HDR.out, skN_bl hbl] at h
          omega
        have c1 := HLX.out.c1
        have f1 := HLX.out.blk.frozen 1
        have HM := hide (HLX.out.move (b + 1) (by omega))
        have HA2 := hide (HAX.out.trans (Aside.put X p 1 (.int .i64 ((b + 1 : Nat) : Int))))
        have HE1 : Hid (((b + 1 : Nat) : Int) = (b : Int) + 1) := by show _ = _; omega
        have h4 : c = 32 ∨ c = 9 ∨ c = 10 ∨ c = 13 := by unfold isBl at hbl; simp at hbl; omega
        clear hbl hcb HDR hc256
        rcases h4 with h4 | h4 | h4 | h4
        all_goals
          subst h4
          go_wp2
          have hm := HM.out
          have ha2 := HA2.out
          have hb2 := HBB.out
          have hj2 := HJ2.out
          rw [HE1.out] at hm ha2
          refine ⟨⟨j + 1, by rw [← Nat.add_assoc, ← hb2]; exact hm, by rw [← Nat.add_assoc, ← hb2]; exact hj2, ha2⟩, ?_⟩
          rw [hm.atOf, HAT.out]
          omega
      | false =>
        by_cases h35 : c = 35
        · obtain ⟨L, hL⟩ : ∃ L, L = (s.extract b s.size).extract 0 (cutK (s.extract b s.size)) := ⟨_, rfl⟩
          obtain ⟨U, hU⟩ : ∃ U, U = cutU (s.extract b s.size) := ⟨_, rfl⟩
          obtain ⟨F, hF⟩ : ∃ F, F = (bytesN (s.extract b s.size)).contains 10 := ⟨_, rfl⟩
          have hts : (s.extract b s.size).size ≤ 65536 := Nat.le_trans (extract_size s b s.size) hbig
          have HCUT : Hid (∀ W, Calls Tryz.prog 61 #[.string (s.extract b s.size), .string ⟨#[10]⟩] W fun e w' => e = .returned (.tuple #[.string L, .string U, .bool F]) ∧ Below W.heap.size W w') := fun W => by
            rw [hL, hU, hF]; exact cut_nl _ hts W
          have hKi : cutK (s.extract b s.size) = (35 :: (bytesN s).drop (b + 1)).idxOf 10 := by
            unfold cutK; rw [bN_drop, HDR.out, h35]
          have hLs0 : L.size = (35 :: (bytesN s).drop (b + 1)).idxOf 10 := by
            have := cutK_le (s.extract b s.size)
            rw [← hKi, hL, ByteArray.size_extract]; omega
          have hLle : b + L.size ≤ s.size := by
            have := cutK_le (s.extract b s.size)
            rw [hKi, ← hLs0, ByteArray.size_extract] at this; omega
          have hLpos : 0 < L.size := by
            rw [hLs0, List.idxOf_cons]; simp
          have HJ2 : Hid (j + L.size + skN false ((bytesN s).drop (b + L.size)) = k) := by
            show _ = _
            have h := HJ.out
            rw [HDR.out, h35, skN_rem, ← hLs0, ← h35, ← HDR.out, List.drop_drop] at h
            omega
          have h5 : ((c : Int) == 35) = true := by rw [h35]; rfl
          have t1 : ((c : Int) == 32) = false := by rw [h35]; rfl
          have t2 : ((c : Int) == 9) = false := by rw [h35]; rfl
          have t3 : ((c : Int) == 10) = false := by rw [h35]; rfl
          have t4 : ((c : Int) == 13) = false := by rw [h35]; rfl
          clear hbl hcb HDR hL hU hF hts hKi hLs0 h35
          go_wp2
          try rw [show Value.pointer (some ⟨p, 0, none⟩) = PT p from rfl]
          obtain ⟨C3, hC3⟩ : ∃ C3 : World → Prop, C3 = fun V => Below X.heap.size X V := ⟨_, rfl⟩
          have hG : Grows C3 := by rw [hC3]; exact fun W W' h1 h2 => h1.trans (h2.mono h1.size)
          have HCD3 : Hid (C3 { X with drawn := X.drawn + 1 }) := by rw [hC3]; exact ⟨rfl, rfl, rfl, Nat.le_refl _, fun _ _ => rfl⟩
          have HCB3 : Hid (∀ V, C3 V → Below X.heap.size X V) := by rw [hC3]; exact fun V h => h
          clear hC3
          have u0 : ∀ V, C3 V → V.cell? ⟨p, 0, none⟩ = some (.string s) := fun V hV => (HLX.out.keep (HCB3.out V hV)).c0
          have u1 : ∀ V, C3 V → V.cell? ⟨p, 1, none⟩ = some (.int .i64 b) := fun V hV => (HLX.out.keep (HCB3.out V hV)).c1
          refine w_lit (C := C3) (by kernel_rfl) (by kernel_rfl) HCD3.out ?_
          refine w_value (PT p) (by kernel_rfl) (fun w hw => x_move _ _ _ _ _ _ _ _ rfl w) ?_
          simp only [Act.put, List.setIfInBounds_toArray, List.set_cons_succ, List.set_cons_zero]
          refine w_value (PT p) (by kernel_rfl) (fun w hw => x_nilCheck _ _ _ _ _ _ _ _ rfl w) ?_
          simp only [Act.put, List.setIfInBounds_toArray, List.set_cons_succ, List.set_cons_zero]
          refine w_value (PT p) (by kernel_rfl) (fun w hw => x_lxF0 _ _ _ _ _ _ _ _ rfl w) ?_
          simp only [Act.put, List.setIfInBounds_toArray, List.set_cons_succ, List.set_cons_zero]
          refine w_value (.string s) (by kernel_rfl) (fun w hw => x_ldS _ _ _ _ _ _ _ p _ rfl w (u0 w hw)) ?_
          simp only [Act.put, List.setIfInBounds_toArray, List.set_cons_succ, List.set_cons_zero]
          refine w_value (PT p) (by kernel_rfl) (fun w hw => x_move _ _ _ _ _ _ _ _ rfl w) ?_
          simp only [Act.put, List.setIfInBounds_toArray, List.set_cons_succ, List.set_cons_zero]
          refine w_value (PT p) (by kernel_rfl) (fun w hw => x_nilCheck _ _ _ _ _ _ _ _ rfl w) ?_
          simp only [Act.put, List.setIfInBounds_toArray, List.set_cons_succ, List.set_cons_zero]
          refine w_value (.pointer (some ⟨p, 1, none⟩)) (by kernel_rfl) (fun w hw => x_lxF1 _ _ _ _ _ _ _ _ rfl w) ?_
          simp only [Act.put, List.setIfInBounds_toArray, List.set_cons_succ, List.set_cons_zero]
          refine w_value (.int .i64 b) (by kernel_rfl) (fun w hw => x_ldN _ _ _ _ _ _ _ p 1 _ rfl w (u1 w hw)) ?_
          simp only [Act.put, List.setIfInBounds_toArray, List.set_cons_succ, List.set_cons_zero]
          refine w_value (.string (s.extract b s.size)) (by kernel_rfl) (fun w hw => x_strFrom _ _ _ _ _ _ _ _ s b rfl rfl (by omega) w) ?_
          simp only [Act.put, List.setIfInBounds_toArray, List.set_cons_succ, List.set_cons_zero]
          refine w_call hG 61 #[.string (s.extract b s.size), .string ⟨#[10]⟩] (.tuple #[.string L, .string U, .bool F]) (by kernel_rfl) (fun w => x_call2 _ _ _ _ _ _ _ _ _ _ _ _ _ rfl rfl rfl (enters_of Tryz.func61 (by kernel_rfl) rfl) w) (fun w hw => HCUT.out w) ?_
          simp only [Act.put, List.setIfInBounds_toArray, List.set_cons_succ, List.set_cons_zero]
          refine w_value (.tuple #[.string L, .string U, .bool F]) (by kernel_rfl) (fun w hw => x_move _ _ _ _ _ _ _ _ rfl w) ?_
          simp only [Act.put, List.setIfInBounds_toArray, List.set_cons_succ, List.set_cons_zero]
          refine w_value (.string L) (by kernel_rfl) (fun w hw => x_ext0T _ _ _ _ _ _ _ (.string L) (.string U) (.bool F) rfl w) ?_
          simp only [Act.put, List.setIfInBounds_toArray, List.set_cons_succ, List.set_cons_zero]
          refine w_value (.string U) (by kernel_rfl) (fun w hw => x_ext1T _ _ _ _ _ _ _ (.string L) (.string U) (.bool F) rfl w) ?_
          simp only [Act.put, List.setIfInBounds_toArray, List.set_cons_succ, List.set_cons_zero]
          refine w_value (.bool F) (by kernel_rfl) (fun w hw => x_ext2T _ _ _ _ _ _ _ (.string L) (.string U) (.bool F) rfl w) ?_
          simp only [Act.put, List.setIfInBounds_toArray, List.set_cons_succ, List.set_cons_zero]
          refine w_value (.string L) (by kernel_rfl) (fun w hw => x_assign _ _ _ _ _ _ _ _ rfl w) ?_
          simp only [Act.put, List.setIfInBounds_toArray, List.set_cons_succ, List.set_cons_zero]
          refine w_value (.string U) (by kernel_rfl) (fun w hw => x_assign _ _ _ _ _ _ _ _ rfl w) ?_
          simp only [Act.put, List.setIfInBounds_toArray, List.set_cons_succ, List.set_cons_zero]
          refine w_value (.bool F) (by kernel_rfl) (fun w hw => x_assign _ _ _ _ _ _ _ _ rfl w) ?_
          simp only [Act.put, List.setIfInBounds_toArray, List.set_cons_succ, List.set_cons_zero]
          refine w_nil ?_
          intro Y hCY
          have HLY := hide (HLX.out.keep (HCB3.out Y hCY))
          have HAY := hide (HAX.out.trans (Aside.of_below (HCB3.out Y hCY)))
          clear hCY u0 u1 hG
          unfold PT
          have c1 := HLY.out.c1
          have f1 := HLY.out.blk.frozen 1
          have HM := hide (HLY.out.move (b + L.size) (by omega))
          have HA2 := hide (HAY.out.trans (Aside.put Y p 1 (.int .i64 ((b + L.size : Nat) : Int))))
          have HE1 : Hid (((b + L.size : Nat) : Int) = (b : Int) + (L.size : Int)) := by show _ = _; omega
          go_wp2
          have hm := HM.out
          have ha2 := HA2.out
          have hb2 := HBB.out
          have hj2 := HJ2.out
          rw [HE1.out] at hm ha2
          refine ⟨⟨j + L.size, by rw [← Nat.add_assoc, ← hb2]; exact hm, by rw [← Nat.add_assoc, ← hb2]; exact hj2, ha2⟩, ?_⟩
          rw [hm.atOf, HAT.out]
          omega
        · have HBK : Hid (b = a + k) := by
            show _ = _
            have h := HJ.out
            rw [HDR.out, skN_no hbl h35] at h
            have := HBB.out
            omega
          have t1 : ((c : Int) == 32) = false := by unfold isBl at hbl; simp at hbl ⊢; omega
          have t2 : ((c : Int) == 9) = false := by unfold isBl at hbl; simp at hbl ⊢; omega
          have t3 : ((c : Int) == 10) = false := by unfold isBl at hbl; simp at hbl ⊢; omega
          have t4 : ((c : Int) == 13) = false := by unfold isBl at hbl; simp at hbl ⊢; omega
          have t5 : ((c : Int) == 35) = false := by simp; omega
          clear hbl hcb HDR
          go_wp2
          rw [Exit.noGoto_normal]
          go_end0
          exact ⟨rfl, by rw [← HBK.out]; exact HLX.out, HAX.out⟩
    · have hlt : decide ((b : Int) < (s.size : Int)) = false := by simp; omega
      have HBK : Hid (b = a + k) := by
        show _ = _
        have h := HJ.out
        rw [List.drop_eq_nil_of_le (by rw [bN_len]; omega), skN] at h
        have := HBB.out
        omega
      go_wp2
      try rw [show Value.pointer (some ⟨p, 0, none⟩) = PT p from rfl]
      refine w_lit (C := C) (by kernel_rfl) (by kernel_rfl) HCD.out ?_
      refine w_value (PT p) (by kernel_rfl) (fun w hw => x_move _ _ _ _ _ _ _ _ rfl w) ?_
      simp only [Act.put, List.setIfInBounds_toArray, List.set_cons_succ, List.set_cons_zero]
      refine w_value (PT p) (by kernel_rfl) (fun w hw => x_nilCheck _ _ _ _ _ _ _ _ rfl w) ?_
      simp only [Act.put, List.setIfInBounds_toArray, List.set_cons_succ, List.set_cons_zero]
      refine w_value (.pointer (some ⟨p, 1, none⟩)) (by kernel_rfl) (fun w hw => x_lxF1 _ _ _ _ _ _ _ _ rfl w) ?_
      simp only [Act.put, List.setIfInBounds_toArray, List.set_cons_succ, List.set_cons_zero]
      refine w_value (.int .i64 b) (by kernel_rfl) (fun w hw => x_ldN _ _ _ _ _ _ _ p 1 _ rfl w (y1 w hw)) ?_
      simp only [Act.put, List.setIfInBounds_toArray, List.set_cons_succ, List.set_cons_zero]
      refine w_value (PT p) (by kernel_rfl) (fun w hw => x_move _ _ _ _ _ _ _ _ rfl w) ?_
      simp only [Act.put, List.setIfInBounds_toArray, List.set_cons_succ, List.set_cons_zero]
      refine w_value (PT p) (by kernel_rfl) (fun w hw => x_nilCheck _ _ _ _ _ _ _ _ rfl w) ?_
      simp only [Act.put, List.setIfInBounds_toArray, List.set_cons_succ, List.set_cons_zero]
      refine w_value (PT p) (by kernel_rfl) (fun w hw => x_lxF0 _ _ _ _ _ _ _ _ rfl w) ?_
      simp only [Act.put, List.setIfInBounds_toArray, List.set_cons_succ, List.set_cons_zero]
      refine w_value (.string s) (by kernel_rfl) (fun w hw => x_ldS _ _ _ _ _ _ _ p _ rfl w (y0 w hw)) ?_
      simp only [Act.put, List.setIfInBounds_toArray, List.set_cons_succ, List.set_cons_zero]
      refine w_value (.int .i64 s.size) (by kernel_rfl) (fun w hw => x_lenS _ _ _ _ _ _ _ s rfl w) ?_
      simp only [Act.put, List.setIfInBounds_toArray, List.set_cons_succ, List.set_cons_zero]
      refine w_value (.bool false) (by kernel_rfl) (fun w hw => x_lssZ _ _ _ _ _ _ _ _ b s.size false hlt rfl rfl w) ?_
      simp only [Act.put, List.setIfInBounds_toArray, List.set_cons_succ, List.set_cons_zero]
      refine w_nil ?_
      intro W hCW
      have HLW := hide (HLJ.out.keep (HCB.out W hCW))
      have HAW := hide (HA.out.trans (Aside.of_below (HCB.out W hCW)))
      clear hCW y0 y1
      go_wp2
      rw [Exit.noGoto_normal]
      go_end0
      exact ⟨rfl, by rw [← HBK.out]; exact HLW.out, HAW.out⟩
end Go.Proofs.YtjlgepahgmkamaaGreatDoor
/- The reader with as much fuel as it takes; its rules; what it keeps of the first error. -/
namespace Go.Proofs.YtjlgepahgmkamaaGreatDoor
set_option maxRecDepth 100000
set_option linter.unusedSimpArgs false
set_option linter.unusedVariables false
open Go.RowKit Go.Shelf St

theorem classL_mono (n : Nat) : ∀ (f : Nat) (s : BitVec 256) (st : St) (q : BitVec 256 × St), classL n f s st = some q → classL n (f + 1) s st = some q
  | 0, s, st, q, h => by simp [classL] at h
  | f + 1, s, st, q, h => by
    unfold classL at h ⊢
    split at h
    · rename_i hb; rw [if_pos hb]; exact h
    · rename_i hb
      rw [if_neg hb]
      split at h
      · rename_i h0
        rw [if_pos h0]
        exact classL_mono n f _ _ q h
      · rename_i h0
        rw [if_neg h0]; exact h
theorem clas_mono {n f : Nat} {st : St} {q : BitVec 256 × St} (h : clas n f st = some q) : clas n (f + 1) st = some q := by
  unfold clas at h ⊢
  split at h
  · rename_i hb
    rw [if_pos hb]
    obtain ⟨a, h1, h2⟩ := Option.map_eq_some_iff.1 h
    rw [classL_mono n f _ _ _ h1, ← h2]; rfl
  · rename_i hb
    rw [if_neg hb]; exact classL_mono n f _ _ _ h
theorem P_mono (n : Nat) : ∀ (f : Nat) (m : Md) (st : St) (q : RE × St), P n f m st = some q → P n (f + 1) m st = some q
  | 0, m, st, q, h => by simp [P] at h
  | f + 1, .or, st, q, h => by
    rw [P] at h ⊢
    obtain ⟨a, h1, h2⟩ := Option.bind_eq_some_iff.1 h
    rw [P_mono n f _ _ _ h1]; exact P_mono n f _ _ _ h2
  | f + 1, .minus, st, q, h => by
    rw [P] at h ⊢
    obtain ⟨a, h1, h2⟩ := Option.bind_eq_some_iff.1 h
    rw [P_mono n f _ _ _ h1]; exact P_mono n f _ _ _ h2
  | f + 1, .and, st, q, h => by
    rw [P] at h ⊢
    obtain ⟨a, h1, h2⟩ := Option.bind_eq_some_iff.1 h
    rw [P_mono n f _ _ _ h1]; exact P_mono n f _ _ _ h2
  | f + 1, .cat, st, q, h => by
    rw [P] at h ⊢
    obtain ⟨a, h1, h2⟩ := Option.bind_eq_some_iff.1 h
    rw [P_mono n f _ _ _ h1]; exact P_mono n f _ _ _ h2
  | f + 1, .post, st, q, h => by
    rw [P] at h ⊢
    obtain ⟨a, h1, h2⟩ := Option.bind_eq_some_iff.1 h
    rw [P_mono n f _ _ _ h1]; exact P_mono n f _ _ _ h2
  | f + 1, .orL l, st, q, h => by
    rw [P] at h ⊢
    split at h
    · rename_i hb
      rw [if_pos hb]
      obtain ⟨a, h1, h2⟩ := Option.bind_eq_some_iff.1 h
      rw [P_mono n f _ _ _ h1]; exact P_mono n f _ _ _ h2
    · rename_i hb
      rw [if_neg hb]; exact h
  | f + 1, .minusL l, st, q, h => by
    rw [P] at h ⊢
    split at h
    · rename_i hb
      rw [if_pos hb]
      obtain ⟨a, h1, h2⟩ := Option.bind_eq_some_iff.1 h
      rw [P_mono n f _ _ _ h1]; exact P_mono n f _ _ _ h2
    · rename_i hb
      rw [if_neg hb]; exact h
  | f + 1, .andL l, st, q, h => by
    rw [P] at h ⊢
    split at h
    · rename_i hb
      rw [if_pos hb]
      obtain ⟨a, h1, h2⟩ := Option.bind_eq_some_iff.1 h
      rw [P_mono n f _ _ _ h1]; exact P_mono n f _ _ _ h2
    · rename_i hb
      rw [if_neg hb]; exact h
  | f + 1, .catL l, st, q, h => by
    rw [P] at h ⊢
    cases hr : st.skip.rest with
    | nil => rw [hr] at h; exact h
    | cons b t =>
      rw [hr] at h
      simp only at h ⊢
      split at h
      · rename_i hb
        rw [if_pos hb]; exact h
      · rename_i hb
        rw [if_neg hb]
        obtain ⟨a, h1, h2⟩ := Option.bind_eq_some_iff.1 h
        rw [P_mono n f _ _ _ h1]; exact P_mono n f _ _ _ h2
  | f + 1, .postL r, st, q, h => by
    rw [P] at h ⊢
    split at h
    · rename_i hb
      rw [if_pos hb]; exact P_mono n f _ _ _ h
    rename_i hb
    rw [if_neg hb]
    split at h
    · rename_i hb
      rw [if_pos hb]; exact P_mono n f _ _ _ h
    rename_i hb
    rw [if_neg hb]
    split at h
    · rename_i hb
      rw [if_pos hb]; exact P_mono n f _ _ _ h
    rename_i hb
    rw [if_neg hb]; exact h
  | f + 1, .atom, st, q, h => by
    rw [P] at h ⊢
    split at h
    · rename_i hb
      rw [if_pos hb]
      obtain ⟨a, h1, h2⟩ := Option.map_eq_some_iff.1 h
      rw [P_mono n f _ _ _ h1, ← h2]; rfl
    rename_i hb
    rw [if_neg hb]
    split at h
    · rename_i hb
      rw [if_pos hb]
      obtain ⟨a, h1, h2⟩ := Option.map_eq_some_iff.1 h
      rw [clas_mono h1, ← h2]; rfl
    rename_i hb
    rw [if_neg hb]; exact h
  | f + 1, .group, st, q, h => by
    rw [P] at h ⊢
    split at h
    · rename_i hb
      rw [if_pos hb]; exact h
    · rename_i hb
      rw [if_neg hb]
      obtain ⟨a, h1, h2⟩ := Option.map_eq_some_iff.1 h
      rw [P_mono n f _ _ _ h1, ← h2]; rfl
theorem P_add {n f : Nat} (k : Nat) {m : Md} {st : St} {q : RE × St} (h : P n f m st = some q) : P n (f + k) m st = some q := by
  induction k with
  | zero => exact h
  | succ k ih => exact P_mono n (f + k) m st q ih
theorem P_le {n f g : Nat} {m : Md} {st : St} {q : RE × St} (h : P n f m st = some q) (hg : f ≤ g) : P n g m st = some q := by
  have := P_add (g - f) h
  rwa [Nat.add_sub_cancel' hg] at this
/-- What is read, whatever fuel it takes. -/
def Run (n : Nat) (m : Md) (st : St) (q : RE × St) : Prop := ∃ f, P n f m st = some q
def RunC (n : Nat) (st : St) (q : BitVec 256 × St) : Prop := ∃ f, clas n f st = some q
theorem Run.det {n : Nat} {m : Md} {st : St} {q q' : RE × St} (h : Run n m st q) (h' : Run n m st q') : q = q' := by
  obtain ⟨f, h⟩ := h
  obtain ⟨g, h'⟩ := h'
  have h1 := P_le h (Nat.le_max_left f g)
  have h2 := P_le h' (Nat.le_max_right f g)
  rw [h1] at h2
  exact Option.some.inj h2
theorem readQ_run {l : List Nat} {q : RE × St} (hl : l.length ≤ 65536) (h : Run l.length .or (St.init l) q) : readQ l = q :=
  Run.det ⟨_, readQ_some hl⟩ h

section
variable {n : Nat} {st s1 s2 : St} {a : RE} {l : List RE} {z : RE × St}
theorem Run.both {m m' : Md} {sa sb : St} {x y : RE × St} (h1 : Run n m sa x) (h2 : Run n m' sb y) : ∃ f, P n f m sa = some x ∧ P n f m' sb = some y := by
  obtain ⟨f, h1⟩ := h1
  obtain ⟨g, h2⟩ := h2
  exact ⟨max f g, P_le h1 (Nat.le_max_left f g), P_le h2 (Nat.le_max_right f g)⟩
theorem Run.or (h1 : Run n .minus st (a, s1)) (h2 : Run n (.orL [a]) s1 z) : Run n .or st z := by
  obtain ⟨f, h1, h2⟩ := h1.both h2
  exact ⟨f + 1, P_or h1 h2⟩
theorem Run.minus (h1 : Run n .and st (a, s1)) (h2 : Run n (.minusL a) s1 z) : Run n .minus st z := by
  obtain ⟨f, h1, h2⟩ := h1.both h2
  exact ⟨f + 1, P_minus h1 h2⟩
theorem Run.and (h1 : Run n .cat st (a, s1)) (h2 : Run n (.andL [a]) s1 z) : Run n .and st z := by
  obtain ⟨f, h1, h2⟩ := h1.both h2
  exact ⟨f + 1, P_and h1 h2⟩
theorem Run.cat (h1 : Run n .post st (a, s1)) (h2 : Run n (.catL [a]) s1 z) : Run n .cat st z := by
  obtain ⟨f, h1, h2⟩ := h1.both h2
  exact ⟨f + 1, P_cat h1 h2⟩
theorem Run.post (h1 : Run n .atom st (a, s1)) (h2 : Run n (.postL a) s1 z) : Run n .post st z := by
  obtain ⟨f, h1, h2⟩ := h1.both h2
  exact ⟨f + 1, P_post h1 h2⟩
theorem Run.orL (hb : st.signB 124 = true) (h1 : Run n .minus (st.sign 124) (a, s1)) (h2 : Run n (.orL (l ++ [a])) s1 z) : Run n (.orL l) st z := by
  obtain ⟨f, h1, h2⟩ := h1.both h2
  exact ⟨f + 1, P_orL hb h1 h2⟩
theorem Run.orLE (hb : st.signB 124 = false) : Run n (.orL l) st (rAny l, st.sign 124) := ⟨1, P_orLE hb⟩
theorem Run.andL (hb : st.signB 38 = true) (h1 : Run n .cat (st.sign 38) (a, s1)) (h2 : Run n (.andL (l ++ [a])) s1 z) : Run n (.andL l) st z := by
  obtain ⟨f, h1, h2⟩ := h1.both h2
  exact ⟨f + 1, P_andL hb h1 h2⟩
theorem Run.andLE (hb : st.signB 38 = false) : Run n (.andL l) st (rBoth l, st.sign 38) := ⟨1, P_andLE hb⟩
theorem Run.minusL {r : RE} (hb : st.signB 45 = true) (h1 : Run n .and (st.sign 45) (a, s1)) (h2 : Run n (.minusL (rBut r a)) s1 z) : Run n (.minusL r) st z := by
  obtain ⟨f, h1, h2⟩ := h1.both h2
  exact ⟨f + 1, P_minusL hb h1 h2⟩
theorem Run.minusLE {r : RE} (hb : st.signB 45 = false) : Run n (.minusL r) st (r, st.sign 45) := ⟨1, P_minusLE hb⟩
theorem Run.catL {b : Nat} {t : List Nat} (hs : st.skip.rest = b :: t) (hb : [124, 45, 38, 41].contains b = false) (h1 : Run n .post st.skip (a, s1)) (h2 : Run n (.catL (l ++ [a])) s1 z) : Run n (.catL l) st z := by
  obtain ⟨f, h1, h2⟩ := h1.both h2
  exact ⟨f + 1, P_catL hs hb h1 h2⟩
theorem Run.catLE (h : st.skip.rest = [] ∨ ∃ b t, st.skip.rest = b :: t ∧ [124, 45, 38, 41].contains b = true) : Run n (.catL l) st (rThen l, st.skip) := by
  refine ⟨1, ?_⟩
  rw [P]
  rcases h with h | ⟨b, t, h, hb⟩
  · simp only [h]
  · simp only [h]
    rw [if_pos hb]
theorem Run.star {r : RE} (hb : st.signB 42 = true) (h2 : Run n (.postL (rMany r)) (sized n (rMany r, st.sign 42)) z) : Run n (.postL r) st z := by
  obtain ⟨f, h2⟩ := h2
  exact ⟨f + 1, by rw [P, if_pos hb]; exact h2⟩
theorem Run.postLE {r : RE} (h0 : st.signB 42 = false) (h1 : (st.sign 42).signB 43 = false) (hb : ((st.sign 42).sign 43).signB 63 = false) : Run n (.postL r) st (r, ((st.sign 42).sign 43).sign 63) :=
  ⟨1, by rw [P, if_neg (by simp [h0]), if_neg (by simp [h1]), if_neg (by simp [hb])]⟩
theorem Run.paren (hb : st.signB 40 = true) (h1 : Run n .group (st.sign 40) (a, s1)) : Run n .atom st (a, s1.counted n) := by
  obtain ⟨f, h1⟩ := h1
  exact ⟨f + 1, P_paren hb h1 rfl⟩
theorem Run.group (hb : (st.deeper n).signB 41 = false) (h1 : Run n .or ((st.deeper n).sign 41) (a, s1)) : Run n .group st (a, (if s1.signB 41 then s1.sign 41 else (s1.sign 41).fail 2 ((s1.sign 41).pos n)).upper) := by
  obtain ⟨f, h1⟩ := h1
  exact ⟨f + 1, P_group hb h1 rfl⟩
theorem Run.groupE (hb : (st.deeper n).signB 41 = true) : Run n .group st (rEmpty, ((st.deeper n).sign 41).upper) := ⟨1, by rw [P, if_pos hb]⟩
theorem Run.set {s : BitVec 256} (h0 : st.signB 40 = false) (hb : (st.sign 40).signB 91 = true) (h1 : RunC n ((st.sign 40).sign 91) (s, s1)) : Run n .atom st (rOne s, s1.counted n) := by
  obtain ⟨f, h1⟩ := h1
  exact ⟨f + 1, by rw [P, if_neg (by simp [h0]), if_pos hb, h1]; rfl⟩
theorem Run.byte (h0 : st.signB 40 = false) (h1 : (st.sign 40).signB 91 = false) (hb : ((st.sign 40).sign 91).signB 46 = false) : Run n .atom st (rOne (setOf [(((st.sign 40).sign 91).sign 46).byteV]), ((((st.sign 40).sign 91).sign 46).byte n).counted n) :=
  ⟨1, by rw [P, if_neg (by simp [h0]), if_neg (by simp [h1]), if_neg (by simp [hb])]⟩
end

/-- What holds of the first error and its place, and of each that can come, holds at the end. -/
def Kept (n : Nat) (J : Nat → Nat → Prop) : Prop := ∀ a b e p, J a b → (e = 2 ∨ e = 3 ∨ e = 4) → p ≤ n → J (if a = 0 then e else a) (if a = 0 then p else b)
section
variable {n : Nat} {J : Nat → Nat → Prop}
theorem keep_fail (hJ : Kept n J) {st : St} {e p : Nat} (h : J st.err st.wh) (he : e = 2 ∨ e = 3 ∨ e = 4) (hp : p ≤ n) : J (st.fail e p).err (st.fail e p).wh := hJ _ _ e p h he hp
theorem pos_le (st : St) : st.pos n ≤ n := Nat.sub_le _ _
theorem keep_sign {st : St} (b : Nat) (h : J st.err st.wh) : J (st.sign b).err (st.sign b).wh := by
  obtain ⟨-, -, h3, h4⟩ := sign_eq b st
  rw [h3, h4]; exact h
theorem keep_here {st : St} (b : Nat) (h : J st.err st.wh) : J (st.here b).err (st.here b).wh := by
  obtain ⟨-, -, h3, h4⟩ := here_eq b st
  rw [h3, h4]; exact h
theorem keep_counted (hJ : Kept n J) {st : St} (h : J st.err st.wh) : J (st.counted n).err (st.counted n).wh := by
  unfold counted
  split
  · exact keep_fail hJ (st := ⟨st.rest, st.deep, st.cnt + 1, st.err, st.wh⟩) h (.inr (.inl rfl)) (pos_le _)
  · exact h
theorem keep_byte (hJ : Kept n J) {st : St} (h : J st.err st.wh) : J (st.byte n).err (st.byte n).wh := by
  unfold byte
  split
  · exact keep_fail hJ h (.inl rfl) (pos_le _)
  · exact h
theorem keep_sized (hJ : Kept n J) {r : RE} {st : St} (h : J st.err st.wh) : J (sized n (r, st)).err (sized n (r, st)).wh := by
  unfold sized
  split
  · exact keep_fail hJ (keep_counted hJ h) (.inr (.inl rfl)) (pos_le _)
  · exact keep_counted hJ h
theorem keep_classL (hJ : Kept n J) : ∀ (f : Nat) (s : BitVec 256) (st : St) (q : BitVec 256) (st' : St), classL n f s st = some (q, st') → J st.err st.wh → J st'.err st'.wh
  | 0, s, st, q, st', h, _ => by simp [classL] at h
  | f + 1, s, st, q, st', h, h0 => by
    unfold classL at h
    split at h
    · injection h with h; injection h with h1 h2
      subst h2
      exact keep_here 93 h0
    · split at h
      · simp only at h
        have h2 := keep_byte hJ h0
        generalize st.byte n = st2 at *
        have h3 : J (if st2.isAt 45 = true then (st2.here 45).byte n else st2).err (if st2.isAt 45 = true then (st2.here 45).byte n else st2).wh := by
          split
          · exact keep_byte hJ (keep_here 45 h2)
          · exact h2
        generalize (if st2.isAt 45 = true then (st2.here 45).byte n else st2) = st3 at *
        generalize (if st2.isAt 45 = true then (st2.here 45).byteV else st.byteV) = high at *
        have h4 : J (if high < st.byteV then st3.fail 2 (st3.pos n) else st3).err (if high < st.byteV then st3.fail 2 (st3.pos n) else st3).wh := by
          split
          · exact keep_fail hJ h3 (.inl rfl) (pos_le _)
          · exact h3
        exact keep_classL hJ f _ _ q st' h h4
      · injection h with h; injection h with h1 h2
        subst h2
        exact h0
theorem keep_clas (hJ : Kept n J) {f : Nat} {st : St} {q : BitVec 256} {st' : St} (h : clas n f st = some (q, st')) (h0 : J st.err st.wh) : J st'.err st'.wh := by
  unfold clas at h
  split at h
  · obtain ⟨⟨a, b⟩, h1, h2⟩ := Option.map_eq_some_iff.1 h
    simp at h2
    obtain ⟨-, rfl⟩ := h2
    exact keep_classL hJ f _ _ _ _ h1 (keep_here 94 h0)
  · exact keep_classL hJ f _ _ _ _ h h0
theorem P_keep (hJ : Kept n J) : ∀ (f : Nat) (m : Md) (st : St) (q : RE) (st' : St), P n f m st = some (q, st') → J st.err st.wh → J st'.err st'.wh
  | 0, m, st, q, st', h, _ => by simp [P] at h
  | f + 1, .or, st, q, st', h, h0 => by
    rw [P] at h
    obtain ⟨⟨a, s1⟩, h1, h2⟩ := Option.bind_eq_some_iff.1 h
    exact P_keep hJ f _ _ _ _ h2 (P_keep hJ f _ _ _ _ h1 h0)
  | f + 1, .minus, st, q, st', h, h0 => by
    rw [P] at h
    obtain ⟨⟨a, s1⟩, h1, h2⟩ := Option.bind_eq_some_iff.1 h
    exact P_keep hJ f _ _ _ _ h2 (P_keep hJ f _ _ _ _ h1 h0)
  | f + 1, .and, st, q, st', h, h0 => by
    rw [P] at h
    obtain ⟨⟨a, s1⟩, h1, h2⟩ := Option.bind_eq_some_iff.1 h
    exact P_keep hJ f _ _ _ _ h2 (P_keep hJ f _ _ _ _ h1 h0)
  | f + 1, .cat, st, q, st', h, h0 => by
    rw [P] at h
    obtain ⟨⟨a, s1⟩, h1, h2⟩ := Option.bind_eq_some_iff.1 h
    exact P_keep hJ f _ _ _ _ h2 (P_keep hJ f _ _ _ _ h1 h0)
  | f + 1, .post, st, q, st', h, h0 => by
    rw [P] at h
    obtain ⟨⟨a, s1⟩, h1, h2⟩ := Option.bind_eq_some_iff.1 h
    exact P_keep hJ f _ _ _ _ h2 (P_keep hJ f _ _ _ _ h1 h0)
  | f + 1, .orL l, st, q, st', h, h0 => by
    rw [P] at h
    split at h
    · obtain ⟨⟨a, s1⟩, h1, h2⟩ := Option.bind_eq_some_iff.1 h
      exact P_keep hJ f _ _ _ _ h2 (P_keep hJ f _ _ _ _ h1 (keep_sign _ h0))
    · injection h with h; injection h with h1 h2
      subst h2
      exact keep_sign _ h0
  | f + 1, .minusL l, st, q, st', h, h0 => by
    rw [P] at h
    split at h
    · obtain ⟨⟨a, s1⟩, h1, h2⟩ := Option.bind_eq_some_iff.1 h
      exact P_keep hJ f _ _ _ _ h2 (P_keep hJ f _ _ _ _ h1 (keep_sign _ h0))
    · injection h with h; injection h with h1 h2
      subst h2
      exact keep_sign _ h0
  | f + 1, .andL l, st, q, st', h, h0 => by
    rw [P] at h
    split at h
    · obtain ⟨⟨a, s1⟩, h1, h2⟩ := Option.bind_eq_some_iff.1 h
      exact P_keep hJ f _ _ _ _ h2 (P_keep hJ f _ _ _ _ h1 (keep_sign _ h0))
    · injection h with h; injection h with h1 h2
      subst h2
      exact keep_sign _ h0
  | f + 1, .catL l, st, q, st', h, h0 => by
    rw [P] at h
    split at h
    · injection h with h; injection h with h1 h2
      subst h2
      exact h0
    · split at h
      · injection h with h; injection h with h1 h2
        subst h2
        exact h0
      · obtain ⟨⟨a, s1⟩, h1, h2⟩ := Option.bind_eq_some_iff.1 h
        exact P_keep hJ f _ _ _ _ h2 (P_keep hJ f _ _ _ _ h1 h0)
  | f + 1, .postL r, st, q, st', h, h0 => by
    rw [P] at h
    split at h
    · exact P_keep hJ f _ _ _ _ h (keep_sized hJ (keep_sign _ h0))
    split at h
    · exact P_keep hJ f _ _ _ _ h (keep_sized hJ (keep_sign _ (keep_sign _ h0)))
    split at h
    · exact P_keep hJ f _ _ _ _ h (keep_sized hJ (keep_sign _ (keep_sign _ (keep_sign _ h0))))
    · injection h with h; injection h with h1 h2
      subst h2
      exact keep_sign _ (keep_sign _ (keep_sign _ h0))
  | f + 1, .atom, st, q, st', h, h0 => by
    rw [P] at h
    split at h
    · obtain ⟨⟨a, s1⟩, h1, h2⟩ := Option.map_eq_some_iff.1 h
      injection h2 with h2 h3
      subst h3
      exact keep_counted hJ (P_keep hJ f _ _ _ _ h1 (keep_sign _ h0))
    split at h
    · obtain ⟨⟨a, s1⟩, h1, h2⟩ := Option.map_eq_some_iff.1 h
      injection h2 with h2 h3
      subst h3
      exact keep_counted hJ (keep_clas hJ h1 (keep_sign _ (keep_sign _ h0)))
    split at h
    · injection h with h; injection h with h1 h2
      subst h2
      exact keep_counted hJ (keep_sign _ (keep_sign _ (keep_sign _ h0)))
    · injection h with h; injection h with h1 h2
      subst h2
      exact keep_counted hJ (keep_byte hJ (keep_sign _ (keep_sign _ (keep_sign _ h0))))
  | f + 1, .group, st, q, st', h, h0 => by
    have hd : J (st.deeper n).err (st.deeper n).wh := by
      unfold deeper
      split
      · exact keep_fail hJ (st := ⟨st.rest, st.deep + 1, st.cnt, st.err, st.wh⟩) h0 (.inr (.inr rfl)) (by have := pos_le (n := n) st; show n - st.rest.length - 1 ≤ n; omega)
      · exact h0
    rw [P] at h
    generalize st.deeper n = sd at *
    split at h
    · injection h with h; injection h with h1 h2
      subst h2
      exact keep_sign 41 hd
    · obtain ⟨⟨a, s1⟩, h1, h2⟩ := Option.map_eq_some_iff.1 h
      injection h2 with h2 h3
      subst h3
      have h4 := P_keep hJ f _ _ _ _ h1 (keep_sign _ hd)
      show J (if s1.signB 41 = true then s1.sign 41 else (s1.sign 41).fail 2 ((s1.sign 41).pos n)).err (if s1.signB 41 = true then s1.sign 41 else (s1.sign 41).fail 2 ((s1.sign 41).pos n)).wh
      split
      · exact keep_sign 41 h4
      · exact keep_fail hJ (keep_sign 41 h4) (.inl rfl) (pos_le _)
end
/-- Once there is an error, it stays. -/
theorem Run.err {n : Nat} {m : Md} {st st' : St} {q : RE} (h : Run n m st (q, st')) (h0 : st.err ≠ 0) : st'.err = st.err ∧ st'.wh = st.wh := by
  obtain ⟨f, h⟩ := h
  exact P_keep (n := n) (J := fun a b => a = st.err ∧ b = st.wh) (fun a b e p hj _ _ => by
    obtain ⟨rfl, rfl⟩ := hj
    rw [if_neg h0, if_neg h0]; exact ⟨rfl, rfl⟩) f m st q st' h ⟨rfl, rfl⟩
/-- It always comes to an end. -/
theorem Run.total {n : Nat} {m : Md} {c0 : Nat} {st : St} (ho : Ok st) (hp : Pre c0 st m) : ∃ r st', Run n m st (r, st') := by
  obtain ⟨⟨r, st'⟩, h⟩ := P_total n (20 * st.rest.length + rankM m + 1) m c0 st ho hp (by omega)
  exact ⟨r, st', _, h⟩
end Go.Proofs.YtjlgepahgmkamaaGreatDoor
/- An error of the reader of expressions: which one, and where. -/
namespace Go.Proofs.YtjlgepahgmkamaaGreatDoor
set_option maxRecDepth 100000
set_option linter.unusedSimpArgs false
set_option linter.unusedVariables false
open Go.RowKit Go.Shelf St

/-- An error is one of three, and lies within the text. -/
theorem rd_within {l : List Nat} (hl : l.length ≤ 65536) (he : (rdEnd l).err ≠ 0) : ((rdEnd l).err = 2 ∨ (rdEnd l).err = 3 ∨ (rdEnd l).err = 4) ∧ (rdEnd l).wh ≤ l.length := by
  have hJ : Kept l.length (fun a b => a = 0 ∨ ((a = 2 ∨ a = 3 ∨ a = 4) ∧ b ≤ l.length)) := fun a b e p ha he hp => by
    rcases ha with rfl | ha
    · exact .inr ⟨by simpa using he, by simpa using hp⟩
    · rw [if_neg (by omega), if_neg (by omega)]; exact .inr ha
  have hs := readQ_some (l := l) hl
  obtain ⟨r, st, hq⟩ : ∃ r st, readQ l = (r, st) := ⟨_, _, rfl⟩
  rw [hq] at hs
  have h1 := P_keep hJ _ _ _ _ _ hs (.inl rfl)
  have key : ∀ s1 : St, (s1.err = 0 ∨ ((s1.err = 2 ∨ s1.err = 3 ∨ s1.err = 4) ∧ s1.wh ≤ l.length)) → ∀ e p, (e = 2 ∨ e = 3 ∨ e = 4) → p ≤ l.length → ((s1.fail e p).err = 0 ∨ (((s1.fail e p).err = 2 ∨ (s1.fail e p).err = 3 ∨ (s1.fail e p).err = 4) ∧ (s1.fail e p).wh ≤ l.length)) := fun s1 h e p he hp => hJ _ _ e p h he hp
  have h2 : (rdEnd l).err = 0 ∨ (((rdEnd l).err = 2 ∨ (rdEnd l).err = 3 ∨ (rdEnd l).err = 4) ∧ (rdEnd l).wh ≤ l.length) := by
    unfold rdEnd
    rw [hq]
    simp only
    have hsk : st.skip.err = 0 ∨ ((st.skip.err = 2 ∨ st.skip.err = 3 ∨ st.skip.err = 4) ∧ st.skip.wh ≤ l.length) := h1
    have h3 : (if st.skip.rest.isEmpty = true then st.skip else st.skip.fail 2 (st.skip.pos l.length)).err = 0 ∨ (((if st.skip.rest.isEmpty = true then st.skip else st.skip.fail 2 (st.skip.pos l.length)).err = 2 ∨ (if st.skip.rest.isEmpty = true then st.skip else st.skip.fail 2 (st.skip.pos l.length)).err = 3 ∨ (if st.skip.rest.isEmpty = true then st.skip else st.skip.fail 2 (st.skip.pos l.length)).err = 4) ∧ (if st.skip.rest.isEmpty = true then st.skip else st.skip.fail 2 (st.skip.pos l.length)).wh ≤ l.length) := by
      split
      · exact hsk
      · exact key _ hsk 2 _ (.inl rfl) (pos_le _)
    generalize (if st.skip.rest.isEmpty = true then st.skip else st.skip.fail 2 (st.skip.pos l.length)) = s1 at h3 ⊢
    split
    · exact key _ h3 3 0 (.inr (.inl rfl)) (Nat.zero_le _)
    · exact h3
  exact h2.resolve_left he
end Go.Proofs.YtjlgepahgmkamaaGreatDoor
