/- Texts of this claim put together: TmE1, TmE2, TmE3. -/
import Derived.Test.YtblpekljiilkjaaGreatDoorJoinTmE0
/- appendTo, op by op. -/
namespace Go.Proofs.YtblpekljiilkjaaGreatDoor
set_option maxRecDepth 100000
set_option linter.unusedSimpArgs false
set_option linter.unusedVariables false
open Go.RowKit Go.Shelf

set_option maxHeartbeats 8000000 in
theorem to_leaf (b o : Nat) (nm tx bk : ByteArray) (r : Option RE) (ks : List TM) (rp : Value) (a : Option Addr) (c : Nat) (v : Value) (m : Nat) (xs : List Value) (w0 w : World) (hS : TmSee w0 b o nm tx bk r ks rp a c) (ho : 2 ≤ o ∧ o ≤ 17) (hn : ks.length = kidsO o)
    (hsz : nm.size ≤ 1000000 ∧ tx.size ≤ 1000000 ∧ bk.size ≤ 1000000) (hw : ∀ q, r = some q → Wf q ∧ q.txt.length ≤ 1000000) (ih : ∀ k ∈ ks, WrT k) (hwk : ∀ k ∈ ks, WfT k) (hW : Below w0.heap.size w0 w) (hO : OwnU w w0.heap.size v m xs) (hl : m + (tmT o nm tx bk r (tkL ks)).length ≤ 800000000000) (hT : TabAt w0) (hD : WordsAt w0) (hop : o = 2 ∨ o = 3 ∨ o = 4 ∨ o = 5 ∨ o = 6 ∨ o = 16 ∨ o = 17) (hlf : leafO o = true) (hk0 : kidsO o = 0) (hpt : PartsAt o) :
    Calls Tryz.prog 43 #[PT b, v] w fun e w' => ∃ V, e = .returned V ∧ AV w w0.heap.size v m xs (tmT o nm tx bk r (tkL ks)) V w' := by
  have hks : ks = [] := List.eq_nil_of_length_eq_zero (by rw [hn]; exact hk0)
  rw [tmT_leaf _ _ _ _ _ _ hlf] at hl ⊢
  have hl1 : m + (wordT o).length + (restT o nm tx bk r).length ≤ 800000000000 := by rw [List.length_append] at hl; omega
  obtain ⟨RT, hRT⟩ : ∃ RT, RT = restT o nm tx bk r := ⟨_, rfl⟩
  obtain ⟨WT, hWT⟩ : ∃ WT, WT = wordT o := ⟨_, rfl⟩
  rw [← hRT, ← hWT] at hl hl1 ⊢
  have HWT := hide hWT
  have HRT := hide hRT
  have HPT := hide hpt
  clear hRT hWT hpt hlf
  obtain ⟨a0, cp0, rfl⟩ := hO.slice
  have HS := hide hS
  have HSZ := hide hsz
  have HWF := hide hw
  have HIH := hide ih
  have HWK := hide hwk
  have HW := hide hW
  have HO := hide hO
  have HT := hide hT
  have HDW := hide hD
  have HL := hide hl
  clear hS hsz hw ih hwk hW hO hT hD hl
  obtain ⟨C, hC⟩ : ∃ C : World → Prop, C = fun W => Below w.heap.size w W := ⟨_, rfl⟩
  have HG : Hid (Grows C) := by rw [hC]; exact fun W W' h1 h2 => h1.trans (h2.mono h1.size)
  have HCD : Hid (C { w with drawn := w.drawn + 1 }) := by rw [hC]; exact drewBelow w
  have HCB : Hid (∀ W, C W → Below w.heap.size w W) := by rw [hC]; exact fun W h => h
  clear hC
  have hG := HG.out
  have k0 : ∀ W, C W → W.cell? ⟨b, 0, none⟩ = some (.int .i64 o) := fun W h => HS.out.c0 W (HW.out.trans ((HCB.out W h).mono HW.out.size))
  have k6 : ∀ W, C W → W.cell? ⟨b, 6, none⟩ = some (.slice a ks.length c) := fun W h => HS.out.c6 W (HW.out.trans ((HCB.out W h).mono HW.out.size))
  have hq : ∀ W, C W → Calls Tryz.prog 64 #[.int .i64 o] W fun e w' => e = .returned (.int .i64 (kidsO o)) ∧ Below W.heap.size W w' := fun W _ => kids_op o ho W
  have hnk : decide ((ks.length : Int) < (kidsO o : Nat)) = false := by simp; omega
  unfold PT
  go_enter Tryz.func43, Tryz.ntmps43
  go_wp2
  try rw [show Value.pointer (some ⟨b, 0, none⟩) = PT b from rfl]
  refine w_lit (C := C) (by kernel_rfl) (by kernel_rfl) HCD.out ?_
  refine w_value (PT b) (by kernel_rfl) (fun w hw => x_move _ _ _ _ _ _ _ _ rfl w) ?_
  simp only [Act.put, List.setIfInBounds_toArray, List.set_cons_succ, List.set_cons_zero]
  refine w_value (.bool false) (by kernel_rfl) (fun w hw => x_tmNil _ _ _ _ _ _ _ b rfl rfl w) ?_
  simp only [Act.put, List.setIfInBounds_toArray, List.set_cons_succ, List.set_cons_zero]
  refine w_value (.bool false) (by kernel_rfl) (fun w hw => x_move _ _ _ _ _ _ _ _ rfl w) ?_
  simp only [Act.put, List.setIfInBounds_toArray, List.set_cons_succ, List.set_cons_zero]
  refine w_value (PT b) (by kernel_rfl) (fun w hw => x_move _ _ _ _ _ _ _ _ rfl w) ?_
  simp only [Act.put, List.setIfInBounds_toArray, List.set_cons_succ, List.set_cons_zero]
  refine w_value (PT b) (by kernel_rfl) (fun w hw => x_nilCheck _ _ _ _ _ _ _ _ rfl w) ?_
  simp only [Act.put, List.setIfInBounds_toArray, List.set_cons_succ, List.set_cons_zero]
  refine w_value (.pointer (some ⟨b, 6, none⟩)) (by kernel_rfl) (fun w hw => x_tmF6 _ _ _ _ _ _ _ _ rfl w) ?_
  simp only [Act.put, List.setIfInBounds_toArray, List.set_cons_succ, List.set_cons_zero]
  refine w_value (.slice a ks.length c) (by kernel_rfl) (fun w hw => x_tmKids _ _ _ _ _ _ _ _ _ _ rfl w (k6 w hw)) ?_
  simp only [Act.put, List.setIfInBounds_toArray, List.set_cons_succ, List.set_cons_zero]
  refine w_value (.int .i64 ks.length) (by kernel_rfl) (fun w hw => x_tmLen _ _ _ _ _ _ _ a _ c rfl w) ?_
  simp only [Act.put, List.setIfInBounds_toArray, List.set_cons_succ, List.set_cons_zero]
  refine w_value (PT b) (by kernel_rfl) (fun w hw => x_move _ _ _ _ _ _ _ _ rfl w) ?_
  simp only [Act.put, List.setIfInBounds_toArray, List.set_cons_succ, List.set_cons_zero]
  refine w_value (PT b) (by kernel_rfl) (fun w hw => x_nilCheck _ _ _ _ _ _ _ _ rfl w) ?_
  simp only [Act.put, List.setIfInBounds_toArray, List.set_cons_succ, List.set_cons_zero]
  refine w_value (PT b) (by kernel_rfl) (fun w hw => x_tmF0 _ _ _ _ _ _ _ _ rfl w) ?_
  simp only [Act.put, List.setIfInBounds_toArray, List.set_cons_succ, List.set_cons_zero]
  refine w_value (.int .i64 o) (by kernel_rfl) (fun w hw => x_tmOp _ _ _ _ _ _ _ _ _ rfl w (k0 w hw)) ?_
  simp only [Act.put, List.setIfInBounds_toArray, List.set_cons_succ, List.set_cons_zero]
  refine w_call hG 64 #[.int .i64 o] (.int .i64 (kidsO o)) (by kernel_rfl) (fun w => x_call1 _ _ _ _ _ _ _ _ _ _ rfl rfl (enters_of Tryz.func64 (by kernel_rfl) rfl) w) (fun w hw => hq w hw) ?_
  simp only [Act.put, List.setIfInBounds_toArray, List.set_cons_succ, List.set_cons_zero]
  refine w_value (.bool false) (by kernel_rfl) (fun w hw => x_lssZ _ _ _ _ _ _ _ _ _ _ false hnk rfl rfl w) ?_
  simp only [Act.put, List.setIfInBounds_toArray, List.set_cons_succ, List.set_cons_zero]
  refine w_value (.bool false) (by kernel_rfl) (fun w hw => x_pick _ _ _ _ _ _ _ _ _ false (.bool true) (.bool false) rfl rfl rfl w) ?_
  simp only [Act.put, List.setIfInBounds_toArray, List.set_cons_succ, List.set_cons_zero]
  refine w_nil ?_
  intro W hCW
  have HA := hide ((AV.start HO.out HW.out.size).step (HCB.out W hCW))
  obtain ⟨c0, c6⟩ : W.cell? ⟨b, 0, none⟩ = some (.int .i64 o) ∧ W.cell? ⟨b, 6, none⟩ = some (.slice a ks.length c) := ⟨k0 W hCW, k6 W hCW⟩
  clear hCW k0 k6 hq hG HCD HCB HG hnk
  unfold PT
  have hk00 : (ks.length) = 0 := by rw [hn]; exact hk0
  clear hn hk0 c6
  subst hks
  obtain ⟨V1, W1, hr1, hA1⟩ := HA.out.appT (strB WT) WT (strS_bytes (by rw [HWT.out]; exact wordT_lt o (by omega))) (by simp; omega)
  obtain ⟨a1, d1, hv1⟩ := hA1.slice
  obtain ⟨M1, hM1⟩ : ∃ M1, M1 = m + ([] ++ WT : List Nat).length := ⟨_, rfl⟩
  rw [← hM1] at hv1
  subst hv1
  have HB1 := hide (hA1.below HW.out HO.out)
  have HK := hide (HPT.out b nm tx bk r rp a c _ _ _ w0 W1 HS.out HWF.out HSZ.out HB1.out hA1.own (by rw [← HRT.out]; simp; omega) HT.out)
  rw [← hM1, ← HRT.out] at HK
  have HM1 := hide hM1
  have HA1 := hide hA1
  have HWD := hide (wordOp_any o (by omega) W (HDW.out.on (HA.out.below HW.out HO.out)))
  rw [← HWT.out] at HWD
  obtain ⟨wd, hwd⟩ : ∃ wd, wd = strB WT := ⟨_, rfl⟩
  rw [← hwd] at HWD hr1
  unfold PT at HK
  clear hA1 hM1 hwd HL HPT hl1 hk00 HWT HRT
  rcases hop with h | h | h | h | h | h | h
  all_goals
    subst h
    clear ho
    go_wp2_with fail
    refine HWD.out.mono ?_
    rintro e w2 ⟨rfl, rfl⟩
    go_wp2_with (refine wpList_appendS_run rfl _ _ _ _ rfl _ _ _ rfl rfl hr1 ?_)
    refine HK.out.mono ?_
    rintro e w3 ⟨V3, rfl, hB⟩
    have hC := HA1.out.more (m := RT) (V' := V3) (W' := w3) (by rw [← HM1.out]; exact hB)
    obtain ⟨a3, d3, hv3⟩ := hB.slice
    obtain ⟨M3, hM3⟩ : ∃ M3, M3 = M1 + RT.length := ⟨_, rfl⟩
    rw [← hM3] at hv3
    subst hv3
    have HC3 := hide hC
    clear hC hB hM3 HK HWD hr1
    go_wp2
    go_ret
    exact ⟨_, rfl, by have := HC3.out; rwa [List.nil_append] at this⟩
end Go.Proofs.YtblpekljiilkjaaGreatDoor
/- appendTo, op by op. -/
namespace Go.Proofs.YtblpekljiilkjaaGreatDoor
set_option maxRecDepth 100000
set_option linter.unusedSimpArgs false
set_option linter.unusedVariables false
open Go.RowKit Go.Shelf

set_option maxHeartbeats 8000000 in
theorem to_row (b o : Nat) (nm tx bk : ByteArray) (r : Option RE) (ks : List TM) (rp : Value) (a : Option Addr) (c : Nat) (v : Value) (m : Nat) (xs : List Value) (w0 w : World) (hS : TmSee w0 b o nm tx bk r ks rp a c) (ho : 2 ≤ o ∧ o ≤ 17) (hn : ks.length = kidsO o)
    (hsz : nm.size ≤ 1000000 ∧ tx.size ≤ 1000000 ∧ bk.size ≤ 1000000) (hw : ∀ q, r = some q → Wf q ∧ q.txt.length ≤ 1000000) (ih : ∀ k ∈ ks, WrT k) (hwk : ∀ k ∈ ks, WfT k) (hW : Below w0.heap.size w0 w) (hO : OwnU w w0.heap.size v m xs) (hl : m + (tmT o nm tx bk r (tkL ks)).length ≤ 800000000000) (hT : TabAt w0) (hD : WordsAt w0) (hop : o = 7 ∨ o = 8 ∨ o = 11) (hlf : leafO o = false) (hro : rowO o = true) :
    Calls Tryz.prog 43 #[PT b, v] w fun e w' => ∃ V, e = .returned V ∧ AV w w0.heap.size v m xs (tmT o nm tx bk r (tkL ks)) V w' := by
  rw [tmT_row _ _ _ _ _ _ hlf hro] at hl ⊢
  obtain ⟨TK, hTK⟩ : ∃ TK, TK = tkT o (tsep o) 0 (tkL ks) := ⟨_, rfl⟩
  rw [← hTK] at hl ⊢
  have HTK := hide hTK
  clear hTK hlf hro
  obtain ⟨a0, cp0, rfl⟩ := hO.slice
  have HS := hide hS
  have HSZ := hide hsz
  have HWF := hide hw
  have HIH := hide ih
  have HWK := hide hwk
  have HW := hide hW
  have HO := hide hO
  have HT := hide hT
  have HDW := hide hD
  have HL := hide hl
  clear hS hsz hw ih hwk hW hO hT hD hl
  obtain ⟨C, hC⟩ : ∃ C : World → Prop, C = fun W => Below w.heap.size w W := ⟨_, rfl⟩
  have HG : Hid (Grows C) := by rw [hC]; exact fun W W' h1 h2 => h1.trans (h2.mono h1.size)
  have HCD : Hid (C { w with drawn := w.drawn + 1 }) := by rw [hC]; exact drewBelow w
  have HCB : Hid (∀ W, C W → Below w.heap.size w W) := by rw [hC]; exact fun W h => h
  clear hC
  have hG := HG.out
  have k0 : ∀ W, C W → W.cell? ⟨b, 0, none⟩ = some (.int .i64 o) := fun W h => HS.out.c0 W (HW.out.trans ((HCB.out W h).mono HW.out.size))
  have k6 : ∀ W, C W → W.cell? ⟨b, 6, none⟩ = some (.slice a ks.length c) := fun W h => HS.out.c6 W (HW.out.trans ((HCB.out W h).mono HW.out.size))
  have hq : ∀ W, C W → Calls Tryz.prog 64 #[.int .i64 o] W fun e w' => e = .returned (.int .i64 (kidsO o)) ∧ Below W.heap.size W w' := fun W _ => kids_op o ho W
  have hnk : decide ((ks.length : Int) < (kidsO o : Nat)) = false := by simp; omega
  unfold PT
  go_enter Tryz.func43, Tryz.ntmps43
  go_wp2
  try rw [show Value.pointer (some ⟨b, 0, none⟩) = PT b from rfl]
  refine w_lit (C := C) (by kernel_rfl) (by kernel_rfl) HCD.out ?_
  refine w_value (PT b) (by kernel_rfl) (fun w hw => x_move _ _ _ _ _ _ _ _ rfl w) ?_
  simp only [Act.put, List.setIfInBounds_toArray, List.set_cons_succ, List.set_cons_zero]
  refine w_value (.bool false) (by kernel_rfl) (fun w hw => x_tmNil _ _ _ _ _ _ _ b rfl rfl w) ?_
  simp only [Act.put, List.setIfInBounds_toArray, List.set_cons_succ, List.set_cons_zero]
  refine w_value (.bool false) (by kernel_rfl) (fun w hw => x_move _ _ _ _ _ _ _ _ rfl w) ?_
  simp only [Act.put, List.setIfInBounds_toArray, List.set_cons_succ, List.set_cons_zero]
  refine w_value (PT b) (by kernel_rfl) (fun w hw => x_move _ _ _ _ _ _ _ _ rfl w) ?_
  simp only [Act.put, List.setIfInBounds_toArray, List.set_cons_succ, List.set_cons_zero]
  refine w_value (PT b) (by kernel_rfl) (fun w hw => x_nilCheck _ _ _ _ _ _ _ _ rfl w) ?_
  simp only [Act.put, List.setIfInBounds_toArray, List.set_cons_succ, List.set_cons_zero]
  refine w_value (.pointer (some ⟨b, 6, none⟩)) (by kernel_rfl) (fun w hw => x_tmF6 _ _ _ _ _ _ _ _ rfl w) ?_
  simp only [Act.put, List.setIfInBounds_toArray, List.set_cons_succ, List.set_cons_zero]
  refine w_value (.slice a ks.length c) (by kernel_rfl) (fun w hw => x_tmKids _ _ _ _ _ _ _ _ _ _ rfl w (k6 w hw)) ?_
  simp only [Act.put, List.setIfInBounds_toArray, List.set_cons_succ, List.set_cons_zero]
  refine w_value (.int .i64 ks.length) (by kernel_rfl) (fun w hw => x_tmLen _ _ _ _ _ _ _ a _ c rfl w) ?_
  simp only [Act.put, List.setIfInBounds_toArray, List.set_cons_succ, List.set_cons_zero]
  refine w_value (PT b) (by kernel_rfl) (fun w hw => x_move _ _ _ _ _ _ _ _ rfl w) ?_
  simp only [Act.put, List.setIfInBounds_toArray, List.set_cons_succ, List.set_cons_zero]
  refine w_value (PT b) (by kernel_rfl) (fun w hw => x_nilCheck _ _ _ _ _ _ _ _ rfl w) ?_
  simp only [Act.put, List.setIfInBounds_toArray, List.set_cons_succ, List.set_cons_zero]
  refine w_value (PT b) (by kernel_rfl) (fun w hw => x_tmF0 _ _ _ _ _ _ _ _ rfl w) ?_
  simp only [Act.put, List.setIfInBounds_toArray, List.set_cons_succ, List.set_cons_zero]
  refine w_value (.int .i64 o) (by kernel_rfl) (fun w hw => x_tmOp _ _ _ _ _ _ _ _ _ rfl w (k0 w hw)) ?_
  simp only [Act.put, List.setIfInBounds_toArray, List.set_cons_succ, List.set_cons_zero]
  refine w_call hG 64 #[.int .i64 o] (.int .i64 (kidsO o)) (by kernel_rfl) (fun w => x_call1 _ _ _ _ _ _ _ _ _ _ rfl rfl (enters_of Tryz.func64 (by kernel_rfl) rfl) w) (fun w hw => hq w hw) ?_
  simp only [Act.put, List.setIfInBounds_toArray, List.set_cons_succ, List.set_cons_zero]
  refine w_value (.bool false) (by kernel_rfl) (fun w hw => x_lssZ _ _ _ _ _ _ _ _ _ _ false hnk rfl rfl w) ?_
  simp only [Act.put, List.setIfInBounds_toArray, List.set_cons_succ, List.set_cons_zero]
  refine w_value (.bool false) (by kernel_rfl) (fun w hw => x_pick _ _ _ _ _ _ _ _ _ false (.bool true) (.bool false) rfl rfl rfl w) ?_
  simp only [Act.put, List.setIfInBounds_toArray, List.set_cons_succ, List.set_cons_zero]
  refine w_nil ?_
  intro W hCW
  have HA := hide ((AV.start HO.out HW.out.size).step (HCB.out W hCW))
  obtain ⟨c0, c6⟩ : W.cell? ⟨b, 0, none⟩ = some (.int .i64 o) ∧ W.cell? ⟨b, 6, none⟩ = some (.slice a ks.length c) := ⟨k0 W hCW, k6 W hCW⟩
  clear hCW k0 k6 hq hG HCD HCB HG hnk
  unfold PT
  have HK : Hid (∀ (s : ByteArray), bytesN s = tsep o → Calls Tryz.prog 67 #[PT b, .slice a0 m cp0, .string s] W fun e w' => ∃ V, e = .returned V ∧ AV W w0.heap.size (.slice a0 m cp0) m xs (tkT o (tsep o) 0 (tkL ks)) V w') := fun s hs =>
    tKids_any b o nm tx bk r ks rp a c _ m xs w0 W HS.out ho (by rw [hn]; unfold kidsO; split <;> (try split) <;> omega) HIH.out HWK.out s (tsep o) hs (HA.out.below HW.out HO.out) (by have := HA.out.own; simpa [byteV] using this) (by rw [← HTK.out]; exact HL.out) HT.out HDW.out
  rw [← HTK.out] at HK
  unfold PT at HK
  clear hn HTK
  rcases hop with h | h | h
  all_goals
    subst h
    clear ho
    first
      | have HK2 := hide (HK.out ⟨#[32, 124, 32]⟩ (by decide +kernel))
      | have HK2 := hide (HK.out ⟨#[32, 46, 32]⟩ (by decide +kernel))
      | have HK2 := hide (HK.out ⟨#[32, 59, 32]⟩ (by decide +kernel))
    clear HK
    go_wp2_with fail
    refine HK2.out.mono ?_
    rintro e w3 ⟨V3, rfl, hB⟩
    have hC := HA.out.more (m := TK) (V' := V3) (W' := w3) (by simpa [byteV] using hB)
    obtain ⟨a3, d3, hv3⟩ := hB.slice
    obtain ⟨M3, hM3⟩ : ∃ M3, M3 = m + TK.length := ⟨_, rfl⟩
    rw [← hM3] at hv3
    subst hv3
    have HC3 := hide hC
    clear hC hB hM3 HK2
    go_wp2
    go_ret
    exact ⟨_, rfl, by have := HC3.out; rwa [List.nil_append] at this⟩
end Go.Proofs.YtblpekljiilkjaaGreatDoor
/- appendTo, op by op. -/
namespace Go.Proofs.YtblpekljiilkjaaGreatDoor
set_option maxRecDepth 100000
set_option linter.unusedSimpArgs false
set_option linter.unusedVariables false
open Go.RowKit Go.Shelf

set_option maxHeartbeats 8000000 in
theorem to_star (b o : Nat) (nm tx bk : ByteArray) (r : Option RE) (ks : List TM) (rp : Value) (a : Option Addr) (c : Nat) (v : Value) (m : Nat) (xs : List Value) (w0 w : World) (hS : TmSee w0 b o nm tx bk r ks rp a c) (ho : 2 ≤ o ∧ o ≤ 17) (hn : ks.length = kidsO o)
    (hsz : nm.size ≤ 1000000 ∧ tx.size ≤ 1000000 ∧ bk.size ≤ 1000000) (hw : ∀ q, r = some q → Wf q ∧ q.txt.length ≤ 1000000) (ih : ∀ k ∈ ks, WrT k) (hwk : ∀ k ∈ ks, WfT k) (hW : Below w0.heap.size w0 w) (hO : OwnU w w0.heap.size v m xs) (hl : m + (tmT o nm tx bk r (tkL ks)).length ≤ 800000000000) (hT : TabAt w0) (hD : WordsAt w0) (hop : o = 9) :
    Calls Tryz.prog 43 #[PT b, v] w fun e w' => ∃ V, e = .returned V ∧ AV w w0.heap.size v m xs (tmT o nm tx bk r (tkL ks)) V w' := by
  obtain ⟨k, hk⟩ : ∃ k, ks = [k] := by
    have h1 : ks.length = 1 := by rw [hn, hop]; rfl
    match ks, h1 with
    | [k], _ => exact ⟨k, rfl⟩
  obtain ⟨TK, hTK⟩ : ∃ TK, TK = inT (levT k.op) (mustT o 0) k.txt := ⟨_, rfl⟩
  have htm : tmT o nm tx bk r (tkL ks) = TK ++ [42] := by
    rw [hTK, hop, hk, tmT_9]
    simp only [tkL, List.map_cons, List.map_nil, tkT, List.append_nil]
    rw [if_neg (by decide), List.nil_append]
  rw [htm] at hl ⊢
  have hK : ∀ (V : Value) (n : Nat) (ys : List Value) (W : World), Below w0.heap.size w0 W → OwnU W w0.heap.size V n ys → n + TK.length ≤ 800000000000 → Calls Tryz.prog 68 #[PT b, V, .int .i64 0] W fun e w' => ∃ V', e = .returned V' ∧ AV W w0.heap.size V n ys TK V' w' := by
    intro V n ys W h1 h2 h3
    rw [hTK] at h3 ⊢
    clear hTK htm hl
    subst hk
    exact appendKid_any b o nm tx bk r [k] rp a c V n ys w0 W hS ho 0 (by simp) (by simp) (ih k (by simp)) (hwk k (by simp)) h1 h2 h3 hT hD
  have HKK := hide hK
  clear hTK htm hK hk
  obtain ⟨a0, cp0, rfl⟩ := hO.slice
  have HS := hide hS
  have HSZ := hide hsz
  have HWF := hide hw
  have HIH := hide ih
  have HWK := hide hwk
  have HW := hide hW
  have HO := hide hO
  have HT := hide hT
  have HDW := hide hD
  have HL := hide hl
  clear hS hsz hw ih hwk hW hO hT hD hl
  obtain ⟨C, hC⟩ : ∃ C : World → Prop, C = fun W => Below w.heap.size w W := ⟨_, rfl⟩
  have HG : Hid (Grows C) := by rw [hC]; exact fun W W' h1 h2 => h1.trans (h2.mono h1.size)
  have HCD : Hid (C { w with drawn := w.drawn + 1 }) := by rw [hC]; exact drewBelow w
  have HCB : Hid (∀ W, C W → Below w.heap.size w W) := by rw [hC]; exact fun W h => h
  clear hC
  have hG := HG.out
  have k0 : ∀ W, C W → W.cell? ⟨b, 0, none⟩ = some (.int .i64 o) := fun W h => HS.out.c0 W (HW.out.trans ((HCB.out W h).mono HW.out.size))
  have k6 : ∀ W, C W → W.cell? ⟨b, 6, none⟩ = some (.slice a ks.length c) := fun W h => HS.out.c6 W (HW.out.trans ((HCB.out W h).mono HW.out.size))
  have hq : ∀ W, C W → Calls Tryz.prog 64 #[.int .i64 o] W fun e w' => e = .returned (.int .i64 (kidsO o)) ∧ Below W.heap.size W w' := fun W _ => kids_op o ho W
  have hnk : decide ((ks.length : Int) < (kidsO o : Nat)) = false := by simp; omega
  unfold PT
  go_enter Tryz.func43, Tryz.ntmps43
  go_wp2
  try rw [show Value.pointer (some ⟨b, 0, none⟩) = PT b from rfl]
  refine w_lit (C := C) (by kernel_rfl) (by kernel_rfl) HCD.out ?_
  refine w_value (PT b) (by kernel_rfl) (fun w hw => x_move _ _ _ _ _ _ _ _ rfl w) ?_
  simp only [Act.put, List.setIfInBounds_toArray, List.set_cons_succ, List.set_cons_zero]
  refine w_value (.bool false) (by kernel_rfl) (fun w hw => x_tmNil _ _ _ _ _ _ _ b rfl rfl w) ?_
  simp only [Act.put, List.setIfInBounds_toArray, List.set_cons_succ, List.set_cons_zero]
  refine w_value (.bool false) (by kernel_rfl) (fun w hw => x_move _ _ _ _ _ _ _ _ rfl w) ?_
  simp only [Act.put, List.setIfInBounds_toArray, List.set_cons_succ, List.set_cons_zero]
  refine w_value (PT b) (by kernel_rfl) (fun w hw => x_move _ _ _ _ _ _ _ _ rfl w) ?_
  simp only [Act.put, List.setIfInBounds_toArray, List.set_cons_succ, List.set_cons_zero]
  refine w_value (PT b) (by kernel_rfl) (fun w hw => x_nilCheck _ _ _ _ _ _ _ _ rfl w) ?_
  simp only [Act.put, List.setIfInBounds_toArray, List.set_cons_succ, List.set_cons_zero]
  refine w_value (.pointer (some ⟨b, 6, none⟩)) (by kernel_rfl) (fun w hw => x_tmF6 _ _ _ _ _ _ _ _ rfl w) ?_
  simp only [Act.put, List.setIfInBounds_toArray, List.set_cons_succ, List.set_cons_zero]
  refine w_value (.slice a ks.length c) (by kernel_rfl) (fun w hw => x_tmKids _ _ _ _ _ _ _ _ _ _ rfl w (k6 w hw)) ?_
  simp only [Act.put, List.setIfInBounds_toArray, List.set_cons_succ, List.set_cons_zero]
  refine w_value (.int .i64 ks.length) (by kernel_rfl) (fun w hw => x_tmLen _ _ _ _ _ _ _ a _ c rfl w) ?_
  simp only [Act.put, List.setIfInBounds_toArray, List.set_cons_succ, List.set_cons_zero]
  refine w_value (PT b) (by kernel_rfl) (fun w hw => x_move _ _ _ _ _ _ _ _ rfl w) ?_
  simp only [Act.put, List.setIfInBounds_toArray, List.set_cons_succ, List.set_cons_zero]
  refine w_value (PT b) (by kernel_rfl) (fun w hw => x_nilCheck _ _ _ _ _ _ _ _ rfl w) ?_
  simp only [Act.put, List.setIfInBounds_toArray, List.set_cons_succ, List.set_cons_zero]
  refine w_value (PT b) (by kernel_rfl) (fun w hw => x_tmF0 _ _ _ _ _ _ _ _ rfl w) ?_
  simp only [Act.put, List.setIfInBounds_toArray, List.set_cons_succ, List.set_cons_zero]
  refine w_value (.int .i64 o) (by kernel_rfl) (fun w hw => x_tmOp _ _ _ _ _ _ _ _ _ rfl w (k0 w hw)) ?_
  simp only [Act.put, List.setIfInBounds_toArray, List.set_cons_succ, List.set_cons_zero]
  refine w_call hG 64 #[.int .i64 o] (.int .i64 (kidsO o)) (by kernel_rfl) (fun w => x_call1 _ _ _ _ _ _ _ _ _ _ rfl rfl (enters_of Tryz.func64 (by kernel_rfl) rfl) w) (fun w hw => hq w hw) ?_
  simp only [Act.put, List.setIfInBounds_toArray, List.set_cons_succ, List.set_cons_zero]
  refine w_value (.bool false) (by kernel_rfl) (fun w hw => x_lssZ _ _ _ _ _ _ _ _ _ _ false hnk rfl rfl w) ?_
  simp only [Act.put, List.setIfInBounds_toArray, List.set_cons_succ, List.set_cons_zero]
  refine w_value (.bool false) (by kernel_rfl) (fun w hw => x_pick _ _ _ _ _ _ _ _ _ false (.bool true) (.bool false) rfl rfl rfl w) ?_
  simp only [Act.put, List.setIfInBounds_toArray, List.set_cons_succ, List.set_cons_zero]
  refine w_nil ?_
  intro W hCW
  have HA := hide ((AV.start HO.out HW.out.size).step (HCB.out W hCW))
  obtain ⟨c0, c6⟩ : W.cell? ⟨b, 0, none⟩ = some (.int .i64 o) ∧ W.cell? ⟨b, 6, none⟩ = some (.slice a ks.length c) := ⟨k0 W hCW, k6 W hCW⟩
  clear hCW k0 k6 hq hG HCD HCB HG hnk
  unfold PT
  have hTl : m + TK.length + 1 ≤ 800000000000 := by have := HL.out; rw [List.length_append] at this; simpa [Nat.add_assoc] using this
  have HK2 := hide (HKK.out (.slice a0 m cp0) m xs W (HA.out.below HW.out HO.out) (by have := HA.out.own; simpa [byteV] using this) (by omega))
  unfold PT at HK2
  clear HKK ho hn
  subst hop
  go_wp2_with fail
  refine HK2.out.mono ?_
  rintro e w3 ⟨V3, rfl, hB⟩
  have hC := HA.out.more (m := TK) (V' := V3) (W' := w3) (by simpa [byteV] using hB)
  obtain ⟨V4, W4, hr4, hA4⟩ := hC.app1 42 (by simp; omega)
  obtain ⟨a3, d3, hv3⟩ := hB.slice
  obtain ⟨M3, hM3⟩ : ∃ M3, M3 = m + TK.length := ⟨_, rfl⟩
  rw [← hM3] at hv3
  subst hv3
  obtain ⟨a4, d4, hv4⟩ := hA4.slice
  obtain ⟨M4, hM4⟩ : ∃ M4, M4 = m + ([] ++ TK ++ [42] : List Nat).length := ⟨_, rfl⟩
  rw [← hM4] at hv4
  subst hv4
  have HA4 := hide hA4
  clear hC hB hM3 hM4 HK2 hA4 HA
  go_wp2_with (refine wpList_append_run rfl _ _ _ rfl _ _ _ rfl rfl hr4 ?_)
  go_ret
  exact ⟨_, rfl, by have := HA4.out; rwa [List.nil_append] at this⟩
end Go.Proofs.YtblpekljiilkjaaGreatDoor
