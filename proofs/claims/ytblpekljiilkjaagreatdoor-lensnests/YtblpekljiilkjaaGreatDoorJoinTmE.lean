/- Texts of this claim put together: TmE4, TmE. -/
import Derived.Test.YtblpekljiilkjaaGreatDoorJoinTmE0
import Derived.Test.YtblpekljiilkjaaGreatDoorJoinTmE3
/- appendTo, op by op. -/
namespace Go.Proofs.YtblpekljiilkjaaGreatDoor
set_option maxRecDepth 100000
set_option linter.unusedSimpArgs false
set_option linter.unusedVariables false
open Go.RowKit Go.Shelf

set_option maxHeartbeats 8000000 in
theorem to_word (b o : Nat) (nm tx bk : ByteArray) (r : Option RE) (ks : List TM) (rp : Value) (a : Option Addr) (c : Nat) (v : Value) (m : Nat) (xs : List Value) (w0 w : World) (hS : TmSee w0 b o nm tx bk r ks rp a c) (ho : 2 ≤ o ∧ o ≤ 17) (hn : ks.length = kidsO o)
    (hsz : nm.size ≤ 1000000 ∧ tx.size ≤ 1000000 ∧ bk.size ≤ 1000000) (hw : ∀ q, r = some q → Wf q ∧ q.txt.length ≤ 1000000) (ih : ∀ k ∈ ks, WrT k) (hwk : ∀ k ∈ ks, WfT k) (hW : Below w0.heap.size w0 w) (hO : OwnU w w0.heap.size v m xs) (hl : m + (tmT o nm tx bk r (tkL ks)).length ≤ 800000000000) (hT : TabAt w0) (hD : WordsAt w0) (hop : o = 10 ∨ o = 12 ∨ o = 13 ∨ o = 14 ∨ o = 15) (hlf : leafO o = false) (hro : rowO o = false) (h9 : o ≠ 9) (hsep : tsep o = [44, 32]) :
    Calls Tryz.prog 43 #[PT b, v] w fun e w' => ∃ V, e = .returned V ∧ AV w w0.heap.size v m xs (tmT o nm tx bk r (tkL ks)) V w' := by
  rw [tmT_word _ _ _ _ _ _ hlf hro h9] at hl ⊢
  obtain ⟨WT, hWT⟩ : ∃ WT, WT = wordT o := ⟨_, rfl⟩
  obtain ⟨TK, hTK⟩ : ∃ TK, TK = tkT o (tsep o) 0 (tkL ks) := ⟨_, rfl⟩
  rw [← hWT, ← hTK] at hl ⊢
  have hl1 : m + WT.length + 1 + TK.length + 1 ≤ 800000000000 := by simp at hl; omega
  have HWT := hide hWT
  have HTK := hide hTK
  have HSEP := hide hsep
  clear hWT hTK hlf hro h9 hsep
  obtain ⟨a0, cp0, rfl⟩ := hO.slice
  have HS := hide hS
  have HSZ := hide hsz
  have HWF := hide hw
  have HIH := hide ih
  have HWK := hide hwk
  have HW := hide hW
  have HO := hide hO
  have HT := hide hT
  have HDW := hide hD
  have HL := hide hl
  clear hS hsz hw ih hwk hW hO hT hD hl
  obtain ⟨C, hC⟩ : ∃ C : World → Prop, C = fun W => Below w.heap.size w W := ⟨_, rfl⟩
  have HG : Hid (Grows C) := by rw [hC]; exact fun W W' h1 h2 => h1.trans (h2.mono h1.size)
  have HCD : Hid (C { w with drawn := w.drawn + 1 }) := by rw [hC]; exact drewBelow w
  have HCB : Hid (∀ W, C W → Below w.heap.size w W) := by rw [hC]; exact fun W h => h
  clear hC
  have hG := HG.out
  have k0 : ∀ W, C W → W.cell? ⟨b, 0, none⟩ = some (.int .i64 o) := fun W h => HS.out.c0 W (HW.out.trans ((HCB.out W h).mono HW.out.size))
  have k6 : ∀ W, C W → W.cell? ⟨b, 6, none⟩ = some (.slice a ks.length c) := fun W h => HS.out.c6 W (HW.out.trans ((HCB.out W h).mono HW.out.size))
  have hq : ∀ W, C W → Calls Tryz.prog 64 #[.int .i64 o] W fun e w' => e = .returned (.int .i64 (kidsO o)) ∧ Below W.heap.size W w' := fun W _ => kids_op o ho W
  have hnk : decide ((ks.length : Int) < (kidsO o : Nat)) = false := by simp; omega
  unfold PT
  go_enter Tryz.func43, Tryz.ntmps43
  go_wp2
  try rw [show Value.pointer (some ⟨b, 0, none⟩) = PT b from rfl]
  refine w_lit (C := C) (by kernel_rfl) (by kernel_rfl) HCD.out ?_
  refine w_value (PT b) (by kernel_rfl) (fun w hw => x_move _ _ _ _ _ _ _ _ rfl w) ?_
  simp only [Act.put, List.setIfInBounds_toArray, List.set_cons_succ, List.set_cons_zero]
  refine w_value (.bool false) (by kernel_rfl) (fun w hw => x_tmNil _ _ _ _ _ _ _ b rfl rfl w) ?_
  simp only [Act.put, List.setIfInBounds_toArray, List.set_cons_succ, List.set_cons_zero]
  refine w_value (.bool false) (by kernel_rfl) (fun w hw => x_move _ _ _ _ _ _ _ _ rfl w) ?_
  simp only [Act.put, List.setIfInBounds_toArray, List.set_cons_succ, List.set_cons_zero]
  refine w_value (PT b) (by kernel_rfl) (fun w hw => x_move _ _ _ _ _ _ _ _ rfl w) ?_
  simp only [Act.put, List.setIfInBounds_toArray, List.set_cons_succ, List.set_cons_zero]
  refine w_value (PT b) (by kernel_rfl) (fun w hw => x_nilCheck _ _ _ _ _ _ _ _ rfl w) ?_
  simp only [Act.put, List.setIfInBounds_toArray, List.set_cons_succ, List.set_cons_zero]
  refine w_value (.pointer (some ⟨b, 6, none⟩)) (by kernel_rfl) (fun w hw => x_tmF6 _ _ _ _ _ _ _ _ rfl w) ?_
  simp only [Act.put, List.setIfInBounds_toArray, List.set_cons_succ, List.set_cons_zero]
  refine w_value (.slice a ks.length c) (by kernel_rfl) (fun w hw => x_tmKids _ _ _ _ _ _ _ _ _ _ rfl w (k6 w hw)) ?_
  simp only [Act.put, List.setIfInBounds_toArray, List.set_cons_succ, List.set_cons_zero]
  refine w_value (.int .i64 ks.length) (by kernel_rfl) (fun w hw => x_tmLen _ _ _ _ _ _ _ a _ c rfl w) ?_
  simp only [Act.put, List.setIfInBounds_toArray, List.set_cons_succ, List.set_cons_zero]
  refine w_value (PT b) (by kernel_rfl) (fun w hw => x_move _ _ _ _ _ _ _ _ rfl w) ?_
  simp only [Act.put, List.setIfInBounds_toArray, List.set_cons_succ, List.set_cons_zero]
  refine w_value (PT b) (by kernel_rfl) (fun w hw => x_nilCheck _ _ _ _ _ _ _ _ rfl w) ?_
  simp only [Act.put, List.setIfInBounds_toArray, List.set_cons_succ, List.set_cons_zero]
  refine w_value (PT b) (by kernel_rfl) (fun w hw => x_tmF0 _ _ _ _ _ _ _ _ rfl w) ?_
  simp only [Act.put, List.setIfInBounds_toArray, List.set_cons_succ, List.set_cons_zero]
  refine w_value (.int .i64 o) (by kernel_rfl) (fun w hw => x_tmOp _ _ _ _ _ _ _ _ _ rfl w (k0 w hw)) ?_
  simp only [Act.put, List.setIfInBounds_toArray, List.set_cons_succ, List.set_cons_zero]
  refine w_call hG 64 #[.int .i64 o] (.int .i64 (kidsO o)) (by kernel_rfl) (fun w => x_call1 _ _ _ _ _ _ _ _ _ _ rfl rfl (enters_of Tryz.func64 (by kernel_rfl) rfl) w) (fun w hw => hq w hw) ?_
  simp only [Act.put, List.setIfInBounds_toArray, List.set_cons_succ, List.set_cons_zero]
  refine w_value (.bool false) (by kernel_rfl) (fun w hw => x_lssZ _ _ _ _ _ _ _ _ _ _ false hnk rfl rfl w) ?_
  simp only [Act.put, List.setIfInBounds_toArray, List.set_cons_succ, List.set_cons_zero]
  refine w_value (.bool false) (by kernel_rfl) (fun w hw => x_pick _ _ _ _ _ _ _ _ _ false (.bool true) (.bool false) rfl rfl rfl w) ?_
  simp only [Act.put, List.setIfInBounds_toArray, List.set_cons_succ, List.set_cons_zero]
  refine w_nil ?_
  intro W hCW
  have HA := hide ((AV.start HO.out HW.out.size).step (HCB.out W hCW))
  obtain ⟨c0, c6⟩ : W.cell? ⟨b, 0, none⟩ = some (.int .i64 o) ∧ W.cell? ⟨b, 6, none⟩ = some (.slice a ks.length c) := ⟨k0 W hCW, k6 W hCW⟩
  clear hCW k0 k6 hq hG HCD HCB HG hnk
  unfold PT
  have HWD := hide (wordOp_any o (by omega) W (HDW.out.on (HA.out.below HW.out HO.out)))
  obtain ⟨V1, W1, hr1, hA1⟩ := HA.out.appT (strB WT) WT (strS_bytes (by rw [HWT.out]; exact wordT_lt o (by omega))) (by simp; omega)
  obtain ⟨V2, W2, hr2, hA2⟩ := hA1.app1 40 (by simp; omega)
  obtain ⟨a1, d1, hv1⟩ := hA1.slice
  obtain ⟨M1, hM1⟩ : ∃ M1, M1 = m + ([] ++ WT : List Nat).length := ⟨_, rfl⟩
  rw [← hM1] at hv1
  subst hv1
  obtain ⟨a2, d2, hv2⟩ := hA2.slice
  obtain ⟨M2, hM2⟩ : ∃ M2, M2 = m + ([] ++ WT ++ [40] : List Nat).length := ⟨_, rfl⟩
  rw [← hM2] at hv2
  subst hv2
  have HK := hide (tKids_any b o nm tx bk r ks rp a c _ _ _ w0 W2 HS.out ho (by rw [hn]; unfold kidsO; split <;> (try split) <;> omega) HIH.out HWK.out ⟨#[44, 32]⟩ (tsep o) (by rw [HSEP.out]; decide +kernel) (hA2.below HW.out HO.out) hA2.own (by rw [← HTK.out]; simp; omega) HT.out HDW.out)
  rw [← hM2, ← HTK.out] at HK
  have HM2 := hide hM2
  have HA2 := hide hA2
  rw [← HWT.out] at HWD
  obtain ⟨wd, hwd⟩ : ∃ wd, wd = strB WT := ⟨_, rfl⟩
  rw [← hwd] at HWD hr1
  unfold PT at HK
  have HL1 := hide hl1
  clear hA1 hM1 hA2 hM2 hwd HL HTK HWT HSEP hn hl1
  rcases hop with h | h | h | h | h
  all_goals
    subst h
    clear ho
    go_wp2_with fail
    refine HWD.out.mono ?_
    rintro e w2 ⟨rfl, rfl⟩
    go_wp2_with (first | refine wpList_appendS_run rfl _ _ _ _ rfl _ _ _ rfl rfl hr1 ?_ | refine wpList_append_run rfl _ _ _ rfl _ _ _ rfl rfl hr2 ?_)
    refine HK.out.mono ?_
    rintro e w3 ⟨V3, rfl, hB⟩
    have hC := HA2.out.more (m := TK) (V' := V3) (W' := w3) (by rw [← HM2.out]; exact hB)
    obtain ⟨V4, W4, hr4, hA4⟩ := hC.app1 41 (by have := HL1.out; simp; omega)
    obtain ⟨a3, d3, hv3⟩ := hB.slice
    obtain ⟨M3, hM3⟩ : ∃ M3, M3 = M2 + TK.length := ⟨_, rfl⟩
    rw [← hM3] at hv3
    subst hv3
    obtain ⟨a4, d4, hv4⟩ := hA4.slice
    obtain ⟨M4, hM4⟩ : ∃ M4, M4 = m + ([] ++ WT ++ [40] ++ TK ++ [41] : List Nat).length := ⟨_, rfl⟩
    rw [← hM4] at hv4
    subst hv4
    have HA4 := hide hA4
    clear hC hB hM3 hM4 HK HWD hr1 hr2 hA4 HA HA2 HM2
    go_wp2_with (refine wpList_append_run rfl _ _ _ rfl _ _ _ rfl rfl hr4 ?_)
    go_ret
    exact ⟨_, rfl, by have := HA4.out; rwa [List.nil_append] at this⟩
end Go.Proofs.YtblpekljiilkjaaGreatDoor
/- appendTo, op by op. -/
namespace Go.Proofs.YtblpekljiilkjaaGreatDoor
set_option maxRecDepth 100000
set_option linter.unusedSimpArgs false
set_option linter.unusedVariables false
open Go.RowKit Go.Shelf

theorem appendTo_any (t : TM) : WfT t → WrT t := by
  refine TM.ind (P := fun t => WfT t → WrT t) ?_ t
  intro o nm tx bk r ks ih hwf b v m xs w0 w hR hW hO hl hT hD
  obtain ⟨rp, a, c, hS⟩ := hR.see
  have hih : ∀ k ∈ ks, WrT k := fun k hk => ih k hk (hwf.kid k hk)
  have ho := hwf.op
  have hn := hwf.len
  have hs := hwf.sz
  have hw := hwf.re
  have hk := hwf.kid
  rw [TM.txt_mk] at hl ⊢
  rcases op_cases ho with h | h | h | h | h | h | h | h | h | h | h | h | h | h | h | h
  all_goals subst h
  · exact to_leaf b _ nm tx bk r ks rp a c v m xs w0 w hS ho hn hs hw hih hk hW hO hl hT hD (by decide) (by decide) (by decide) parts_2
  · exact to_leaf b _ nm tx bk r ks rp a c v m xs w0 w hS ho hn hs hw hih hk hW hO hl hT hD (by decide) (by decide) (by decide) parts_3
  · exact to_leaf b _ nm tx bk r ks rp a c v m xs w0 w hS ho hn hs hw hih hk hW hO hl hT hD (by decide) (by decide) (by decide) parts_4
  · exact to_leaf b _ nm tx bk r ks rp a c v m xs w0 w hS ho hn hs hw hih hk hW hO hl hT hD (by decide) (by decide) (by decide) parts_5
  · exact to_leaf b _ nm tx bk r ks rp a c v m xs w0 w hS ho hn hs hw hih hk hW hO hl hT hD (by decide) (by decide) (by decide) parts_6
  · exact to_row b _ nm tx bk r ks rp a c v m xs w0 w hS ho hn hs hw hih hk hW hO hl hT hD (by decide) (by decide) (by decide)
  · exact to_row b _ nm tx bk r ks rp a c v m xs w0 w hS ho hn hs hw hih hk hW hO hl hT hD (by decide) (by decide) (by decide)
  · exact to_star b _ nm tx bk r ks rp a c v m xs w0 w hS ho hn hs hw hih hk hW hO hl hT hD rfl
  · exact to_word b _ nm tx bk r ks rp a c v m xs w0 w hS ho hn hs hw hih hk hW hO hl hT hD (by decide) (by decide) (by decide) (by decide) (by decide)
  · exact to_row b _ nm tx bk r ks rp a c v m xs w0 w hS ho hn hs hw hih hk hW hO hl hT hD (by decide) (by decide) (by decide)
  · exact to_word b _ nm tx bk r ks rp a c v m xs w0 w hS ho hn hs hw hih hk hW hO hl hT hD (by decide) (by decide) (by decide) (by decide) (by decide)
  · exact to_word b _ nm tx bk r ks rp a c v m xs w0 w hS ho hn hs hw hih hk hW hO hl hT hD (by decide) (by decide) (by decide) (by decide) (by decide)
  · exact to_word b _ nm tx bk r ks rp a c v m xs w0 w hS ho hn hs hw hih hk hW hO hl hT hD (by decide) (by decide) (by decide) (by decide) (by decide)
  · exact to_word b _ nm tx bk r ks rp a c v m xs w0 w hS ho hn hs hw hih hk hW hO hl hT hD (by decide) (by decide) (by decide) (by decide) (by decide)
  · exact to_leaf b _ nm tx bk r ks rp a c v m xs w0 w hS ho hn hs hw hih hk hW hO hl hT hD (by decide) (by decide) (by decide) parts_16
  · exact to_leaf b _ nm tx bk r ks rp a c v m xs w0 w hS ho hn hs hw hih hk hW hO hl hT hD (by decide) (by decide) (by decide) parts_17
end Go.Proofs.YtblpekljiilkjaaGreatDoor
