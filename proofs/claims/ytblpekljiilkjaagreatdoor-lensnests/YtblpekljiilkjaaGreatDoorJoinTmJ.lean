/- Texts of this claim put together: TmJ3, TmJ4, TmJ. -/
import Derived.Test.YtblpekljiilkjaaGreatDoorJoinTmJ0
import Derived.Test.YtblpekljiilkjaaGreatDoorJoinTmJ2
/- Make, op by op. -/
namespace Go.Proofs.YtblpekljiilkjaaGreatDoor
set_option maxRecDepth 100000
set_option linter.unusedSimpArgs false
set_option linter.unusedVariables false
open Go.RowKit Go.Shelf

set_option maxHeartbeats 4000000 in
theorem make_7 (s : PL) (ih : ∀ k ∈ s.kids, MkP k) (hk : plO s.op = 7) : MkP s := by
  intro cs w h hT
  obtain ⟨v, rfl, hr, ho, hwd, hnm⟩ := h.open
  obtain ⟨hn, a, cap, rfl, -⟩ := hr.at
  have hb1 := (Below.refl w.heap.size w).alloc (Nat.le_refl _) (.cells #[.int .i64 s.op, .int .i64 s.wd, .int .i64 s.num, .slice a s.kids.length cap] 24)
  have hPk := Blk.newAt (w := w) rfl #[.int .i64 s.op, .int .i64 s.wd, .int .i64 s.num, .slice a s.kids.length cap] 24
  have HPO := hide (planOp_any s _ _ (h.keep hb1))
  rw [hk, show ((7 : Nat) : Int) = 7 from rfl] at HPO
  have HG : Hid (s.tm = tmOf s.op s.wd s.num (s.kids.map PL.tm)) := by show _ = _; cases s; exact PL.tm_mk _ _ _ _
  have HK := hide hk
  have HT := hide hT
  have HWD := hide hwd
  have HNM := hide hnm
  have HPK := hide hPk
  have HB1 := hide hb1
  have HKD : Hid (∀ (i : Nat), i < 2 → ∀ W, Below w.heap.size w W → Calls Tryz.prog 42 #[PlVal [.int .i64 s.op, .int .i64 s.wd, .int .i64 s.num, .slice a s.kids.length cap], .int .i64 i] W fun e w' => ∃ p, e = .returned (PT p) ∧ TmAt w' p ((s.kids.map PL.tm).getD i hdA) ∧ Below W.heap.size W w') :=
    fun i hi W hW => pkidT_any s ih i hi _ W (h.keep hW) (hT.onS hW)
  have HWFK : Hid (∀ i, WfT ((s.kids.map PL.tm).getD i hdA)) := fun i => getD_wf (fun x hx => by obtain ⟨y, -, rfl⟩ := List.mem_map.1 hx; exact y.tm_wf) i
  clear h hr hT ho hwd hnm hk hb1 hPk hn ih
  unfold PlVal at HPO HKD ⊢
  go_enter Tryz.func14, Tryz.ntmps14
  go_wp2_with fail
  refine HPO.out.mono ?_
  rintro e w2 ⟨rfl, hb2⟩
  have hbl := (Below.refl w2.heap.size w2).alloc (Nat.le_refl _) (.cells #[.int .i64 7, .int .i64 0, .string ⟨#[]⟩, .pointer none, .string ⟨#[]⟩, .string ⟨#[]⟩, .slice none 0 0] 38)
  have hLW := HB1.out.trans (hb2.mono HB1.out.size)
  have HM : Hid (MkW w w2.heap.size w.heap.size #[.int .i64 s.op, .int .i64 s.wd, .int .i64 s.num, .slice a s.kids.length cap] (tmC 7 0 ⟨#[]⟩ ⟨#[]⟩ ⟨#[]⟩ (.pointer none) (.slice none 0 0)) none (w2.alloc (.cells #[.int .i64 7, .int .i64 0, .string ⟨#[]⟩, .pointer none, .string ⟨#[]⟩, .string ⟨#[]⟩, .slice none 0 0] 38))) :=
    ⟨Blk.newAt rfl _ _, (HPK.out.below hb2 HPK.out.lt).alloc _, fun p r e => by (cases e), hLW.size, hLW.trans (hbl.mono hLW.size)⟩
  have q1 := (HPK.out.below hb2 HPK.out.lt).cell 1
  have q2 := (HPK.out.below hb2 HPK.out.lt).cell 2
  have q0 := (HPK.out.below hb2 HPK.out.lt).cell 0
  have q3 := (HPK.out.below hb2 HPK.out.lt).cell 3
  simp only [List.getElem?_toArray, List.getElem?_cons_zero, List.getElem?_cons_succ] at q0 q1 q2 q3
  have hlt : w.heap.size < w2.heap.size := (HPK.out.below hb2 HPK.out.lt).lt
  clear hb2 hLW hbl HPO
  go_wp2_with fail
  obtain ⟨W, hWd⟩ : ∃ W, W = w2.alloc (.cells #[.int .i64 7, .int .i64 0, .string ⟨#[]⟩, .pointer none, .string ⟨#[]⟩, .string ⟨#[]⟩, .slice none 0 0] 38) := ⟨_, rfl⟩
  try rw [← hWd]
  rw [← hWd] at HM
  clear hWd q0 q1 q2 q3 hlt
  generalize w2.heap.size = b at *
  try rw [show Value.pointer (some ⟨b, 0, none⟩) = PT b from rfl]
  have hbw := HM.out.below
  have hS : Below b W { W with drawn := W.drawn + 1 } := ⟨rfl, rfl, rfl, Nat.le_refl _, fun _ _ => rfl⟩
  have HD := hide (HM.out.call (drewBelow W))
  have hpb : w.heap.size < b := by
    have h1 := HM.out.ne
    have h2 := HM.out.low
    omega
  have hpl : ∀ X, Below b W X → Blk X w.heap.size #[.int .i64 s.op, .int .i64 s.wd, .int .i64 s.num, .slice a s.kids.length cap] 24 := fun X hX => HM.out.plan.below hX hpb
  refine wp_region_noPanic (wp_region_held (S := fun X => Below b W X) (by kernel_rfl) ?_)
  show wpAnyH _ _ _ _ _ 9 #[false, false, false, false, false, false, false, false, false] _ _
  generalize ({ W with drawn := W.drawn + 1 } : World) = X at hS HD ⊢
  refine h_take 0 (PT b) rfl (by kernel_rfl) (by kernel_rfl) (by kernel_rfl) rfl (fun w hw => x_move _ _ _ _ _ _ _ _ rfl w) hS ?_
  simp only [Act.put, List.setIfInBounds_toArray, List.set_cons_succ, List.set_cons_zero]
  refine h_take 1 (.agg #[.int .i64 s.op, .int .i64 s.wd, .int .i64 s.num, .slice a s.kids.length cap]) rfl (by kernel_rfl) (by kernel_rfl) (by kernel_rfl) rfl (fun w hw => x_loadPl _ _ _ _ _ _ _ _ _ _ _ _ _ _ rfl w (hpl w hw)) hS ?_
  simp only [Act.put, List.setIfInBounds_toArray, List.set_cons_succ, List.set_cons_zero]
  refine h_take 3 (.agg #[.int .i64 s.op, .int .i64 s.wd, .int .i64 s.num, .slice a s.kids.length cap]) rfl (by kernel_rfl) (by kernel_rfl) (by kernel_rfl) rfl (fun w hw => x_loadPl _ _ _ _ _ _ _ _ _ _ _ _ _ _ rfl w (hpl w hw)) hS ?_
  simp only [Act.put, List.setIfInBounds_toArray, List.set_cons_succ, List.set_cons_zero]
  have HKC := hide (HKD.out 0 (by omega) X HD.out.below)
  refine h_callE 2 42 #[.agg #[.int .i64 s.op, .int .i64 s.wd, .int .i64 s.num, .slice a s.kids.length cap], .int .i64 0] (fun v w' => ∃ p, v = PT p ∧ TmAt w' p ((s.kids.map PL.tm).getD 0 hdA) ∧ Below X.heap.size X w') rfl (by kernel_rfl) rfl (x_call2 _ _ _ _ _ _ _ _ _ _ _ _ _ rfl rfl rfl (enters_of Tryz.func42 (by kernel_rfl) rfl) _) (HKC.out.mono fun e w' ⟨p, h1, h2, h3⟩ => ⟨_, h1, p, rfl, h2, h3⟩) (fun v w' ⟨p, _, _, h3⟩ => hS.trans (h3.mono (Nat.le_trans (Nat.le_of_lt HM.out.blk.lt) (by have := HD.out.blk.lt; have := hS.size; omega)))) ?_
  rintro v1 W1 ⟨p1, rfl, ht1, hb1⟩
  have hD1 := HD.out.call hb1
  have hS1 : Below b W W1 := hS.trans (hb1.mono (Nat.le_of_lt HD.out.blk.lt))
  simp only [Act.put, List.setIfInBounds_toArray, List.set_cons_succ, List.set_cons_zero]
  have HKC1 := hide (HKD.out 1 (by omega) W1 hD1.below)
  refine h_callE 4 42 #[.agg #[.int .i64 s.op, .int .i64 s.wd, .int .i64 s.num, .slice a s.kids.length cap], .int .i64 1] (fun v w' => ∃ p, v = PT p ∧ TmAt w' p ((s.kids.map PL.tm).getD 1 hdA) ∧ Below W1.heap.size W1 w') rfl (by kernel_rfl) rfl (x_call2 _ _ _ _ _ _ _ _ _ _ _ _ _ rfl rfl rfl (enters_of Tryz.func42 (by kernel_rfl) rfl) _) (HKC1.out.mono fun e w' ⟨p, h1, h2, h3⟩ => ⟨_, h1, p, rfl, h2, h3⟩) (fun v w' ⟨p, _, _, h3⟩ => hS1.trans (h3.mono (Nat.le_of_lt hD1.blk.lt))) ?_
  rintro v2 W2 ⟨p2, rfl, ht2, hb2⟩
  have hD2 := hD1.call hb2
  have hS2 : Below b W W2 := hS1.trans (hb2.mono (Nat.le_of_lt hD1.blk.lt))
  simp only [Act.put, List.setIfInBounds_toArray, List.set_cons_succ, List.set_cons_zero]
  have hbl := (Below.refl W2.heap.size W2).alloc (Nat.le_refl _) (.cells #[PT p1, PT p2] 26)
  have hS3 : Below b W (W2.alloc (.cells #[PT p1, PT p2] 26)) := hS2.trans (hbl.mono (Nat.le_of_lt hD2.blk.lt))
  refine h_alloc 5 (.slice (some ⟨W2.heap.size, 0, none⟩) 2 2) (W2.alloc (.cells #[PT p1, PT p2] 26)) rfl (by kernel_rfl) rfl (x_buildTm2 _ _ _ _ _ _ _ _ _ _ rfl rfl W2) hS3 ?_
  simp only [Act.put, List.setIfInBounds_toArray, List.set_cons_succ, List.set_cons_zero]
  refine h_take 6 (PT b) rfl (by kernel_rfl) (by kernel_rfl) (by kernel_rfl) rfl (fun w hw => x_nilCheck _ _ _ _ _ _ _ _ rfl w) hS3 ?_
  simp only [Act.put, List.setIfInBounds_toArray, List.set_cons_succ, List.set_cons_zero]
  refine h_take 7 (.pointer (some ⟨b, 6, none⟩)) rfl (by kernel_rfl) (by kernel_rfl) (by kernel_rfl) rfl (fun w hw => x_tmF6 _ _ _ _ _ _ _ _ rfl w) hS3 ?_
  simp only [Act.put, List.setIfInBounds_toArray, List.set_cons_succ, List.set_cons_zero]
  have HS := hide ((hD2.call hbl).kids (tmRow_two (Blk.newAt rfl _ _) ((ht1.keep hb2).keep hbl) (ht2.keep hbl)) (by intro x hx; rcases List.mem_cons.1 hx with rfl | hx; exact HWFK.out 0; rw [List.mem_singleton] at hx; subst hx; exact HWFK.out 1) (by decide))
  have HSB : Hid (Below w.heap.size w ((W2.alloc (.cells #[PT p1, PT p2] 26)).setCell ⟨b, 6, none⟩ (.slice (some ⟨W2.heap.size, 0, none⟩) 2 2))) := ((hD2.call hbl).below).setCell hD2.low _
  have hD3 := hD2.call hbl
  have k6 := hD3.blk.cell 6
  have f6 := hD3.blk.frozen 6
  simp only [tmC, List.getElem?_toArray, List.getElem?_cons_zero, List.getElem?_cons_succ] at k6
  refine h_step 8 ((W2.alloc (.cells #[PT p1, PT p2] 26)).setCell ⟨b, 6, none⟩ (.slice (some ⟨W2.heap.size, 0, none⟩) 2 2)) rfl (by kernel_rfl) rfl (x_storeTm _ _ _ _ _ _ _ _ _ _ _ _ _ _ rfl rfl _ k6 f6) (hS3.setCell (Nat.le_refl b) _) ?_
  simp only [Act.put, List.setIfInBounds_toArray, List.set_cons_succ, List.set_cons_zero]
  refine wpAnyH_done (by kernel_rfl) ?_ _
  refine NoPanic.normal ?_
  have hD4 := hD3.blk.set 6 (.slice (some ⟨W2.heap.size, 0, none⟩) 2 2)
  clear k6 f6
  have k0 := hD4.cell 0
  simp only [tmC, List.setIfInBounds_toArray, List.set_cons_succ, List.set_cons_zero, List.getElem?_toArray, List.getElem?_cons_zero, List.getElem?_cons_succ] at k0
  generalize ((W2.alloc (.cells #[PT p1, PT p2] 26)).setCell ⟨b, 6, none⟩ (.slice (some ⟨W2.heap.size, 0, none⟩) 2 2)) = W5 at *
  clear hD4 hD3 hD2 hD1 hS hS1 hS2 hS3 hb1 hb2 hbl ht1 ht2 HKC HKC1 HD hpl hpb hbw HM
  unfold PT
  go_wp2
  go_ret
  refine ⟨b, rfl, ?_, HSB.out⟩
  rw [HG.out]
  unfold tmOf
  rw [HK.out]
  exact HS.out

set_option maxHeartbeats 4000000 in
theorem make_8 (s : PL) (ih : ∀ k ∈ s.kids, MkP k) (hk : plO s.op = 8) : MkP s := by
  intro cs w h hT
  obtain ⟨v, rfl, hr, ho, hwd, hnm⟩ := h.open
  obtain ⟨hn, a, cap, rfl, -⟩ := hr.at
  have hb1 := (Below.refl w.heap.size w).alloc (Nat.le_refl _) (.cells #[.int .i64 s.op, .int .i64 s.wd, .int .i64 s.num, .slice a s.kids.length cap] 24)
  have hPk := Blk.newAt (w := w) rfl #[.int .i64 s.op, .int .i64 s.wd, .int .i64 s.num, .slice a s.kids.length cap] 24
  have HPO := hide (planOp_any s _ _ (h.keep hb1))
  rw [hk, show ((8 : Nat) : Int) = 8 from rfl] at HPO
  have HG : Hid (s.tm = tmOf s.op s.wd s.num (s.kids.map PL.tm)) := by show _ = _; cases s; exact PL.tm_mk _ _ _ _
  have HK := hide hk
  have HT := hide hT
  have HWD := hide hwd
  have HNM := hide hnm
  have HPK := hide hPk
  have HB1 := hide hb1
  have HKD : Hid (∀ (i : Nat), i < 2 → ∀ W, Below w.heap.size w W → Calls Tryz.prog 42 #[PlVal [.int .i64 s.op, .int .i64 s.wd, .int .i64 s.num, .slice a s.kids.length cap], .int .i64 i] W fun e w' => ∃ p, e = .returned (PT p) ∧ TmAt w' p ((s.kids.map PL.tm).getD i hdA) ∧ Below W.heap.size W w') :=
    fun i hi W hW => pkidT_any s ih i hi _ W (h.keep hW) (hT.onS hW)
  have HWFK : Hid (∀ i, WfT ((s.kids.map PL.tm).getD i hdA)) := fun i => getD_wf (fun x hx => by obtain ⟨y, -, rfl⟩ := List.mem_map.1 hx; exact y.tm_wf) i
  clear h hr hT ho hwd hnm hk hb1 hPk hn ih
  unfold PlVal at HPO HKD ⊢
  go_enter Tryz.func14, Tryz.ntmps14
  go_wp2_with fail
  refine HPO.out.mono ?_
  rintro e w2 ⟨rfl, hb2⟩
  have hbl := (Below.refl w2.heap.size w2).alloc (Nat.le_refl _) (.cells #[.int .i64 8, .int .i64 0, .string ⟨#[]⟩, .pointer none, .string ⟨#[]⟩, .string ⟨#[]⟩, .slice none 0 0] 38)
  have hLW := HB1.out.trans (hb2.mono HB1.out.size)
  have HM : Hid (MkW w w2.heap.size w.heap.size #[.int .i64 s.op, .int .i64 s.wd, .int .i64 s.num, .slice a s.kids.length cap] (tmC 8 0 ⟨#[]⟩ ⟨#[]⟩ ⟨#[]⟩ (.pointer none) (.slice none 0 0)) none (w2.alloc (.cells #[.int .i64 8, .int .i64 0, .string ⟨#[]⟩, .pointer none, .string ⟨#[]⟩, .string ⟨#[]⟩, .slice none 0 0] 38))) :=
    ⟨Blk.newAt rfl _ _, (HPK.out.below hb2 HPK.out.lt).alloc _, fun p r e => by (cases e), hLW.size, hLW.trans (hbl.mono hLW.size)⟩
  have q1 := (HPK.out.below hb2 HPK.out.lt).cell 1
  have q2 := (HPK.out.below hb2 HPK.out.lt).cell 2
  have q0 := (HPK.out.below hb2 HPK.out.lt).cell 0
  have q3 := (HPK.out.below hb2 HPK.out.lt).cell 3
  simp only [List.getElem?_toArray, List.getElem?_cons_zero, List.getElem?_cons_succ] at q0 q1 q2 q3
  have hlt : w.heap.size < w2.heap.size := (HPK.out.below hb2 HPK.out.lt).lt
  clear hb2 hLW hbl HPO
  go_wp2_with fail
  obtain ⟨W, hWd⟩ : ∃ W, W = w2.alloc (.cells #[.int .i64 8, .int .i64 0, .string ⟨#[]⟩, .pointer none, .string ⟨#[]⟩, .string ⟨#[]⟩, .slice none 0 0] 38) := ⟨_, rfl⟩
  try rw [← hWd]
  rw [← hWd] at HM
  clear hWd q0 q1 q2 q3 hlt
  generalize w2.heap.size = b at *
  try rw [show Value.pointer (some ⟨b, 0, none⟩) = PT b from rfl]
  have hbw := HM.out.below
  have hS : Below b W { W with drawn := W.drawn + 1 } := ⟨rfl, rfl, rfl, Nat.le_refl _, fun _ _ => rfl⟩
  have HD := hide (HM.out.call (drewBelow W))
  have hpb : w.heap.size < b := by
    have h1 := HM.out.ne
    have h2 := HM.out.low
    omega
  have hpl : ∀ X, Below b W X → Blk X w.heap.size #[.int .i64 s.op, .int .i64 s.wd, .int .i64 s.num, .slice a s.kids.length cap] 24 := fun X hX => HM.out.plan.below hX hpb
  refine wp_region_noPanic (wp_region_held (S := fun X => Below b W X) (by kernel_rfl) ?_)
  show wpAnyH _ _ _ _ _ 9 #[false, false, false, false, false, false, false, false, false] _ _
  generalize ({ W with drawn := W.drawn + 1 } : World) = X at hS HD ⊢
  refine h_take 0 (PT b) rfl (by kernel_rfl) (by kernel_rfl) (by kernel_rfl) rfl (fun w hw => x_move _ _ _ _ _ _ _ _ rfl w) hS ?_
  simp only [Act.put, List.setIfInBounds_toArray, List.set_cons_succ, List.set_cons_zero]
  refine h_take 1 (.agg #[.int .i64 s.op, .int .i64 s.wd, .int .i64 s.num, .slice a s.kids.length cap]) rfl (by kernel_rfl) (by kernel_rfl) (by kernel_rfl) rfl (fun w hw => x_loadPl _ _ _ _ _ _ _ _ _ _ _ _ _ _ rfl w (hpl w hw)) hS ?_
  simp only [Act.put, List.setIfInBounds_toArray, List.set_cons_succ, List.set_cons_zero]
  refine h_take 3 (.agg #[.int .i64 s.op, .int .i64 s.wd, .int .i64 s.num, .slice a s.kids.length cap]) rfl (by kernel_rfl) (by kernel_rfl) (by kernel_rfl) rfl (fun w hw => x_loadPl _ _ _ _ _ _ _ _ _ _ _ _ _ _ rfl w (hpl w hw)) hS ?_
  simp only [Act.put, List.setIfInBounds_toArray, List.set_cons_succ, List.set_cons_zero]
  have HKC := hide (HKD.out 0 (by omega) X HD.out.below)
  refine h_callE 2 42 #[.agg #[.int .i64 s.op, .int .i64 s.wd, .int .i64 s.num, .slice a s.kids.length cap], .int .i64 0] (fun v w' => ∃ p, v = PT p ∧ TmAt w' p ((s.kids.map PL.tm).getD 0 hdA) ∧ Below X.heap.size X w') rfl (by kernel_rfl) rfl (x_call2 _ _ _ _ _ _ _ _ _ _ _ _ _ rfl rfl rfl (enters_of Tryz.func42 (by kernel_rfl) rfl) _) (HKC.out.mono fun e w' ⟨p, h1, h2, h3⟩ => ⟨_, h1, p, rfl, h2, h3⟩) (fun v w' ⟨p, _, _, h3⟩ => hS.trans (h3.mono (Nat.le_trans (Nat.le_of_lt HM.out.blk.lt) (by have := HD.out.blk.lt; have := hS.size; omega)))) ?_
  rintro v1 W1 ⟨p1, rfl, ht1, hb1⟩
  have hD1 := HD.out.call hb1
  have hS1 : Below b W W1 := hS.trans (hb1.mono (Nat.le_of_lt HD.out.blk.lt))
  simp only [Act.put, List.setIfInBounds_toArray, List.set_cons_succ, List.set_cons_zero]
  have HKC1 := hide (HKD.out 1 (by omega) W1 hD1.below)
  refine h_callE 4 42 #[.agg #[.int .i64 s.op, .int .i64 s.wd, .int .i64 s.num, .slice a s.kids.length cap], .int .i64 1] (fun v w' => ∃ p, v = PT p ∧ TmAt w' p ((s.kids.map PL.tm).getD 1 hdA) ∧ Below W1.heap.size W1 w') rfl (by kernel_rfl) rfl (x_call2 _ _ _ _ _ _ _ _ _ _ _ _ _ rfl rfl rfl (enters_of Tryz.func42 (by kernel_rfl) rfl) _) (HKC1.out.mono fun e w' ⟨p, h1, h2, h3⟩ => ⟨_, h1, p, rfl, h2, h3⟩) (fun v w' ⟨p, _, _, h3⟩ => hS1.trans (h3.mono (Nat.le_of_lt hD1.blk.lt))) ?_
  rintro v2 W2 ⟨p2, rfl, ht2, hb2⟩
  have hD2 := hD1.call hb2
  have hS2 : Below b W W2 := hS1.trans (hb2.mono (Nat.le_of_lt hD1.blk.lt))
  simp only [Act.put, List.setIfInBounds_toArray, List.set_cons_succ, List.set_cons_zero]
  have hbl := (Below.refl W2.heap.size W2).alloc (Nat.le_refl _) (.cells #[PT p1, PT p2] 26)
  have hS3 : Below b W (W2.alloc (.cells #[PT p1, PT p2] 26)) := hS2.trans (hbl.mono (Nat.le_of_lt hD2.blk.lt))
  refine h_alloc 5 (.slice (some ⟨W2.heap.size, 0, none⟩) 2 2) (W2.alloc (.cells #[PT p1, PT p2] 26)) rfl (by kernel_rfl) rfl (x_buildTm2 _ _ _ _ _ _ _ _ _ _ rfl rfl W2) hS3 ?_
  simp only [Act.put, List.setIfInBounds_toArray, List.set_cons_succ, List.set_cons_zero]
  refine h_take 6 (PT b) rfl (by kernel_rfl) (by kernel_rfl) (by kernel_rfl) rfl (fun w hw => x_nilCheck _ _ _ _ _ _ _ _ rfl w) hS3 ?_
  simp only [Act.put, List.setIfInBounds_toArray, List.set_cons_succ, List.set_cons_zero]
  refine h_take 7 (.pointer (some ⟨b, 6, none⟩)) rfl (by kernel_rfl) (by kernel_rfl) (by kernel_rfl) rfl (fun w hw => x_tmF6 _ _ _ _ _ _ _ _ rfl w) hS3 ?_
  simp only [Act.put, List.setIfInBounds_toArray, List.set_cons_succ, List.set_cons_zero]
  have HS := hide ((hD2.call hbl).kids (tmRow_two (Blk.newAt rfl _ _) ((ht1.keep hb2).keep hbl) (ht2.keep hbl)) (by intro x hx; rcases List.mem_cons.1 hx with rfl | hx; exact HWFK.out 0; rw [List.mem_singleton] at hx; subst hx; exact HWFK.out 1) (by decide))
  have HSB : Hid (Below w.heap.size w ((W2.alloc (.cells #[PT p1, PT p2] 26)).setCell ⟨b, 6, none⟩ (.slice (some ⟨W2.heap.size, 0, none⟩) 2 2))) := ((hD2.call hbl).below).setCell hD2.low _
  have hD3 := hD2.call hbl
  have k6 := hD3.blk.cell 6
  have f6 := hD3.blk.frozen 6
  simp only [tmC, List.getElem?_toArray, List.getElem?_cons_zero, List.getElem?_cons_succ] at k6
  refine h_step 8 ((W2.alloc (.cells #[PT p1, PT p2] 26)).setCell ⟨b, 6, none⟩ (.slice (some ⟨W2.heap.size, 0, none⟩) 2 2)) rfl (by kernel_rfl) rfl (x_storeTm _ _ _ _ _ _ _ _ _ _ _ _ _ _ rfl rfl _ k6 f6) (hS3.setCell (Nat.le_refl b) _) ?_
  simp only [Act.put, List.setIfInBounds_toArray, List.set_cons_succ, List.set_cons_zero]
  refine wpAnyH_done (by kernel_rfl) ?_ _
  refine NoPanic.normal ?_
  have hD4 := hD3.blk.set 6 (.slice (some ⟨W2.heap.size, 0, none⟩) 2 2)
  clear k6 f6
  have k0 := hD4.cell 0
  simp only [tmC, List.setIfInBounds_toArray, List.set_cons_succ, List.set_cons_zero, List.getElem?_toArray, List.getElem?_cons_zero, List.getElem?_cons_succ] at k0
  generalize ((W2.alloc (.cells #[PT p1, PT p2] 26)).setCell ⟨b, 6, none⟩ (.slice (some ⟨W2.heap.size, 0, none⟩) 2 2)) = W5 at *
  clear hD4 hD3 hD2 hD1 hS hS1 hS2 hS3 hb1 hb2 hbl ht1 ht2 HKC HKC1 HD hpl hpb hbw HM
  unfold PT
  go_wp2
  go_ret
  refine ⟨b, rfl, ?_, HSB.out⟩
  rw [HG.out]
  unfold tmOf
  rw [HK.out]
  exact HS.out

set_option maxHeartbeats 4000000 in
theorem make_10 (s : PL) (ih : ∀ k ∈ s.kids, MkP k) (hk : plO s.op = 10) : MkP s := by
  intro cs w h hT
  obtain ⟨v, rfl, hr, ho, hwd, hnm⟩ := h.open
  obtain ⟨hn, a, cap, rfl, -⟩ := hr.at
  have hb1 := (Below.refl w.heap.size w).alloc (Nat.le_refl _) (.cells #[.int .i64 s.op, .int .i64 s.wd, .int .i64 s.num, .slice a s.kids.length cap] 24)
  have hPk := Blk.newAt (w := w) rfl #[.int .i64 s.op, .int .i64 s.wd, .int .i64 s.num, .slice a s.kids.length cap] 24
  have HPO := hide (planOp_any s _ _ (h.keep hb1))
  rw [hk, show ((10 : Nat) : Int) = 10 from rfl] at HPO
  have HG : Hid (s.tm = tmOf s.op s.wd s.num (s.kids.map PL.tm)) := by show _ = _; cases s; exact PL.tm_mk _ _ _ _
  have HK := hide hk
  have HT := hide hT
  have HWD := hide hwd
  have HNM := hide hnm
  have HPK := hide hPk
  have HB1 := hide hb1
  have HKD : Hid (∀ (i : Nat), i < 2 → ∀ W, Below w.heap.size w W → Calls Tryz.prog 42 #[PlVal [.int .i64 s.op, .int .i64 s.wd, .int .i64 s.num, .slice a s.kids.length cap], .int .i64 i] W fun e w' => ∃ p, e = .returned (PT p) ∧ TmAt w' p ((s.kids.map PL.tm).getD i hdA) ∧ Below W.heap.size W w') :=
    fun i hi W hW => pkidT_any s ih i hi _ W (h.keep hW) (hT.onS hW)
  have HWFK : Hid (∀ i, WfT ((s.kids.map PL.tm).getD i hdA)) := fun i => getD_wf (fun x hx => by obtain ⟨y, -, rfl⟩ := List.mem_map.1 hx; exact y.tm_wf) i
  clear h hr hT ho hwd hnm hk hb1 hPk hn ih
  unfold PlVal at HPO HKD ⊢
  go_enter Tryz.func14, Tryz.ntmps14
  go_wp2_with fail
  refine HPO.out.mono ?_
  rintro e w2 ⟨rfl, hb2⟩
  have hbl := (Below.refl w2.heap.size w2).alloc (Nat.le_refl _) (.cells #[.int .i64 10, .int .i64 0, .string ⟨#[]⟩, .pointer none, .string ⟨#[]⟩, .string ⟨#[]⟩, .slice none 0 0] 38)
  have hLW := HB1.out.trans (hb2.mono HB1.out.size)
  have HM : Hid (MkW w w2.heap.size w.heap.size #[.int .i64 s.op, .int .i64 s.wd, .int .i64 s.num, .slice a s.kids.length cap] (tmC 10 0 ⟨#[]⟩ ⟨#[]⟩ ⟨#[]⟩ (.pointer none) (.slice none 0 0)) none (w2.alloc (.cells #[.int .i64 10, .int .i64 0, .string ⟨#[]⟩, .pointer none, .string ⟨#[]⟩, .string ⟨#[]⟩, .slice none 0 0] 38))) :=
    ⟨Blk.newAt rfl _ _, (HPK.out.below hb2 HPK.out.lt).alloc _, fun p r e => by (cases e), hLW.size, hLW.trans (hbl.mono hLW.size)⟩
  have q1 := (HPK.out.below hb2 HPK.out.lt).cell 1
  have q2 := (HPK.out.below hb2 HPK.out.lt).cell 2
  have q0 := (HPK.out.below hb2 HPK.out.lt).cell 0
  have q3 := (HPK.out.below hb2 HPK.out.lt).cell 3
  simp only [List.getElem?_toArray, List.getElem?_cons_zero, List.getElem?_cons_succ] at q0 q1 q2 q3
  have hlt : w.heap.size < w2.heap.size := (HPK.out.below hb2 HPK.out.lt).lt
  clear hb2 hLW hbl HPO
  go_wp2_with fail
  obtain ⟨W, hWd⟩ : ∃ W, W = w2.alloc (.cells #[.int .i64 10, .int .i64 0, .string ⟨#[]⟩, .pointer none, .string ⟨#[]⟩, .string ⟨#[]⟩, .slice none 0 0] 38) := ⟨_, rfl⟩
  try rw [← hWd]
  rw [← hWd] at HM
  clear hWd q0 q1 q2 q3 hlt
  generalize w2.heap.size = b at *
  try rw [show Value.pointer (some ⟨b, 0, none⟩) = PT b from rfl]
  have hbw := HM.out.below
  have hS : Below b W { W with drawn := W.drawn + 1 } := ⟨rfl, rfl, rfl, Nat.le_refl _, fun _ _ => rfl⟩
  have HD := hide (HM.out.call (drewBelow W))
  have hpb : w.heap.size < b := by
    have h1 := HM.out.ne
    have h2 := HM.out.low
    omega
  have hpl : ∀ X, Below b W X → Blk X w.heap.size #[.int .i64 s.op, .int .i64 s.wd, .int .i64 s.num, .slice a s.kids.length cap] 24 := fun X hX => HM.out.plan.below hX hpb
  refine wp_region_noPanic (wp_region_held (S := fun X => Below b W X) (by kernel_rfl) ?_)
  show wpAnyH _ _ _ _ _ 9 #[false, false, false, false, false, false, false, false, false] _ _
  generalize ({ W with drawn := W.drawn + 1 } : World) = X at hS HD ⊢
  refine h_take 0 (PT b) rfl (by kernel_rfl) (by kernel_rfl) (by kernel_rfl) rfl (fun w hw => x_move _ _ _ _ _ _ _ _ rfl w) hS ?_
  simp only [Act.put, List.setIfInBounds_toArray, List.set_cons_succ, List.set_cons_zero]
  refine h_take 1 (.agg #[.int .i64 s.op, .int .i64 s.wd, .int .i64 s.num, .slice a s.kids.length cap]) rfl (by kernel_rfl) (by kernel_rfl) (by kernel_rfl) rfl (fun w hw => x_loadPl _ _ _ _ _ _ _ _ _ _ _ _ _ _ rfl w (hpl w hw)) hS ?_
  simp only [Act.put, List.setIfInBounds_toArray, List.set_cons_succ, List.set_cons_zero]
  refine h_take 3 (.agg #[.int .i64 s.op, .int .i64 s.wd, .int .i64 s.num, .slice a s.kids.length cap]) rfl (by kernel_rfl) (by kernel_rfl) (by kernel_rfl) rfl (fun w hw => x_loadPl _ _ _ _ _ _ _ _ _ _ _ _ _ _ rfl w (hpl w hw)) hS ?_
  simp only [Act.put, List.setIfInBounds_toArray, List.set_cons_succ, List.set_cons_zero]
  have HKC := hide (HKD.out 0 (by omega) X HD.out.below)
  refine h_callE 2 42 #[.agg #[.int .i64 s.op, .int .i64 s.wd, .int .i64 s.num, .slice a s.kids.length cap], .int .i64 0] (fun v w' => ∃ p, v = PT p ∧ TmAt w' p ((s.kids.map PL.tm).getD 0 hdA) ∧ Below X.heap.size X w') rfl (by kernel_rfl) rfl (x_call2 _ _ _ _ _ _ _ _ _ _ _ _ _ rfl rfl rfl (enters_of Tryz.func42 (by kernel_rfl) rfl) _) (HKC.out.mono fun e w' ⟨p, h1, h2, h3⟩ => ⟨_, h1, p, rfl, h2, h3⟩) (fun v w' ⟨p, _, _, h3⟩ => hS.trans (h3.mono (Nat.le_trans (Nat.le_of_lt HM.out.blk.lt) (by have := HD.out.blk.lt; have := hS.size; omega)))) ?_
  rintro v1 W1 ⟨p1, rfl, ht1, hb1⟩
  have hD1 := HD.out.call hb1
  have hS1 : Below b W W1 := hS.trans (hb1.mono (Nat.le_of_lt HD.out.blk.lt))
  simp only [Act.put, List.setIfInBounds_toArray, List.set_cons_succ, List.set_cons_zero]
  have HKC1 := hide (HKD.out 1 (by omega) W1 hD1.below)
  refine h_callE 4 42 #[.agg #[.int .i64 s.op, .int .i64 s.wd, .int .i64 s.num, .slice a s.kids.length cap], .int .i64 1] (fun v w' => ∃ p, v = PT p ∧ TmAt w' p ((s.kids.map PL.tm).getD 1 hdA) ∧ Below W1.heap.size W1 w') rfl (by kernel_rfl) rfl (x_call2 _ _ _ _ _ _ _ _ _ _ _ _ _ rfl rfl rfl (enters_of Tryz.func42 (by kernel_rfl) rfl) _) (HKC1.out.mono fun e w' ⟨p, h1, h2, h3⟩ => ⟨_, h1, p, rfl, h2, h3⟩) (fun v w' ⟨p, _, _, h3⟩ => hS1.trans (h3.mono (Nat.le_of_lt hD1.blk.lt))) ?_
  rintro v2 W2 ⟨p2, rfl, ht2, hb2⟩
  have hD2 := hD1.call hb2
  have hS2 : Below b W W2 := hS1.trans (hb2.mono (Nat.le_of_lt hD1.blk.lt))
  simp only [Act.put, List.setIfInBounds_toArray, List.set_cons_succ, List.set_cons_zero]
  have hbl := (Below.refl W2.heap.size W2).alloc (Nat.le_refl _) (.cells #[PT p1, PT p2] 26)
  have hS3 : Below b W (W2.alloc (.cells #[PT p1, PT p2] 26)) := hS2.trans (hbl.mono (Nat.le_of_lt hD2.blk.lt))
  refine h_alloc 5 (.slice (some ⟨W2.heap.size, 0, none⟩) 2 2) (W2.alloc (.cells #[PT p1, PT p2] 26)) rfl (by kernel_rfl) rfl (x_buildTm2 _ _ _ _ _ _ _ _ _ _ rfl rfl W2) hS3 ?_
  simp only [Act.put, List.setIfInBounds_toArray, List.set_cons_succ, List.set_cons_zero]
  refine h_take 6 (PT b) rfl (by kernel_rfl) (by kernel_rfl) (by kernel_rfl) rfl (fun w hw => x_nilCheck _ _ _ _ _ _ _ _ rfl w) hS3 ?_
  simp only [Act.put, List.setIfInBounds_toArray, List.set_cons_succ, List.set_cons_zero]
  refine h_take 7 (.pointer (some ⟨b, 6, none⟩)) rfl (by kernel_rfl) (by kernel_rfl) (by kernel_rfl) rfl (fun w hw => x_tmF6 _ _ _ _ _ _ _ _ rfl w) hS3 ?_
  simp only [Act.put, List.setIfInBounds_toArray, List.set_cons_succ, List.set_cons_zero]
  have HS := hide ((hD2.call hbl).kids (tmRow_two (Blk.newAt rfl _ _) ((ht1.keep hb2).keep hbl) (ht2.keep hbl)) (by intro x hx; rcases List.mem_cons.1 hx with rfl | hx; exact HWFK.out 0; rw [List.mem_singleton] at hx; subst hx; exact HWFK.out 1) (by decide))
  have HSB : Hid (Below w.heap.size w ((W2.alloc (.cells #[PT p1, PT p2] 26)).setCell ⟨b, 6, none⟩ (.slice (some ⟨W2.heap.size, 0, none⟩) 2 2))) := ((hD2.call hbl).below).setCell hD2.low _
  have hD3 := hD2.call hbl
  have k6 := hD3.blk.cell 6
  have f6 := hD3.blk.frozen 6
  simp only [tmC, List.getElem?_toArray, List.getElem?_cons_zero, List.getElem?_cons_succ] at k6
  refine h_step 8 ((W2.alloc (.cells #[PT p1, PT p2] 26)).setCell ⟨b, 6, none⟩ (.slice (some ⟨W2.heap.size, 0, none⟩) 2 2)) rfl (by kernel_rfl) rfl (x_storeTm _ _ _ _ _ _ _ _ _ _ _ _ _ _ rfl rfl _ k6 f6) (hS3.setCell (Nat.le_refl b) _) ?_
  simp only [Act.put, List.setIfInBounds_toArray, List.set_cons_succ, List.set_cons_zero]
  refine wpAnyH_done (by kernel_rfl) ?_ _
  refine NoPanic.normal ?_
  have hD4 := hD3.blk.set 6 (.slice (some ⟨W2.heap.size, 0, none⟩) 2 2)
  clear k6 f6
  have k0 := hD4.cell 0
  simp only [tmC, List.setIfInBounds_toArray, List.set_cons_succ, List.set_cons_zero, List.getElem?_toArray, List.getElem?_cons_zero, List.getElem?_cons_succ] at k0
  generalize ((W2.alloc (.cells #[PT p1, PT p2] 26)).setCell ⟨b, 6, none⟩ (.slice (some ⟨W2.heap.size, 0, none⟩) 2 2)) = W5 at *
  clear hD4 hD3 hD2 hD1 hS hS1 hS2 hS3 hb1 hb2 hbl ht1 ht2 HKC HKC1 HD hpl hpb hbw HM
  unfold PT
  go_wp2
  go_ret
  refine ⟨b, rfl, ?_, HSB.out⟩
  rw [HG.out]
  unfold tmOf
  rw [HK.out]
  exact HS.out
end Go.Proofs.YtblpekljiilkjaaGreatDoor
/- Make, op by op. -/
namespace Go.Proofs.YtblpekljiilkjaaGreatDoor
set_option maxRecDepth 100000
set_option linter.unusedSimpArgs false
set_option linter.unusedVariables false
open Go.RowKit Go.Shelf

set_option maxHeartbeats 4000000 in
theorem make_11 (s : PL) (ih : ∀ k ∈ s.kids, MkP k) (hk : plO s.op = 11) : MkP s := by
  intro cs w h hT
  obtain ⟨v, rfl, hr, ho, hwd, hnm⟩ := h.open
  obtain ⟨hn, a, cap, rfl, -⟩ := hr.at
  have hb1 := (Below.refl w.heap.size w).alloc (Nat.le_refl _) (.cells #[.int .i64 s.op, .int .i64 s.wd, .int .i64 s.num, .slice a s.kids.length cap] 24)
  have hPk := Blk.newAt (w := w) rfl #[.int .i64 s.op, .int .i64 s.wd, .int .i64 s.num, .slice a s.kids.length cap] 24
  have HPO := hide (planOp_any s _ _ (h.keep hb1))
  rw [hk, show ((11 : Nat) : Int) = 11 from rfl] at HPO
  have HG : Hid (s.tm = tmOf s.op s.wd s.num (s.kids.map PL.tm)) := by show _ = _; cases s; exact PL.tm_mk _ _ _ _
  have HK := hide hk
  have HT := hide hT
  have HWD := hide hwd
  have HNM := hide hnm
  have HPK := hide hPk
  have HB1 := hide hb1
  have HKD : Hid (∀ (i : Nat), i < 2 → ∀ W, Below w.heap.size w W → Calls Tryz.prog 42 #[PlVal [.int .i64 s.op, .int .i64 s.wd, .int .i64 s.num, .slice a s.kids.length cap], .int .i64 i] W fun e w' => ∃ p, e = .returned (PT p) ∧ TmAt w' p ((s.kids.map PL.tm).getD i hdA) ∧ Below W.heap.size W w') :=
    fun i hi W hW => pkidT_any s ih i hi _ W (h.keep hW) (hT.onS hW)
  have HWFK : Hid (∀ i, WfT ((s.kids.map PL.tm).getD i hdA)) := fun i => getD_wf (fun x hx => by obtain ⟨y, -, rfl⟩ := List.mem_map.1 hx; exact y.tm_wf) i
  clear h hr hT ho hwd hnm hk hb1 hPk hn ih
  unfold PlVal at HPO HKD ⊢
  go_enter Tryz.func14, Tryz.ntmps14
  go_wp2_with fail
  refine HPO.out.mono ?_
  rintro e w2 ⟨rfl, hb2⟩
  have hbl := (Below.refl w2.heap.size w2).alloc (Nat.le_refl _) (.cells #[.int .i64 11, .int .i64 0, .string ⟨#[]⟩, .pointer none, .string ⟨#[]⟩, .string ⟨#[]⟩, .slice none 0 0] 38)
  have hLW := HB1.out.trans (hb2.mono HB1.out.size)
  have HM : Hid (MkW w w2.heap.size w.heap.size #[.int .i64 s.op, .int .i64 s.wd, .int .i64 s.num, .slice a s.kids.length cap] (tmC 11 0 ⟨#[]⟩ ⟨#[]⟩ ⟨#[]⟩ (.pointer none) (.slice none 0 0)) none (w2.alloc (.cells #[.int .i64 11, .int .i64 0, .string ⟨#[]⟩, .pointer none, .string ⟨#[]⟩, .string ⟨#[]⟩, .slice none 0 0] 38))) :=
    ⟨Blk.newAt rfl _ _, (HPK.out.below hb2 HPK.out.lt).alloc _, fun p r e => by (cases e), hLW.size, hLW.trans (hbl.mono hLW.size)⟩
  have q1 := (HPK.out.below hb2 HPK.out.lt).cell 1
  have q2 := (HPK.out.below hb2 HPK.out.lt).cell 2
  have q0 := (HPK.out.below hb2 HPK.out.lt).cell 0
  have q3 := (HPK.out.below hb2 HPK.out.lt).cell 3
  simp only [List.getElem?_toArray, List.getElem?_cons_zero, List.getElem?_cons_succ] at q0 q1 q2 q3
  have hlt : w.heap.size < w2.heap.size := (HPK.out.below hb2 HPK.out.lt).lt
  clear hb2 hLW hbl HPO
  go_wp2_with fail
  obtain ⟨W, hWd⟩ : ∃ W, W = w2.alloc (.cells #[.int .i64 11, .int .i64 0, .string ⟨#[]⟩, .pointer none, .string ⟨#[]⟩, .string ⟨#[]⟩, .slice none 0 0] 38) := ⟨_, rfl⟩
  try rw [← hWd]
  rw [← hWd] at HM
  clear hWd q0 q1 q2 q3 hlt
  generalize w2.heap.size = b at *
  try rw [show Value.pointer (some ⟨b, 0, none⟩) = PT b from rfl]
  have hbw := HM.out.below
  have hS : Below b W { W with drawn := W.drawn + 1 } := ⟨rfl, rfl, rfl, Nat.le_refl _, fun _ _ => rfl⟩
  have HD := hide (HM.out.call (drewBelow W))
  have hpb : w.heap.size < b := by
    have h1 := HM.out.ne
    have h2 := HM.out.low
    omega
  have hpl : ∀ X, Below b W X → Blk X w.heap.size #[.int .i64 s.op, .int .i64 s.wd, .int .i64 s.num, .slice a s.kids.length cap] 24 := fun X hX => HM.out.plan.below hX hpb
  refine wp_region_noPanic (wp_region_held (S := fun X => Below b W X) (by kernel_rfl) ?_)
  show wpAnyH _ _ _ _ _ 9 #[false, false, false, false, false, false, false, false, false] _ _
  generalize ({ W with drawn := W.drawn + 1 } : World) = X at hS HD ⊢
  refine h_take 0 (PT b) rfl (by kernel_rfl) (by kernel_rfl) (by kernel_rfl) rfl (fun w hw => x_move _ _ _ _ _ _ _ _ rfl w) hS ?_
  simp only [Act.put, List.setIfInBounds_toArray, List.set_cons_succ, List.set_cons_zero]
  refine h_take 1 (.agg #[.int .i64 s.op, .int .i64 s.wd, .int .i64 s.num, .slice a s.kids.length cap]) rfl (by kernel_rfl) (by kernel_rfl) (by kernel_rfl) rfl (fun w hw => x_loadPl _ _ _ _ _ _ _ _ _ _ _ _ _ _ rfl w (hpl w hw)) hS ?_
  simp only [Act.put, List.setIfInBounds_toArray, List.set_cons_succ, List.set_cons_zero]
  refine h_take 3 (.agg #[.int .i64 s.op, .int .i64 s.wd, .int .i64 s.num, .slice a s.kids.length cap]) rfl (by kernel_rfl) (by kernel_rfl) (by kernel_rfl) rfl (fun w hw => x_loadPl _ _ _ _ _ _ _ _ _ _ _ _ _ _ rfl w (hpl w hw)) hS ?_
  simp only [Act.put, List.setIfInBounds_toArray, List.set_cons_succ, List.set_cons_zero]
  have HKC := hide (HKD.out 0 (by omega) X HD.out.below)
  refine h_callE 2 42 #[.agg #[.int .i64 s.op, .int .i64 s.wd, .int .i64 s.num, .slice a s.kids.length cap], .int .i64 0] (fun v w' => ∃ p, v = PT p ∧ TmAt w' p ((s.kids.map PL.tm).getD 0 hdA) ∧ Below X.heap.size X w') rfl (by kernel_rfl) rfl (x_call2 _ _ _ _ _ _ _ _ _ _ _ _ _ rfl rfl rfl (enters_of Tryz.func42 (by kernel_rfl) rfl) _) (HKC.out.mono fun e w' ⟨p, h1, h2, h3⟩ => ⟨_, h1, p, rfl, h2, h3⟩) (fun v w' ⟨p, _, _, h3⟩ => hS.trans (h3.mono (Nat.le_trans (Nat.le_of_lt HM.out.blk.lt) (by have := HD.out.blk.lt; have := hS.size; omega)))) ?_
  rintro v1 W1 ⟨p1, rfl, ht1, hb1⟩
  have hD1 := HD.out.call hb1
  have hS1 : Below b W W1 := hS.trans (hb1.mono (Nat.le_of_lt HD.out.blk.lt))
  simp only [Act.put, List.setIfInBounds_toArray, List.set_cons_succ, List.set_cons_zero]
  have HKC1 := hide (HKD.out 1 (by omega) W1 hD1.below)
  refine h_callE 4 42 #[.agg #[.int .i64 s.op, .int .i64 s.wd, .int .i64 s.num, .slice a s.kids.length cap], .int .i64 1] (fun v w' => ∃ p, v = PT p ∧ TmAt w' p ((s.kids.map PL.tm).getD 1 hdA) ∧ Below W1.heap.size W1 w') rfl (by kernel_rfl) rfl (x_call2 _ _ _ _ _ _ _ _ _ _ _ _ _ rfl rfl rfl (enters_of Tryz.func42 (by kernel_rfl) rfl) _) (HKC1.out.mono fun e w' ⟨p, h1, h2, h3⟩ => ⟨_, h1, p, rfl, h2, h3⟩) (fun v w' ⟨p, _, _, h3⟩ => hS1.trans (h3.mono (Nat.le_of_lt hD1.blk.lt))) ?_
  rintro v2 W2 ⟨p2, rfl, ht2, hb2⟩
  have hD2 := hD1.call hb2
  have hS2 : Below b W W2 := hS1.trans (hb2.mono (Nat.le_of_lt hD1.blk.lt))
  simp only [Act.put, List.setIfInBounds_toArray, List.set_cons_succ, List.set_cons_zero]
  have hbl := (Below.refl W2.heap.size W2).alloc (Nat.le_refl _) (.cells #[PT p1, PT p2] 26)
  have hS3 : Below b W (W2.alloc (.cells #[PT p1, PT p2] 26)) := hS2.trans (hbl.mono (Nat.le_of_lt hD2.blk.lt))
  refine h_alloc 5 (.slice (some ⟨W2.heap.size, 0, none⟩) 2 2) (W2.alloc (.cells #[PT p1, PT p2] 26)) rfl (by kernel_rfl) rfl (x_buildTm2 _ _ _ _ _ _ _ _ _ _ rfl rfl W2) hS3 ?_
  simp only [Act.put, List.setIfInBounds_toArray, List.set_cons_succ, List.set_cons_zero]
  refine h_take 6 (PT b) rfl (by kernel_rfl) (by kernel_rfl) (by kernel_rfl) rfl (fun w hw => x_nilCheck _ _ _ _ _ _ _ _ rfl w) hS3 ?_
  simp only [Act.put, List.setIfInBounds_toArray, List.set_cons_succ, List.set_cons_zero]
  refine h_take 7 (.pointer (some ⟨b, 6, none⟩)) rfl (by kernel_rfl) (by kernel_rfl) (by kernel_rfl) rfl (fun w hw => x_tmF6 _ _ _ _ _ _ _ _ rfl w) hS3 ?_
  simp only [Act.put, List.setIfInBounds_toArray, List.set_cons_succ, List.set_cons_zero]
  have HS := hide ((hD2.call hbl).kids (tmRow_two (Blk.newAt rfl _ _) ((ht1.keep hb2).keep hbl) (ht2.keep hbl)) (by intro x hx; rcases List.mem_cons.1 hx with rfl | hx; exact HWFK.out 0; rw [List.mem_singleton] at hx; subst hx; exact HWFK.out 1) (by decide))
  have HSB : Hid (Below w.heap.size w ((W2.alloc (.cells #[PT p1, PT p2] 26)).setCell ⟨b, 6, none⟩ (.slice (some ⟨W2.heap.size, 0, none⟩) 2 2))) := ((hD2.call hbl).below).setCell hD2.low _
  have hD3 := hD2.call hbl
  have k6 := hD3.blk.cell 6
  have f6 := hD3.blk.frozen 6
  simp only [tmC, List.getElem?_toArray, List.getElem?_cons_zero, List.getElem?_cons_succ] at k6
  refine h_step 8 ((W2.alloc (.cells #[PT p1, PT p2] 26)).setCell ⟨b, 6, none⟩ (.slice (some ⟨W2.heap.size, 0, none⟩) 2 2)) rfl (by kernel_rfl) rfl (x_storeTm _ _ _ _ _ _ _ _ _ _ _ _ _ _ rfl rfl _ k6 f6) (hS3.setCell (Nat.le_refl b) _) ?_
  simp only [Act.put, List.setIfInBounds_toArray, List.set_cons_succ, List.set_cons_zero]
  refine wpAnyH_done (by kernel_rfl) ?_ _
  refine NoPanic.normal ?_
  have hD4 := hD3.blk.set 6 (.slice (some ⟨W2.heap.size, 0, none⟩) 2 2)
  clear k6 f6
  have k0 := hD4.cell 0
  simp only [tmC, List.setIfInBounds_toArray, List.set_cons_succ, List.set_cons_zero, List.getElem?_toArray, List.getElem?_cons_zero, List.getElem?_cons_succ] at k0
  generalize ((W2.alloc (.cells #[PT p1, PT p2] 26)).setCell ⟨b, 6, none⟩ (.slice (some ⟨W2.heap.size, 0, none⟩) 2 2)) = W5 at *
  clear hD4 hD3 hD2 hD1 hS hS1 hS2 hS3 hb1 hb2 hbl ht1 ht2 HKC HKC1 HD hpl hpb hbw HM
  unfold PT
  go_wp2
  go_ret
  refine ⟨b, rfl, ?_, HSB.out⟩
  rw [HG.out]
  unfold tmOf
  rw [HK.out]
  exact HS.out

set_option maxHeartbeats 4000000 in
theorem make_14 (s : PL) (ih : ∀ k ∈ s.kids, MkP k) (hk : plO s.op = 14) : MkP s := by
  intro cs w h hT
  obtain ⟨v, rfl, hr, ho, hwd, hnm⟩ := h.open
  obtain ⟨hn, a, cap, rfl, -⟩ := hr.at
  have hb1 := (Below.refl w.heap.size w).alloc (Nat.le_refl _) (.cells #[.int .i64 s.op, .int .i64 s.wd, .int .i64 s.num, .slice a s.kids.length cap] 24)
  have hPk := Blk.newAt (w := w) rfl #[.int .i64 s.op, .int .i64 s.wd, .int .i64 s.num, .slice a s.kids.length cap] 24
  have HPO := hide (planOp_any s _ _ (h.keep hb1))
  rw [hk, show ((14 : Nat) : Int) = 14 from rfl] at HPO
  have HG : Hid (s.tm = tmOf s.op s.wd s.num (s.kids.map PL.tm)) := by show _ = _; cases s; exact PL.tm_mk _ _ _ _
  have HK := hide hk
  have HT := hide hT
  have HWD := hide hwd
  have HNM := hide hnm
  have HPK := hide hPk
  have HB1 := hide hb1
  have HKD : Hid (∀ (i : Nat), i < 2 → ∀ W, Below w.heap.size w W → Calls Tryz.prog 42 #[PlVal [.int .i64 s.op, .int .i64 s.wd, .int .i64 s.num, .slice a s.kids.length cap], .int .i64 i] W fun e w' => ∃ p, e = .returned (PT p) ∧ TmAt w' p ((s.kids.map PL.tm).getD i hdA) ∧ Below W.heap.size W w') :=
    fun i hi W hW => pkidT_any s ih i hi _ W (h.keep hW) (hT.onS hW)
  have HWFK : Hid (∀ i, WfT ((s.kids.map PL.tm).getD i hdA)) := fun i => getD_wf (fun x hx => by obtain ⟨y, -, rfl⟩ := List.mem_map.1 hx; exact y.tm_wf) i
  clear h hr hT ho hwd hnm hk hb1 hPk hn ih
  unfold PlVal at HPO HKD ⊢
  go_enter Tryz.func14, Tryz.ntmps14
  go_wp2_with fail
  refine HPO.out.mono ?_
  rintro e w2 ⟨rfl, hb2⟩
  have hbl := (Below.refl w2.heap.size w2).alloc (Nat.le_refl _) (.cells #[.int .i64 14, .int .i64 0, .string ⟨#[]⟩, .pointer none, .string ⟨#[]⟩, .string ⟨#[]⟩, .slice none 0 0] 38)
  have hLW := HB1.out.trans (hb2.mono HB1.out.size)
  have HM : Hid (MkW w w2.heap.size w.heap.size #[.int .i64 s.op, .int .i64 s.wd, .int .i64 s.num, .slice a s.kids.length cap] (tmC 14 0 ⟨#[]⟩ ⟨#[]⟩ ⟨#[]⟩ (.pointer none) (.slice none 0 0)) none (w2.alloc (.cells #[.int .i64 14, .int .i64 0, .string ⟨#[]⟩, .pointer none, .string ⟨#[]⟩, .string ⟨#[]⟩, .slice none 0 0] 38))) :=
    ⟨Blk.newAt rfl _ _, (HPK.out.below hb2 HPK.out.lt).alloc _, fun p r e => by (cases e), hLW.size, hLW.trans (hbl.mono hLW.size)⟩
  have q1 := (HPK.out.below hb2 HPK.out.lt).cell 1
  have q2 := (HPK.out.below hb2 HPK.out.lt).cell 2
  have q0 := (HPK.out.below hb2 HPK.out.lt).cell 0
  have q3 := (HPK.out.below hb2 HPK.out.lt).cell 3
  simp only [List.getElem?_toArray, List.getElem?_cons_zero, List.getElem?_cons_succ] at q0 q1 q2 q3
  have hlt : w.heap.size < w2.heap.size := (HPK.out.below hb2 HPK.out.lt).lt
  clear hb2 hLW hbl HPO
  go_wp2_with fail
  obtain ⟨W, hWd⟩ : ∃ W, W = w2.alloc (.cells #[.int .i64 14, .int .i64 0, .string ⟨#[]⟩, .pointer none, .string ⟨#[]⟩, .string ⟨#[]⟩, .slice none 0 0] 38) := ⟨_, rfl⟩
  try rw [← hWd]
  rw [← hWd] at HM
  clear hWd q0 q1 q2 q3 hlt
  generalize w2.heap.size = b at *
  try rw [show Value.pointer (some ⟨b, 0, none⟩) = PT b from rfl]
  have hbw := HM.out.below
  have hS : Below b W { W with drawn := W.drawn + 1 } := ⟨rfl, rfl, rfl, Nat.le_refl _, fun _ _ => rfl⟩
  have HD := hide (HM.out.call (drewBelow W))
  have hpb : w.heap.size < b := by
    have h1 := HM.out.ne
    have h2 := HM.out.low
    omega
  have hpl : ∀ X, Below b W X → Blk X w.heap.size #[.int .i64 s.op, .int .i64 s.wd, .int .i64 s.num, .slice a s.kids.length cap] 24 := fun X hX => HM.out.plan.below hX hpb
  refine wp_region_noPanic (wp_region_held (S := fun X => Below b W X) (by kernel_rfl) ?_)
  show wpAnyH _ _ _ _ _ 9 #[false, false, false, false, false, false, false, false, false] _ _
  generalize ({ W with drawn := W.drawn + 1 } : World) = X at hS HD ⊢
  refine h_take 0 (PT b) rfl (by kernel_rfl) (by kernel_rfl) (by kernel_rfl) rfl (fun w hw => x_move _ _ _ _ _ _ _ _ rfl w) hS ?_
  simp only [Act.put, List.setIfInBounds_toArray, List.set_cons_succ, List.set_cons_zero]
  refine h_take 1 (.agg #[.int .i64 s.op, .int .i64 s.wd, .int .i64 s.num, .slice a s.kids.length cap]) rfl (by kernel_rfl) (by kernel_rfl) (by kernel_rfl) rfl (fun w hw => x_loadPl _ _ _ _ _ _ _ _ _ _ _ _ _ _ rfl w (hpl w hw)) hS ?_
  simp only [Act.put, List.setIfInBounds_toArray, List.set_cons_succ, List.set_cons_zero]
  refine h_take 3 (.agg #[.int .i64 s.op, .int .i64 s.wd, .int .i64 s.num, .slice a s.kids.length cap]) rfl (by kernel_rfl) (by kernel_rfl) (by kernel_rfl) rfl (fun w hw => x_loadPl _ _ _ _ _ _ _ _ _ _ _ _ _ _ rfl w (hpl w hw)) hS ?_
  simp only [Act.put, List.setIfInBounds_toArray, List.set_cons_succ, List.set_cons_zero]
  have HKC := hide (HKD.out 0 (by omega) X HD.out.below)
  refine h_callE 2 42 #[.agg #[.int .i64 s.op, .int .i64 s.wd, .int .i64 s.num, .slice a s.kids.length cap], .int .i64 0] (fun v w' => ∃ p, v = PT p ∧ TmAt w' p ((s.kids.map PL.tm).getD 0 hdA) ∧ Below X.heap.size X w') rfl (by kernel_rfl) rfl (x_call2 _ _ _ _ _ _ _ _ _ _ _ _ _ rfl rfl rfl (enters_of Tryz.func42 (by kernel_rfl) rfl) _) (HKC.out.mono fun e w' ⟨p, h1, h2, h3⟩ => ⟨_, h1, p, rfl, h2, h3⟩) (fun v w' ⟨p, _, _, h3⟩ => hS.trans (h3.mono (Nat.le_trans (Nat.le_of_lt HM.out.blk.lt) (by have := HD.out.blk.lt; have := hS.size; omega)))) ?_
  rintro v1 W1 ⟨p1, rfl, ht1, hb1⟩
  have hD1 := HD.out.call hb1
  have hS1 : Below b W W1 := hS.trans (hb1.mono (Nat.le_of_lt HD.out.blk.lt))
  simp only [Act.put, List.setIfInBounds_toArray, List.set_cons_succ, List.set_cons_zero]
  have HKC1 := hide (HKD.out 1 (by omega) W1 hD1.below)
  refine h_callE 4 42 #[.agg #[.int .i64 s.op, .int .i64 s.wd, .int .i64 s.num, .slice a s.kids.length cap], .int .i64 1] (fun v w' => ∃ p, v = PT p ∧ TmAt w' p ((s.kids.map PL.tm).getD 1 hdA) ∧ Below W1.heap.size W1 w') rfl (by kernel_rfl) rfl (x_call2 _ _ _ _ _ _ _ _ _ _ _ _ _ rfl rfl rfl (enters_of Tryz.func42 (by kernel_rfl) rfl) _) (HKC1.out.mono fun e w' ⟨p, h1, h2, h3⟩ => ⟨_, h1, p, rfl, h2, h3⟩) (fun v w' ⟨p, _, _, h3⟩ => hS1.trans (h3.mono (Nat.le_of_lt hD1.blk.lt))) ?_
  rintro v2 W2 ⟨p2, rfl, ht2, hb2⟩
  have hD2 := hD1.call hb2
  have hS2 : Below b W W2 := hS1.trans (hb2.mono (Nat.le_of_lt hD1.blk.lt))
  simp only [Act.put, List.setIfInBounds_toArray, List.set_cons_succ, List.set_cons_zero]
  have hbl := (Below.refl W2.heap.size W2).alloc (Nat.le_refl _) (.cells #[PT p1, PT p2] 26)
  have hS3 : Below b W (W2.alloc (.cells #[PT p1, PT p2] 26)) := hS2.trans (hbl.mono (Nat.le_of_lt hD2.blk.lt))
  refine h_alloc 5 (.slice (some ⟨W2.heap.size, 0, none⟩) 2 2) (W2.alloc (.cells #[PT p1, PT p2] 26)) rfl (by kernel_rfl) rfl (x_buildTm2 _ _ _ _ _ _ _ _ _ _ rfl rfl W2) hS3 ?_
  simp only [Act.put, List.setIfInBounds_toArray, List.set_cons_succ, List.set_cons_zero]
  refine h_take 6 (PT b) rfl (by kernel_rfl) (by kernel_rfl) (by kernel_rfl) rfl (fun w hw => x_nilCheck _ _ _ _ _ _ _ _ rfl w) hS3 ?_
  simp only [Act.put, List.setIfInBounds_toArray, List.set_cons_succ, List.set_cons_zero]
  refine h_take 7 (.pointer (some ⟨b, 6, none⟩)) rfl (by kernel_rfl) (by kernel_rfl) (by kernel_rfl) rfl (fun w hw => x_tmF6 _ _ _ _ _ _ _ _ rfl w) hS3 ?_
  simp only [Act.put, List.setIfInBounds_toArray, List.set_cons_succ, List.set_cons_zero]
  have HS := hide ((hD2.call hbl).kids (tmRow_two (Blk.newAt rfl _ _) ((ht1.keep hb2).keep hbl) (ht2.keep hbl)) (by intro x hx; rcases List.mem_cons.1 hx with rfl | hx; exact HWFK.out 0; rw [List.mem_singleton] at hx; subst hx; exact HWFK.out 1) (by decide))
  have HSB : Hid (Below w.heap.size w ((W2.alloc (.cells #[PT p1, PT p2] 26)).setCell ⟨b, 6, none⟩ (.slice (some ⟨W2.heap.size, 0, none⟩) 2 2))) := ((hD2.call hbl).below).setCell hD2.low _
  have hD3 := hD2.call hbl
  have k6 := hD3.blk.cell 6
  have f6 := hD3.blk.frozen 6
  simp only [tmC, List.getElem?_toArray, List.getElem?_cons_zero, List.getElem?_cons_succ] at k6
  refine h_step 8 ((W2.alloc (.cells #[PT p1, PT p2] 26)).setCell ⟨b, 6, none⟩ (.slice (some ⟨W2.heap.size, 0, none⟩) 2 2)) rfl (by kernel_rfl) rfl (x_storeTm _ _ _ _ _ _ _ _ _ _ _ _ _ _ rfl rfl _ k6 f6) (hS3.setCell (Nat.le_refl b) _) ?_
  simp only [Act.put, List.setIfInBounds_toArray, List.set_cons_succ, List.set_cons_zero]
  refine wpAnyH_done (by kernel_rfl) ?_ _
  refine NoPanic.normal ?_
  have hD4 := hD3.blk.set 6 (.slice (some ⟨W2.heap.size, 0, none⟩) 2 2)
  clear k6 f6
  have k0 := hD4.cell 0
  simp only [tmC, List.setIfInBounds_toArray, List.set_cons_succ, List.set_cons_zero, List.getElem?_toArray, List.getElem?_cons_zero, List.getElem?_cons_succ] at k0
  generalize ((W2.alloc (.cells #[PT p1, PT p2] 26)).setCell ⟨b, 6, none⟩ (.slice (some ⟨W2.heap.size, 0, none⟩) 2 2)) = W5 at *
  clear hD4 hD3 hD2 hD1 hS hS1 hS2 hS3 hb1 hb2 hbl ht1 ht2 HKC HKC1 HD hpl hpb hbw HM
  unfold PT
  go_wp2
  go_ret
  refine ⟨b, rfl, ?_, HSB.out⟩
  rw [HG.out]
  unfold tmOf
  rw [HK.out]
  exact HS.out

set_option maxHeartbeats 4000000 in
theorem make_15 (s : PL) (ih : ∀ k ∈ s.kids, MkP k) (hk : plO s.op = 15) : MkP s := by
  intro cs w h hT
  obtain ⟨v, rfl, hr, ho, hwd, hnm⟩ := h.open
  obtain ⟨hn, a, cap, rfl, -⟩ := hr.at
  have hb1 := (Below.refl w.heap.size w).alloc (Nat.le_refl _) (.cells #[.int .i64 s.op, .int .i64 s.wd, .int .i64 s.num, .slice a s.kids.length cap] 24)
  have hPk := Blk.newAt (w := w) rfl #[.int .i64 s.op, .int .i64 s.wd, .int .i64 s.num, .slice a s.kids.length cap] 24
  have HPO := hide (planOp_any s _ _ (h.keep hb1))
  rw [hk, show ((15 : Nat) : Int) = 15 from rfl] at HPO
  have HG : Hid (s.tm = tmOf s.op s.wd s.num (s.kids.map PL.tm)) := by show _ = _; cases s; exact PL.tm_mk _ _ _ _
  have HK := hide hk
  have HT := hide hT
  have HWD := hide hwd
  have HNM := hide hnm
  have HPK := hide hPk
  have HB1 := hide hb1
  have HKD : Hid (∀ (i : Nat), i < 2 → ∀ W, Below w.heap.size w W → Calls Tryz.prog 42 #[PlVal [.int .i64 s.op, .int .i64 s.wd, .int .i64 s.num, .slice a s.kids.length cap], .int .i64 i] W fun e w' => ∃ p, e = .returned (PT p) ∧ TmAt w' p ((s.kids.map PL.tm).getD i hdA) ∧ Below W.heap.size W w') :=
    fun i hi W hW => pkidT_any s ih i hi _ W (h.keep hW) (hT.onS hW)
  have HWFK : Hid (∀ i, WfT ((s.kids.map PL.tm).getD i hdA)) := fun i => getD_wf (fun x hx => by obtain ⟨y, -, rfl⟩ := List.mem_map.1 hx; exact y.tm_wf) i
  clear h hr hT ho hwd hnm hk hb1 hPk hn ih
  unfold PlVal at HPO HKD ⊢
  go_enter Tryz.func14, Tryz.ntmps14
  go_wp2_with fail
  refine HPO.out.mono ?_
  rintro e w2 ⟨rfl, hb2⟩
  have hbl := (Below.refl w2.heap.size w2).alloc (Nat.le_refl _) (.cells #[.int .i64 15, .int .i64 0, .string ⟨#[]⟩, .pointer none, .string ⟨#[]⟩, .string ⟨#[]⟩, .slice none 0 0] 38)
  have hLW := HB1.out.trans (hb2.mono HB1.out.size)
  have HM : Hid (MkW w w2.heap.size w.heap.size #[.int .i64 s.op, .int .i64 s.wd, .int .i64 s.num, .slice a s.kids.length cap] (tmC 15 0 ⟨#[]⟩ ⟨#[]⟩ ⟨#[]⟩ (.pointer none) (.slice none 0 0)) none (w2.alloc (.cells #[.int .i64 15, .int .i64 0, .string ⟨#[]⟩, .pointer none, .string ⟨#[]⟩, .string ⟨#[]⟩, .slice none 0 0] 38))) :=
    ⟨Blk.newAt rfl _ _, (HPK.out.below hb2 HPK.out.lt).alloc _, fun p r e => by (cases e), hLW.size, hLW.trans (hbl.mono hLW.size)⟩
  have q1 := (HPK.out.below hb2 HPK.out.lt).cell 1
  have q2 := (HPK.out.below hb2 HPK.out.lt).cell 2
  have q0 := (HPK.out.below hb2 HPK.out.lt).cell 0
  have q3 := (HPK.out.below hb2 HPK.out.lt).cell 3
  simp only [List.getElem?_toArray, List.getElem?_cons_zero, List.getElem?_cons_succ] at q0 q1 q2 q3
  have hlt : w.heap.size < w2.heap.size := (HPK.out.below hb2 HPK.out.lt).lt
  clear hb2 hLW hbl HPO
  go_wp2_with fail
  obtain ⟨W, hWd⟩ : ∃ W, W = w2.alloc (.cells #[.int .i64 15, .int .i64 0, .string ⟨#[]⟩, .pointer none, .string ⟨#[]⟩, .string ⟨#[]⟩, .slice none 0 0] 38) := ⟨_, rfl⟩
  try rw [← hWd]
  rw [← hWd] at HM
  clear hWd q0 q1 q2 q3 hlt
  generalize w2.heap.size = b at *
  try rw [show Value.pointer (some ⟨b, 0, none⟩) = PT b from rfl]
  have hbw := HM.out.below
  have hS : Below b W { W with drawn := W.drawn + 1 } := ⟨rfl, rfl, rfl, Nat.le_refl _, fun _ _ => rfl⟩
  have HD := hide (HM.out.call (drewBelow W))
  have hpb : w.heap.size < b := by
    have h1 := HM.out.ne
    have h2 := HM.out.low
    omega
  have hpl : ∀ X, Below b W X → Blk X w.heap.size #[.int .i64 s.op, .int .i64 s.wd, .int .i64 s.num, .slice a s.kids.length cap] 24 := fun X hX => HM.out.plan.below hX hpb
  refine wp_region_noPanic (wp_region_held (S := fun X => Below b W X) (by kernel_rfl) ?_)
  show wpAnyH _ _ _ _ _ 9 #[false, false, false, false, false, false, false, false, false] _ _
  generalize ({ W with drawn := W.drawn + 1 } : World) = X at hS HD ⊢
  refine h_take 0 (PT b) rfl (by kernel_rfl) (by kernel_rfl) (by kernel_rfl) rfl (fun w hw => x_move _ _ _ _ _ _ _ _ rfl w) hS ?_
  simp only [Act.put, List.setIfInBounds_toArray, List.set_cons_succ, List.set_cons_zero]
  refine h_take 1 (.agg #[.int .i64 s.op, .int .i64 s.wd, .int .i64 s.num, .slice a s.kids.length cap]) rfl (by kernel_rfl) (by kernel_rfl) (by kernel_rfl) rfl (fun w hw => x_loadPl _ _ _ _ _ _ _ _ _ _ _ _ _ _ rfl w (hpl w hw)) hS ?_
  simp only [Act.put, List.setIfInBounds_toArray, List.set_cons_succ, List.set_cons_zero]
  refine h_take 3 (.agg #[.int .i64 s.op, .int .i64 s.wd, .int .i64 s.num, .slice a s.kids.length cap]) rfl (by kernel_rfl) (by kernel_rfl) (by kernel_rfl) rfl (fun w hw => x_loadPl _ _ _ _ _ _ _ _ _ _ _ _ _ _ rfl w (hpl w hw)) hS ?_
  simp only [Act.put, List.setIfInBounds_toArray, List.set_cons_succ, List.set_cons_zero]
  have HKC := hide (HKD.out 0 (by omega) X HD.out.below)
  refine h_callE 2 42 #[.agg #[.int .i64 s.op, .int .i64 s.wd, .int .i64 s.num, .slice a s.kids.length cap], .int .i64 0] (fun v w' => ∃ p, v = PT p ∧ TmAt w' p ((s.kids.map PL.tm).getD 0 hdA) ∧ Below X.heap.size X w') rfl (by kernel_rfl) rfl (x_call2 _ _ _ _ _ _ _ _ _ _ _ _ _ rfl rfl rfl (enters_of Tryz.func42 (by kernel_rfl) rfl) _) (HKC.out.mono fun e w' ⟨p, h1, h2, h3⟩ => ⟨_, h1, p, rfl, h2, h3⟩) (fun v w' ⟨p, _, _, h3⟩ => hS.trans (h3.mono (Nat.le_trans (Nat.le_of_lt HM.out.blk.lt) (by have := HD.out.blk.lt; have := hS.size; omega)))) ?_
  rintro v1 W1 ⟨p1, rfl, ht1, hb1⟩
  have hD1 := HD.out.call hb1
  have hS1 : Below b W W1 := hS.trans (hb1.mono (Nat.le_of_lt HD.out.blk.lt))
  simp only [Act.put, List.setIfInBounds_toArray, List.set_cons_succ, List.set_cons_zero]
  have HKC1 := hide (HKD.out 1 (by omega) W1 hD1.below)
  refine h_callE 4 42 #[.agg #[.int .i64 s.op, .int .i64 s.wd, .int .i64 s.num, .slice a s.kids.length cap], .int .i64 1] (fun v w' => ∃ p, v = PT p ∧ TmAt w' p ((s.kids.map PL.tm).getD 1 hdA) ∧ Below W1.heap.size W1 w') rfl (by kernel_rfl) rfl (x_call2 _ _ _ _ _ _ _ _ _ _ _ _ _ rfl rfl rfl (enters_of Tryz.func42 (by kernel_rfl) rfl) _) (HKC1.out.mono fun e w' ⟨p, h1, h2, h3⟩ => ⟨_, h1, p, rfl, h2, h3⟩) (fun v w' ⟨p, _, _, h3⟩ => hS1.trans (h3.mono (Nat.le_of_lt hD1.blk.lt))) ?_
  rintro v2 W2 ⟨p2, rfl, ht2, hb2⟩
  have hD2 := hD1.call hb2
  have hS2 : Below b W W2 := hS1.trans (hb2.mono (Nat.le_of_lt hD1.blk.lt))
  simp only [Act.put, List.setIfInBounds_toArray, List.set_cons_succ, List.set_cons_zero]
  have hbl := (Below.refl W2.heap.size W2).alloc (Nat.le_refl _) (.cells #[PT p1, PT p2] 26)
  have hS3 : Below b W (W2.alloc (.cells #[PT p1, PT p2] 26)) := hS2.trans (hbl.mono (Nat.le_of_lt hD2.blk.lt))
  refine h_alloc 5 (.slice (some ⟨W2.heap.size, 0, none⟩) 2 2) (W2.alloc (.cells #[PT p1, PT p2] 26)) rfl (by kernel_rfl) rfl (x_buildTm2 _ _ _ _ _ _ _ _ _ _ rfl rfl W2) hS3 ?_
  simp only [Act.put, List.setIfInBounds_toArray, List.set_cons_succ, List.set_cons_zero]
  refine h_take 6 (PT b) rfl (by kernel_rfl) (by kernel_rfl) (by kernel_rfl) rfl (fun w hw => x_nilCheck _ _ _ _ _ _ _ _ rfl w) hS3 ?_
  simp only [Act.put, List.setIfInBounds_toArray, List.set_cons_succ, List.set_cons_zero]
  refine h_take 7 (.pointer (some ⟨b, 6, none⟩)) rfl (by kernel_rfl) (by kernel_rfl) (by kernel_rfl) rfl (fun w hw => x_tmF6 _ _ _ _ _ _ _ _ rfl w) hS3 ?_
  simp only [Act.put, List.setIfInBounds_toArray, List.set_cons_succ, List.set_cons_zero]
  have HS := hide ((hD2.call hbl).kids (tmRow_two (Blk.newAt rfl _ _) ((ht1.keep hb2).keep hbl) (ht2.keep hbl)) (by intro x hx; rcases List.mem_cons.1 hx with rfl | hx; exact HWFK.out 0; rw [List.mem_singleton] at hx; subst hx; exact HWFK.out 1) (by decide))
  have HSB : Hid (Below w.heap.size w ((W2.alloc (.cells #[PT p1, PT p2] 26)).setCell ⟨b, 6, none⟩ (.slice (some ⟨W2.heap.size, 0, none⟩) 2 2))) := ((hD2.call hbl).below).setCell hD2.low _
  have hD3 := hD2.call hbl
  have k6 := hD3.blk.cell 6
  have f6 := hD3.blk.frozen 6
  simp only [tmC, List.getElem?_toArray, List.getElem?_cons_zero, List.getElem?_cons_succ] at k6
  refine h_step 8 ((W2.alloc (.cells #[PT p1, PT p2] 26)).setCell ⟨b, 6, none⟩ (.slice (some ⟨W2.heap.size, 0, none⟩) 2 2)) rfl (by kernel_rfl) rfl (x_storeTm _ _ _ _ _ _ _ _ _ _ _ _ _ _ rfl rfl _ k6 f6) (hS3.setCell (Nat.le_refl b) _) ?_
  simp only [Act.put, List.setIfInBounds_toArray, List.set_cons_succ, List.set_cons_zero]
  refine wpAnyH_done (by kernel_rfl) ?_ _
  refine NoPanic.normal ?_
  have hD4 := hD3.blk.set 6 (.slice (some ⟨W2.heap.size, 0, none⟩) 2 2)
  clear k6 f6
  have k0 := hD4.cell 0
  simp only [tmC, List.setIfInBounds_toArray, List.set_cons_succ, List.set_cons_zero, List.getElem?_toArray, List.getElem?_cons_zero, List.getElem?_cons_succ] at k0
  generalize ((W2.alloc (.cells #[PT p1, PT p2] 26)).setCell ⟨b, 6, none⟩ (.slice (some ⟨W2.heap.size, 0, none⟩) 2 2)) = W5 at *
  clear hD4 hD3 hD2 hD1 hS hS1 hS2 hS3 hb1 hb2 hbl ht1 ht2 HKC HKC1 HD hpl hpb hbw HM
  unfold PT
  go_wp2
  go_ret
  refine ⟨b, rfl, ?_, HSB.out⟩
  rw [HG.out]
  unfold tmOf
  rw [HK.out]
  exact HS.out
end Go.Proofs.YtblpekljiilkjaaGreatDoor
/- Make. -/
namespace Go.Proofs.YtblpekljiilkjaaGreatDoor
set_option maxRecDepth 100000
set_option linter.unusedSimpArgs false
set_option linter.unusedVariables false
open Go.RowKit Go.Shelf

theorem make_any (s : PL) : MkP s := by
  refine PL.ind (P := MkP) ?_ s
  intro o l u ks ih
  have ih' : ∀ k ∈ (PL.mk o l u ks).kids, MkP k := ih
  rcases op_cases (plO_range o) with h | h | h | h | h | h | h | h | h | h | h | h | h | h | h | h
  · exact make_2 _ ih' h
  · exact make_3 _ ih' h
  · exact make_4 _ ih' h
  · exact make_5 _ ih' h
  · exact make_6 _ ih' h
  · exact make_7 _ ih' h
  · exact make_8 _ ih' h
  · exact make_9 _ ih' h
  · exact make_10 _ ih' h
  · exact make_11 _ ih' h
  · exact make_12 _ ih' h
  · exact make_13 _ ih' h
  · exact make_14 _ ih' h
  · exact make_15 _ ih' h
  · exact make_16 _ ih' h
  · exact make_17 _ ih' h
end Go.Proofs.YtblpekljiilkjaaGreatDoor
