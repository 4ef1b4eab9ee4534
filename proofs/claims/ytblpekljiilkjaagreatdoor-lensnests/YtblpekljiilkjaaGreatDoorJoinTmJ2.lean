/- Texts of this claim put together: TmJ1, TmJ2. -/
import Derived.Test.YtblpekljiilkjaaGreatDoorJoinTmJ0
/- Make, op by op. -/
namespace Go.Proofs.YtblpekljiilkjaaGreatDoor
set_option maxRecDepth 100000
set_option linter.unusedSimpArgs false
set_option linter.unusedVariables false
open Go.RowKit Go.Shelf

set_option maxHeartbeats 4000000 in
theorem make_2 (s : PL) (ih : ∀ k ∈ s.kids, MkP k) (hk : plO s.op = 2) : MkP s := by
  intro cs w h hT
  obtain ⟨v, rfl, hr, ho, hwd, hnm⟩ := h.open
  obtain ⟨hn, a, cap, rfl, -⟩ := hr.at
  have hb1 := (Below.refl w.heap.size w).alloc (Nat.le_refl _) (.cells #[.int .i64 s.op, .int .i64 s.wd, .int .i64 s.num, .slice a s.kids.length cap] 24)
  have hPk := Blk.newAt (w := w) rfl #[.int .i64 s.op, .int .i64 s.wd, .int .i64 s.num, .slice a s.kids.length cap] 24
  have HPO := hide (planOp_any s _ _ (h.keep hb1))
  rw [hk, show ((2 : Nat) : Int) = 2 from rfl] at HPO
  have HG : Hid (s.tm = tmOf s.op s.wd s.num (s.kids.map PL.tm)) := by show _ = _; cases s; exact PL.tm_mk _ _ _ _
  have HK := hide hk
  have HT := hide hT
  have HWD := hide hwd
  have HNM := hide hnm
  have HPK := hide hPk
  have HB1 := hide hb1
  have HKD : Hid (∀ (i : Nat), i < 2 → ∀ W, Below w.heap.size w W → Calls Tryz.prog 42 #[PlVal [.int .i64 s.op, .int .i64 s.wd, .int .i64 s.num, .slice a s.kids.length cap], .int .i64 i] W fun e w' => ∃ p, e = .returned (PT p) ∧ TmAt w' p ((s.kids.map PL.tm).getD i hdA) ∧ Below W.heap.size W w') :=
    fun i hi W hW => pkidT_any s ih i hi _ W (h.keep hW) (hT.onS hW)
  have HWFK : Hid (∀ i, WfT ((s.kids.map PL.tm).getD i hdA)) := fun i => getD_wf (fun x hx => by obtain ⟨y, -, rfl⟩ := List.mem_map.1 hx; exact y.tm_wf) i
  clear h hr hT ho hwd hnm hk hb1 hPk hn ih
  unfold PlVal at HPO HKD ⊢
  go_enter Tryz.func14, Tryz.ntmps14
  go_wp2_with fail
  refine HPO.out.mono ?_
  rintro e w2 ⟨rfl, hb2⟩
  have hbl := (Below.refl w2.heap.size w2).alloc (Nat.le_refl _) (.cells #[.int .i64 2, .int .i64 0, .string ⟨#[]⟩, .pointer none, .string ⟨#[]⟩, .string ⟨#[]⟩, .slice none 0 0] 38)
  have hLW := HB1.out.trans (hb2.mono HB1.out.size)
  have HM : Hid (MkW w w2.heap.size w.heap.size #[.int .i64 s.op, .int .i64 s.wd, .int .i64 s.num, .slice a s.kids.length cap] (tmC 2 0 ⟨#[]⟩ ⟨#[]⟩ ⟨#[]⟩ (.pointer none) (.slice none 0 0)) none (w2.alloc (.cells #[.int .i64 2, .int .i64 0, .string ⟨#[]⟩, .pointer none, .string ⟨#[]⟩, .string ⟨#[]⟩, .slice none 0 0] 38))) :=
    ⟨Blk.newAt rfl _ _, (HPK.out.below hb2 HPK.out.lt).alloc _, fun p r e => by (cases e), hLW.size, hLW.trans (hbl.mono hLW.size)⟩
  have q1 := (HPK.out.below hb2 HPK.out.lt).cell 1
  have q2 := (HPK.out.below hb2 HPK.out.lt).cell 2
  have q0 := (HPK.out.below hb2 HPK.out.lt).cell 0
  have q3 := (HPK.out.below hb2 HPK.out.lt).cell 3
  simp only [List.getElem?_toArray, List.getElem?_cons_zero, List.getElem?_cons_succ] at q0 q1 q2 q3
  have hlt : w.heap.size < w2.heap.size := (HPK.out.below hb2 HPK.out.lt).lt
  clear hb2 hLW hbl HPO
  go_wp2_with fail
  obtain ⟨W, hWd⟩ : ∃ W, W = w2.alloc (.cells #[.int .i64 2, .int .i64 0, .string ⟨#[]⟩, .pointer none, .string ⟨#[]⟩, .string ⟨#[]⟩, .slice none 0 0] 38) := ⟨_, rfl⟩
  try rw [← hWd]
  rw [← hWd] at HM
  clear hWd q0 q1 q2 q3 hlt
  generalize w2.heap.size = b at *
  refine (planExpr_any s.wd HWD.out W (HT.out.onS HM.out.below)).mono ?_
  rintro e W1 ⟨p, rfl, hre, hb⟩
  have HM1 := hide ((HM.out.call hb).gets hre)
  have HS := hide (HM1.out.store 3 (PT p) (by intro p; simp [tmC, PT]))
  clear HM hre hb
  have HM := HM1
  clear HM1
  have p0 := HM.out.plan.cell 0
  have p1 := HM.out.plan.cell 1
  have p2 := HM.out.plan.cell 2
  have p3 := HM.out.plan.cell 3
  have pn := HM.out.ne
  have pn2 := Ne.symm HM.out.ne
  have k0 := HM.out.blk.cell 0
  have k1 := HM.out.blk.cell 1
  have k2 := HM.out.blk.cell 2
  have k3 := HM.out.blk.cell 3
  have k4 := HM.out.blk.cell 4
  have k5 := HM.out.blk.cell 5
  have k6 := HM.out.blk.cell 6
  have f2 := HM.out.blk.frozen 2
  have f3 := HM.out.blk.frozen 3
  have f4 := HM.out.blk.frozen 4
  have f5 := HM.out.blk.frozen 5
  have f6 := HM.out.blk.frozen 6
  simp only [tmC, List.setIfInBounds_toArray, List.set_cons_succ, List.set_cons_zero, List.getElem?_toArray, List.getElem?_cons_zero, List.getElem?_cons_succ] at p0 p1 p2 p3 k0 k1 k2 k3 k4 k5 k6
  unfold PT
  go_wp2
  go_ret
  refine ⟨b, rfl, ?_, HS.out.below⟩
  rw [HG.out]
  unfold tmOf
  rw [HK.out]
  exact HS.out.leaf

set_option maxHeartbeats 4000000 in
theorem make_16 (s : PL) (ih : ∀ k ∈ s.kids, MkP k) (hk : plO s.op = 16) : MkP s := by
  intro cs w h hT
  obtain ⟨v, rfl, hr, ho, hwd, hnm⟩ := h.open
  obtain ⟨hn, a, cap, rfl, -⟩ := hr.at
  have hb1 := (Below.refl w.heap.size w).alloc (Nat.le_refl _) (.cells #[.int .i64 s.op, .int .i64 s.wd, .int .i64 s.num, .slice a s.kids.length cap] 24)
  have hPk := Blk.newAt (w := w) rfl #[.int .i64 s.op, .int .i64 s.wd, .int .i64 s.num, .slice a s.kids.length cap] 24
  have HPO := hide (planOp_any s _ _ (h.keep hb1))
  rw [hk, show ((16 : Nat) : Int) = 16 from rfl] at HPO
  have HG : Hid (s.tm = tmOf s.op s.wd s.num (s.kids.map PL.tm)) := by show _ = _; cases s; exact PL.tm_mk _ _ _ _
  have HK := hide hk
  have HT := hide hT
  have HWD := hide hwd
  have HNM := hide hnm
  have HPK := hide hPk
  have HB1 := hide hb1
  have HKD : Hid (∀ (i : Nat), i < 2 → ∀ W, Below w.heap.size w W → Calls Tryz.prog 42 #[PlVal [.int .i64 s.op, .int .i64 s.wd, .int .i64 s.num, .slice a s.kids.length cap], .int .i64 i] W fun e w' => ∃ p, e = .returned (PT p) ∧ TmAt w' p ((s.kids.map PL.tm).getD i hdA) ∧ Below W.heap.size W w') :=
    fun i hi W hW => pkidT_any s ih i hi _ W (h.keep hW) (hT.onS hW)
  have HWFK : Hid (∀ i, WfT ((s.kids.map PL.tm).getD i hdA)) := fun i => getD_wf (fun x hx => by obtain ⟨y, -, rfl⟩ := List.mem_map.1 hx; exact y.tm_wf) i
  clear h hr hT ho hwd hnm hk hb1 hPk hn ih
  unfold PlVal at HPO HKD ⊢
  go_enter Tryz.func14, Tryz.ntmps14
  go_wp2_with fail
  refine HPO.out.mono ?_
  rintro e w2 ⟨rfl, hb2⟩
  have hbl := (Below.refl w2.heap.size w2).alloc (Nat.le_refl _) (.cells #[.int .i64 16, .int .i64 0, .string ⟨#[]⟩, .pointer none, .string ⟨#[]⟩, .string ⟨#[]⟩, .slice none 0 0] 38)
  have hLW := HB1.out.trans (hb2.mono HB1.out.size)
  have HM : Hid (MkW w w2.heap.size w.heap.size #[.int .i64 s.op, .int .i64 s.wd, .int .i64 s.num, .slice a s.kids.length cap] (tmC 16 0 ⟨#[]⟩ ⟨#[]⟩ ⟨#[]⟩ (.pointer none) (.slice none 0 0)) none (w2.alloc (.cells #[.int .i64 16, .int .i64 0, .string ⟨#[]⟩, .pointer none, .string ⟨#[]⟩, .string ⟨#[]⟩, .slice none 0 0] 38))) :=
    ⟨Blk.newAt rfl _ _, (HPK.out.below hb2 HPK.out.lt).alloc _, fun p r e => by (cases e), hLW.size, hLW.trans (hbl.mono hLW.size)⟩
  have q1 := (HPK.out.below hb2 HPK.out.lt).cell 1
  have q2 := (HPK.out.below hb2 HPK.out.lt).cell 2
  have q0 := (HPK.out.below hb2 HPK.out.lt).cell 0
  have q3 := (HPK.out.below hb2 HPK.out.lt).cell 3
  simp only [List.getElem?_toArray, List.getElem?_cons_zero, List.getElem?_cons_succ] at q0 q1 q2 q3
  have hlt : w.heap.size < w2.heap.size := (HPK.out.below hb2 HPK.out.lt).lt
  clear hb2 hLW hbl HPO
  go_wp2_with fail
  obtain ⟨W, hWd⟩ : ∃ W, W = w2.alloc (.cells #[.int .i64 16, .int .i64 0, .string ⟨#[]⟩, .pointer none, .string ⟨#[]⟩, .string ⟨#[]⟩, .slice none 0 0] 38) := ⟨_, rfl⟩
  try rw [← hWd]
  rw [← hWd] at HM
  clear hWd q0 q1 q2 q3 hlt
  generalize w2.heap.size = b at *
  refine (planExpr_any s.wd HWD.out W (HT.out.onS HM.out.below)).mono ?_
  rintro e W1 ⟨p, rfl, hre, hb⟩
  have HM1 := hide ((HM.out.call hb).gets hre)
  have HS := hide (HM1.out.store 3 (PT p) (by intro p; simp [tmC, PT]))
  clear HM hre hb
  have HM := HM1
  clear HM1
  have p0 := HM.out.plan.cell 0
  have p1 := HM.out.plan.cell 1
  have p2 := HM.out.plan.cell 2
  have p3 := HM.out.plan.cell 3
  have pn := HM.out.ne
  have pn2 := Ne.symm HM.out.ne
  have k0 := HM.out.blk.cell 0
  have k1 := HM.out.blk.cell 1
  have k2 := HM.out.blk.cell 2
  have k3 := HM.out.blk.cell 3
  have k4 := HM.out.blk.cell 4
  have k5 := HM.out.blk.cell 5
  have k6 := HM.out.blk.cell 6
  have f2 := HM.out.blk.frozen 2
  have f3 := HM.out.blk.frozen 3
  have f4 := HM.out.blk.frozen 4
  have f5 := HM.out.blk.frozen 5
  have f6 := HM.out.blk.frozen 6
  simp only [tmC, List.setIfInBounds_toArray, List.set_cons_succ, List.set_cons_zero, List.getElem?_toArray, List.getElem?_cons_zero, List.getElem?_cons_succ] at p0 p1 p2 p3 k0 k1 k2 k3 k4 k5 k6
  unfold PT
  go_wp2
  go_ret
  refine ⟨b, rfl, ?_, HS.out.below⟩
  rw [HG.out]
  unfold tmOf
  rw [HK.out]
  exact HS.out.leaf

set_option maxHeartbeats 4000000 in
theorem make_3 (s : PL) (ih : ∀ k ∈ s.kids, MkP k) (hk : plO s.op = 3) : MkP s := by
  intro cs w h hT
  obtain ⟨v, rfl, hr, ho, hwd, hnm⟩ := h.open
  obtain ⟨hn, a, cap, rfl, -⟩ := hr.at
  have hb1 := (Below.refl w.heap.size w).alloc (Nat.le_refl _) (.cells #[.int .i64 s.op, .int .i64 s.wd, .int .i64 s.num, .slice a s.kids.length cap] 24)
  have hPk := Blk.newAt (w := w) rfl #[.int .i64 s.op, .int .i64 s.wd, .int .i64 s.num, .slice a s.kids.length cap] 24
  have HPO := hide (planOp_any s _ _ (h.keep hb1))
  rw [hk, show ((3 : Nat) : Int) = 3 from rfl] at HPO
  have HG : Hid (s.tm = tmOf s.op s.wd s.num (s.kids.map PL.tm)) := by show _ = _; cases s; exact PL.tm_mk _ _ _ _
  have HK := hide hk
  have HT := hide hT
  have HWD := hide hwd
  have HNM := hide hnm
  have HPK := hide hPk
  have HB1 := hide hb1
  have HKD : Hid (∀ (i : Nat), i < 2 → ∀ W, Below w.heap.size w W → Calls Tryz.prog 42 #[PlVal [.int .i64 s.op, .int .i64 s.wd, .int .i64 s.num, .slice a s.kids.length cap], .int .i64 i] W fun e w' => ∃ p, e = .returned (PT p) ∧ TmAt w' p ((s.kids.map PL.tm).getD i hdA) ∧ Below W.heap.size W w') :=
    fun i hi W hW => pkidT_any s ih i hi _ W (h.keep hW) (hT.onS hW)
  have HWFK : Hid (∀ i, WfT ((s.kids.map PL.tm).getD i hdA)) := fun i => getD_wf (fun x hx => by obtain ⟨y, -, rfl⟩ := List.mem_map.1 hx; exact y.tm_wf) i
  clear h hr hT ho hwd hnm hk hb1 hPk hn ih
  unfold PlVal at HPO HKD ⊢
  go_enter Tryz.func14, Tryz.ntmps14
  go_wp2_with fail
  refine HPO.out.mono ?_
  rintro e w2 ⟨rfl, hb2⟩
  have hbl := (Below.refl w2.heap.size w2).alloc (Nat.le_refl _) (.cells #[.int .i64 3, .int .i64 0, .string ⟨#[]⟩, .pointer none, .string ⟨#[]⟩, .string ⟨#[]⟩, .slice none 0 0] 38)
  have hLW := HB1.out.trans (hb2.mono HB1.out.size)
  have HM : Hid (MkW w w2.heap.size w.heap.size #[.int .i64 s.op, .int .i64 s.wd, .int .i64 s.num, .slice a s.kids.length cap] (tmC 3 0 ⟨#[]⟩ ⟨#[]⟩ ⟨#[]⟩ (.pointer none) (.slice none 0 0)) none (w2.alloc (.cells #[.int .i64 3, .int .i64 0, .string ⟨#[]⟩, .pointer none, .string ⟨#[]⟩, .string ⟨#[]⟩, .slice none 0 0] 38))) :=
    ⟨Blk.newAt rfl _ _, (HPK.out.below hb2 HPK.out.lt).alloc _, fun p r e => by (cases e), hLW.size, hLW.trans (hbl.mono hLW.size)⟩
  have q1 := (HPK.out.below hb2 HPK.out.lt).cell 1
  have q2 := (HPK.out.below hb2 HPK.out.lt).cell 2
  have q0 := (HPK.out.below hb2 HPK.out.lt).cell 0
  have q3 := (HPK.out.below hb2 HPK.out.lt).cell 3
  simp only [List.getElem?_toArray, List.getElem?_cons_zero, List.getElem?_cons_succ] at q0 q1 q2 q3
  have hlt : w.heap.size < w2.heap.size := (HPK.out.below hb2 HPK.out.lt).lt
  clear hb2 hLW hbl HPO
  go_wp2_with fail
  obtain ⟨W, hWd⟩ : ∃ W, W = w2.alloc (.cells #[.int .i64 3, .int .i64 0, .string ⟨#[]⟩, .pointer none, .string ⟨#[]⟩, .string ⟨#[]⟩, .slice none 0 0] 38) := ⟨_, rfl⟩
  try rw [← hWd]
  rw [← hWd] at HM
  clear hWd q0 q1 q2 q3 hlt
  generalize w2.heap.size = b at *
  refine (planExpr_any s.wd HWD.out W (HT.out.onS HM.out.below)).mono ?_
  rintro e W1 ⟨p, rfl, hre, hb⟩
  have HM1 := hide ((HM.out.call hb).gets hre)
  have HS := hide (HM1.out.store 3 (PT p) (by intro p; simp [tmC, PT]))
  clear HM hre hb
  have HM := HM1
  clear HM1
  have p0 := HM.out.plan.cell 0
  have p1 := HM.out.plan.cell 1
  have p2 := HM.out.plan.cell 2
  have p3 := HM.out.plan.cell 3
  have pn := HM.out.ne
  have pn2 := Ne.symm HM.out.ne
  have k0 := HM.out.blk.cell 0
  have k1 := HM.out.blk.cell 1
  have k2 := HM.out.blk.cell 2
  have k3 := HM.out.blk.cell 3
  have k4 := HM.out.blk.cell 4
  have k5 := HM.out.blk.cell 5
  have k6 := HM.out.blk.cell 6
  have f2 := HM.out.blk.frozen 2
  have f3 := HM.out.blk.frozen 3
  have f4 := HM.out.blk.frozen 4
  have f5 := HM.out.blk.frozen 5
  have f6 := HM.out.blk.frozen 6
  simp only [tmC, List.setIfInBounds_toArray, List.set_cons_succ, List.set_cons_zero, List.getElem?_toArray, List.getElem?_cons_zero, List.getElem?_cons_succ] at p0 p1 p2 p3 k0 k1 k2 k3 k4 k5 k6
  unfold PT
  rcases Int.emod_two_eq s.num with hpar | hpar
  all_goals
    have hand := (i64_and1 s.num).trans hpar
    have hkey : Hid (keyN s.num = if s.num % 2 = 0 then ⟨#[107]⟩ else ⟨#[99, 111, 108, 111, 114]⟩) := rfl
    have HPAR := hide hpar
    clear hpar
    have HS2 := hide ((HS.out.store 2 (.string (keyN s.num)) (by intro p; simp [tmC, PT])).call ((Below.refl _ _).alloc (Nat.le_refl _) (.cells #[.string ⟨#[107]⟩, .string ⟨#[99, 111, 108, 111, 114]⟩] 9)))
    have e1 := hkey.out
    rw [HPAR.out] at e1
    first | rw [if_pos rfl] at e1 | rw [if_neg (by decide)] at e1
    rw [e1] at HS2
    have HE1 := hide e1
    have HBB := hide (HM.out.blk.lt)
    have hPL := HM.out.plan.lt
    have hBL := HBB.out
    clear e1 hkey
    go_wp2
    go_ret
    refine ⟨b, rfl, ?_, HS2.out.below⟩
    rw [HG.out]
    unfold tmOf
    rw [HK.out, show (if (3 : Nat) = 3 then keyN s.num else (⟨#[]⟩ : ByteArray)) = _ from HE1.out]
    exact HS2.out.leaf

set_option maxHeartbeats 4000000 in
theorem make_4 (s : PL) (ih : ∀ k ∈ s.kids, MkP k) (hk : plO s.op = 4) : MkP s := by
  intro cs w h hT
  obtain ⟨v, rfl, hr, ho, hwd, hnm⟩ := h.open
  obtain ⟨hn, a, cap, rfl, -⟩ := hr.at
  have hb1 := (Below.refl w.heap.size w).alloc (Nat.le_refl _) (.cells #[.int .i64 s.op, .int .i64 s.wd, .int .i64 s.num, .slice a s.kids.length cap] 24)
  have hPk := Blk.newAt (w := w) rfl #[.int .i64 s.op, .int .i64 s.wd, .int .i64 s.num, .slice a s.kids.length cap] 24
  have HPO := hide (planOp_any s _ _ (h.keep hb1))
  rw [hk, show ((4 : Nat) : Int) = 4 from rfl] at HPO
  have HG : Hid (s.tm = tmOf s.op s.wd s.num (s.kids.map PL.tm)) := by show _ = _; cases s; exact PL.tm_mk _ _ _ _
  have HK := hide hk
  have HT := hide hT
  have HWD := hide hwd
  have HNM := hide hnm
  have HPK := hide hPk
  have HB1 := hide hb1
  have HKD : Hid (∀ (i : Nat), i < 2 → ∀ W, Below w.heap.size w W → Calls Tryz.prog 42 #[PlVal [.int .i64 s.op, .int .i64 s.wd, .int .i64 s.num, .slice a s.kids.length cap], .int .i64 i] W fun e w' => ∃ p, e = .returned (PT p) ∧ TmAt w' p ((s.kids.map PL.tm).getD i hdA) ∧ Below W.heap.size W w') :=
    fun i hi W hW => pkidT_any s ih i hi _ W (h.keep hW) (hT.onS hW)
  have HWFK : Hid (∀ i, WfT ((s.kids.map PL.tm).getD i hdA)) := fun i => getD_wf (fun x hx => by obtain ⟨y, -, rfl⟩ := List.mem_map.1 hx; exact y.tm_wf) i
  clear h hr hT ho hwd hnm hk hb1 hPk hn ih
  unfold PlVal at HPO HKD ⊢
  go_enter Tryz.func14, Tryz.ntmps14
  go_wp2_with fail
  refine HPO.out.mono ?_
  rintro e w2 ⟨rfl, hb2⟩
  have hbl := (Below.refl w2.heap.size w2).alloc (Nat.le_refl _) (.cells #[.int .i64 4, .int .i64 0, .string ⟨#[]⟩, .pointer none, .string ⟨#[]⟩, .string ⟨#[]⟩, .slice none 0 0] 38)
  have hLW := HB1.out.trans (hb2.mono HB1.out.size)
  have HM : Hid (MkW w w2.heap.size w.heap.size #[.int .i64 s.op, .int .i64 s.wd, .int .i64 s.num, .slice a s.kids.length cap] (tmC 4 0 ⟨#[]⟩ ⟨#[]⟩ ⟨#[]⟩ (.pointer none) (.slice none 0 0)) none (w2.alloc (.cells #[.int .i64 4, .int .i64 0, .string ⟨#[]⟩, .pointer none, .string ⟨#[]⟩, .string ⟨#[]⟩, .slice none 0 0] 38))) :=
    ⟨Blk.newAt rfl _ _, (HPK.out.below hb2 HPK.out.lt).alloc _, fun p r e => by (cases e), hLW.size, hLW.trans (hbl.mono hLW.size)⟩
  have q1 := (HPK.out.below hb2 HPK.out.lt).cell 1
  have q2 := (HPK.out.below hb2 HPK.out.lt).cell 2
  have q0 := (HPK.out.below hb2 HPK.out.lt).cell 0
  have q3 := (HPK.out.below hb2 HPK.out.lt).cell 3
  simp only [List.getElem?_toArray, List.getElem?_cons_zero, List.getElem?_cons_succ] at q0 q1 q2 q3
  have hlt : w.heap.size < w2.heap.size := (HPK.out.below hb2 HPK.out.lt).lt
  clear hb2 hLW hbl HPO
  go_wp2_with fail
  obtain ⟨W, hWd⟩ : ∃ W, W = w2.alloc (.cells #[.int .i64 4, .int .i64 0, .string ⟨#[]⟩, .pointer none, .string ⟨#[]⟩, .string ⟨#[]⟩, .slice none 0 0] 38) := ⟨_, rfl⟩
  try rw [← hWd]
  rw [← hWd] at HM
  clear hWd q0 q1 q2 q3 hlt
  generalize w2.heap.size = b at *
  refine (planExpr_any s.wd HWD.out W (HT.out.onS HM.out.below)).mono ?_
  rintro e W1 ⟨p, rfl, hre, hb⟩
  have HM1 := hide ((HM.out.call hb).gets hre)
  have HS := hide (HM1.out.store 3 (PT p) (by intro p; simp [tmC, PT]))
  clear HM hre hb
  have HM := HM1
  clear HM1
  have p0 := HM.out.plan.cell 0
  have p1 := HM.out.plan.cell 1
  have p2 := HM.out.plan.cell 2
  have p3 := HM.out.plan.cell 3
  have pn := HM.out.ne
  have pn2 := Ne.symm HM.out.ne
  have k0 := HM.out.blk.cell 0
  have k1 := HM.out.blk.cell 1
  have k2 := HM.out.blk.cell 2
  have k3 := HM.out.blk.cell 3
  have k4 := HM.out.blk.cell 4
  have k5 := HM.out.blk.cell 5
  have k6 := HM.out.blk.cell 6
  have f2 := HM.out.blk.frozen 2
  have f3 := HM.out.blk.frozen 3
  have f4 := HM.out.blk.frozen 4
  have f5 := HM.out.blk.frozen 5
  have f6 := HM.out.blk.frozen 6
  simp only [tmC, List.setIfInBounds_toArray, List.set_cons_succ, List.set_cons_zero, List.getElem?_toArray, List.getElem?_cons_zero, List.getElem?_cons_succ] at p0 p1 p2 p3 k0 k1 k2 k3 k4 k5 k6
  unfold PT
  go_wp2_with fail
  skip
  refine (planText_any s.num _).mono ?_
  rintro e W2 ⟨rfl, hb⟩
  have HM1 := hide (HS.out.call hb)
  have HS1 := hide (HM1.out.store 4 (.string (textN s.num)) (by intro p; simp [tmC, PT]))
  clear p0 p1 p2 p3 pn pn2 k0 k1 k2 k3 k4 k5 k6 f2 f3 f4 f5 f6
  clear HM hb HS
  have HM := HM1
  have HS := HS1
  clear HM1 HS1
  have p0 := HM.out.plan.cell 0
  have p1 := HM.out.plan.cell 1
  have p2 := HM.out.plan.cell 2
  have p3 := HM.out.plan.cell 3
  have pn := HM.out.ne
  have pn2 := Ne.symm HM.out.ne
  have k0 := HM.out.blk.cell 0
  have k1 := HM.out.blk.cell 1
  have k2 := HM.out.blk.cell 2
  have k3 := HM.out.blk.cell 3
  have k4 := HM.out.blk.cell 4
  have k5 := HM.out.blk.cell 5
  have k6 := HM.out.blk.cell 6
  have f2 := HM.out.blk.frozen 2
  have f3 := HM.out.blk.frozen 3
  have f4 := HM.out.blk.frozen 4
  have f5 := HM.out.blk.frozen 5
  have f6 := HM.out.blk.frozen 6
  simp only [tmC, List.setIfInBounds_toArray, List.set_cons_succ, List.set_cons_zero, List.getElem?_toArray, List.getElem?_cons_zero, List.getElem?_cons_succ] at p0 p1 p2 p3 k0 k1 k2 k3 k4 k5 k6
  have hwr := wrap_tdiv HNM.out
  go_wp2_with fail
  clear hwr
  refine (planText_any (s.num.tdiv 7) _).mono ?_
  rintro e W2 ⟨rfl, hb⟩
  have HM1 := hide (HS.out.call hb)
  have HS1 := hide (HM1.out.store 5 (.string (textN (s.num.tdiv 7))) (by intro p; simp [tmC, PT]))
  clear p0 p1 p2 p3 pn pn2 k0 k1 k2 k3 k4 k5 k6 f2 f3 f4 f5 f6
  clear HM hb HS
  have HM := HM1
  have HS := HS1
  clear HM1 HS1
  have p0 := HM.out.plan.cell 0
  have p1 := HM.out.plan.cell 1
  have p2 := HM.out.plan.cell 2
  have p3 := HM.out.plan.cell 3
  have pn := HM.out.ne
  have pn2 := Ne.symm HM.out.ne
  have k0 := HM.out.blk.cell 0
  have k1 := HM.out.blk.cell 1
  have k2 := HM.out.blk.cell 2
  have k3 := HM.out.blk.cell 3
  have k4 := HM.out.blk.cell 4
  have k5 := HM.out.blk.cell 5
  have k6 := HM.out.blk.cell 6
  have f2 := HM.out.blk.frozen 2
  have f3 := HM.out.blk.frozen 3
  have f4 := HM.out.blk.frozen 4
  have f5 := HM.out.blk.frozen 5
  have f6 := HM.out.blk.frozen 6
  simp only [tmC, List.setIfInBounds_toArray, List.set_cons_succ, List.set_cons_zero, List.getElem?_toArray, List.getElem?_cons_zero, List.getElem?_cons_succ] at p0 p1 p2 p3 k0 k1 k2 k3 k4 k5 k6
  go_wp2
  go_ret
  refine ⟨b, rfl, ?_, HS.out.below⟩
  rw [HG.out]
  unfold tmOf
  rw [HK.out]
  exact HS.out.leaf

set_option maxHeartbeats 4000000 in
theorem make_5 (s : PL) (ih : ∀ k ∈ s.kids, MkP k) (hk : plO s.op = 5) : MkP s := by
  intro cs w h hT
  obtain ⟨v, rfl, hr, ho, hwd, hnm⟩ := h.open
  obtain ⟨hn, a, cap, rfl, -⟩ := hr.at
  have hb1 := (Below.refl w.heap.size w).alloc (Nat.le_refl _) (.cells #[.int .i64 s.op, .int .i64 s.wd, .int .i64 s.num, .slice a s.kids.length cap] 24)
  have hPk := Blk.newAt (w := w) rfl #[.int .i64 s.op, .int .i64 s.wd, .int .i64 s.num, .slice a s.kids.length cap] 24
  have HPO := hide (planOp_any s _ _ (h.keep hb1))
  rw [hk, show ((5 : Nat) : Int) = 5 from rfl] at HPO
  have HG : Hid (s.tm = tmOf s.op s.wd s.num (s.kids.map PL.tm)) := by show _ = _; cases s; exact PL.tm_mk _ _ _ _
  have HK := hide hk
  have HT := hide hT
  have HWD := hide hwd
  have HNM := hide hnm
  have HPK := hide hPk
  have HB1 := hide hb1
  have HKD : Hid (∀ (i : Nat), i < 2 → ∀ W, Below w.heap.size w W → Calls Tryz.prog 42 #[PlVal [.int .i64 s.op, .int .i64 s.wd, .int .i64 s.num, .slice a s.kids.length cap], .int .i64 i] W fun e w' => ∃ p, e = .returned (PT p) ∧ TmAt w' p ((s.kids.map PL.tm).getD i hdA) ∧ Below W.heap.size W w') :=
    fun i hi W hW => pkidT_any s ih i hi _ W (h.keep hW) (hT.onS hW)
  have HWFK : Hid (∀ i, WfT ((s.kids.map PL.tm).getD i hdA)) := fun i => getD_wf (fun x hx => by obtain ⟨y, -, rfl⟩ := List.mem_map.1 hx; exact y.tm_wf) i
  clear h hr hT ho hwd hnm hk hb1 hPk hn ih
  unfold PlVal at HPO HKD ⊢
  go_enter Tryz.func14, Tryz.ntmps14
  go_wp2_with fail
  refine HPO.out.mono ?_
  rintro e w2 ⟨rfl, hb2⟩
  have hbl := (Below.refl w2.heap.size w2).alloc (Nat.le_refl _) (.cells #[.int .i64 5, .int .i64 0, .string ⟨#[]⟩, .pointer none, .string ⟨#[]⟩, .string ⟨#[]⟩, .slice none 0 0] 38)
  have hLW := HB1.out.trans (hb2.mono HB1.out.size)
  have HM : Hid (MkW w w2.heap.size w.heap.size #[.int .i64 s.op, .int .i64 s.wd, .int .i64 s.num, .slice a s.kids.length cap] (tmC 5 0 ⟨#[]⟩ ⟨#[]⟩ ⟨#[]⟩ (.pointer none) (.slice none 0 0)) none (w2.alloc (.cells #[.int .i64 5, .int .i64 0, .string ⟨#[]⟩, .pointer none, .string ⟨#[]⟩, .string ⟨#[]⟩, .slice none 0 0] 38))) :=
    ⟨Blk.newAt rfl _ _, (HPK.out.below hb2 HPK.out.lt).alloc _, fun p r e => by (cases e), hLW.size, hLW.trans (hbl.mono hLW.size)⟩
  have q1 := (HPK.out.below hb2 HPK.out.lt).cell 1
  have q2 := (HPK.out.below hb2 HPK.out.lt).cell 2
  have q0 := (HPK.out.below hb2 HPK.out.lt).cell 0
  have q3 := (HPK.out.below hb2 HPK.out.lt).cell 3
  simp only [List.getElem?_toArray, List.getElem?_cons_zero, List.getElem?_cons_succ] at q0 q1 q2 q3
  have hlt : w.heap.size < w2.heap.size := (HPK.out.below hb2 HPK.out.lt).lt
  clear hb2 hLW hbl HPO
  go_wp2_with fail
  obtain ⟨W, hWd⟩ : ∃ W, W = w2.alloc (.cells #[.int .i64 5, .int .i64 0, .string ⟨#[]⟩, .pointer none, .string ⟨#[]⟩, .string ⟨#[]⟩, .slice none 0 0] 38) := ⟨_, rfl⟩
  try rw [← hWd]
  rw [← hWd] at HM
  clear hWd q0 q1 q2 q3 hlt
  generalize w2.heap.size = b at *
  refine (planExpr_any s.wd HWD.out W (HT.out.onS HM.out.below)).mono ?_
  rintro e W1 ⟨p, rfl, hre, hb⟩
  have HM1 := hide ((HM.out.call hb).gets hre)
  have HS := hide (HM1.out.store 3 (PT p) (by intro p; simp [tmC, PT]))
  clear HM hre hb
  have HM := HM1
  clear HM1
  have p0 := HM.out.plan.cell 0
  have p1 := HM.out.plan.cell 1
  have p2 := HM.out.plan.cell 2
  have p3 := HM.out.plan.cell 3
  have pn := HM.out.ne
  have pn2 := Ne.symm HM.out.ne
  have k0 := HM.out.blk.cell 0
  have k1 := HM.out.blk.cell 1
  have k2 := HM.out.blk.cell 2
  have k3 := HM.out.blk.cell 3
  have k4 := HM.out.blk.cell 4
  have k5 := HM.out.blk.cell 5
  have k6 := HM.out.blk.cell 6
  have f2 := HM.out.blk.frozen 2
  have f3 := HM.out.blk.frozen 3
  have f4 := HM.out.blk.frozen 4
  have f5 := HM.out.blk.frozen 5
  have f6 := HM.out.blk.frozen 6
  simp only [tmC, List.setIfInBounds_toArray, List.set_cons_succ, List.set_cons_zero, List.getElem?_toArray, List.getElem?_cons_zero, List.getElem?_cons_succ] at p0 p1 p2 p3 k0 k1 k2 k3 k4 k5 k6
  unfold PT
  go_wp2_with fail
  skip
  refine (planText_any s.num _).mono ?_
  rintro e W2 ⟨rfl, hb⟩
  have HM1 := hide (HS.out.call hb)
  have HS1 := hide (HM1.out.store 5 (.string (textN s.num)) (by intro p; simp [tmC, PT]))
  clear p0 p1 p2 p3 pn pn2 k0 k1 k2 k3 k4 k5 k6 f2 f3 f4 f5 f6
  clear HM hb HS
  have HM := HM1
  have HS := HS1
  clear HM1 HS1
  have p0 := HM.out.plan.cell 0
  have p1 := HM.out.plan.cell 1
  have p2 := HM.out.plan.cell 2
  have p3 := HM.out.plan.cell 3
  have pn := HM.out.ne
  have pn2 := Ne.symm HM.out.ne
  have k0 := HM.out.blk.cell 0
  have k1 := HM.out.blk.cell 1
  have k2 := HM.out.blk.cell 2
  have k3 := HM.out.blk.cell 3
  have k4 := HM.out.blk.cell 4
  have k5 := HM.out.blk.cell 5
  have k6 := HM.out.blk.cell 6
  have f2 := HM.out.blk.frozen 2
  have f3 := HM.out.blk.frozen 3
  have f4 := HM.out.blk.frozen 4
  have f5 := HM.out.blk.frozen 5
  have f6 := HM.out.blk.frozen 6
  simp only [tmC, List.setIfInBounds_toArray, List.set_cons_succ, List.set_cons_zero, List.getElem?_toArray, List.getElem?_cons_zero, List.getElem?_cons_succ] at p0 p1 p2 p3 k0 k1 k2 k3 k4 k5 k6
  go_wp2
  go_ret
  refine ⟨b, rfl, ?_, HS.out.below⟩
  rw [HG.out]
  unfold tmOf
  rw [HK.out]
  exact HS.out.leaf
end Go.Proofs.YtblpekljiilkjaaGreatDoor
/- Make, op by op. -/
namespace Go.Proofs.YtblpekljiilkjaaGreatDoor
set_option maxRecDepth 100000
set_option linter.unusedSimpArgs false
set_option linter.unusedVariables false
open Go.RowKit Go.Shelf

set_option maxHeartbeats 4000000 in
theorem make_17 (s : PL) (ih : ∀ k ∈ s.kids, MkP k) (hk : plO s.op = 17) : MkP s := by
  intro cs w h hT
  obtain ⟨v, rfl, hr, ho, hwd, hnm⟩ := h.open
  obtain ⟨hn, a, cap, rfl, -⟩ := hr.at
  have hb1 := (Below.refl w.heap.size w).alloc (Nat.le_refl _) (.cells #[.int .i64 s.op, .int .i64 s.wd, .int .i64 s.num, .slice a s.kids.length cap] 24)
  have hPk := Blk.newAt (w := w) rfl #[.int .i64 s.op, .int .i64 s.wd, .int .i64 s.num, .slice a s.kids.length cap] 24
  have HPO := hide (planOp_any s _ _ (h.keep hb1))
  rw [hk, show ((17 : Nat) : Int) = 17 from rfl] at HPO
  have HG : Hid (s.tm = tmOf s.op s.wd s.num (s.kids.map PL.tm)) := by show _ = _; cases s; exact PL.tm_mk _ _ _ _
  have HK := hide hk
  have HT := hide hT
  have HWD := hide hwd
  have HNM := hide hnm
  have HPK := hide hPk
  have HB1 := hide hb1
  have HKD : Hid (∀ (i : Nat), i < 2 → ∀ W, Below w.heap.size w W → Calls Tryz.prog 42 #[PlVal [.int .i64 s.op, .int .i64 s.wd, .int .i64 s.num, .slice a s.kids.length cap], .int .i64 i] W fun e w' => ∃ p, e = .returned (PT p) ∧ TmAt w' p ((s.kids.map PL.tm).getD i hdA) ∧ Below W.heap.size W w') :=
    fun i hi W hW => pkidT_any s ih i hi _ W (h.keep hW) (hT.onS hW)
  have HWFK : Hid (∀ i, WfT ((s.kids.map PL.tm).getD i hdA)) := fun i => getD_wf (fun x hx => by obtain ⟨y, -, rfl⟩ := List.mem_map.1 hx; exact y.tm_wf) i
  clear h hr hT ho hwd hnm hk hb1 hPk hn ih
  unfold PlVal at HPO HKD ⊢
  go_enter Tryz.func14, Tryz.ntmps14
  go_wp2_with fail
  refine HPO.out.mono ?_
  rintro e w2 ⟨rfl, hb2⟩
  have hbl := (Below.refl w2.heap.size w2).alloc (Nat.le_refl _) (.cells #[.int .i64 17, .int .i64 0, .string ⟨#[]⟩, .pointer none, .string ⟨#[]⟩, .string ⟨#[]⟩, .slice none 0 0] 38)
  have hLW := HB1.out.trans (hb2.mono HB1.out.size)
  have HM : Hid (MkW w w2.heap.size w.heap.size #[.int .i64 s.op, .int .i64 s.wd, .int .i64 s.num, .slice a s.kids.length cap] (tmC 17 0 ⟨#[]⟩ ⟨#[]⟩ ⟨#[]⟩ (.pointer none) (.slice none 0 0)) none (w2.alloc (.cells #[.int .i64 17, .int .i64 0, .string ⟨#[]⟩, .pointer none, .string ⟨#[]⟩, .string ⟨#[]⟩, .slice none 0 0] 38))) :=
    ⟨Blk.newAt rfl _ _, (HPK.out.below hb2 HPK.out.lt).alloc _, fun p r e => by (cases e), hLW.size, hLW.trans (hbl.mono hLW.size)⟩
  have q1 := (HPK.out.below hb2 HPK.out.lt).cell 1
  have q2 := (HPK.out.below hb2 HPK.out.lt).cell 2
  have q0 := (HPK.out.below hb2 HPK.out.lt).cell 0
  have q3 := (HPK.out.below hb2 HPK.out.lt).cell 3
  simp only [List.getElem?_toArray, List.getElem?_cons_zero, List.getElem?_cons_succ] at q0 q1 q2 q3
  have hlt : w.heap.size < w2.heap.size := (HPK.out.below hb2 HPK.out.lt).lt
  clear hb2 hLW hbl HPO
  go_wp2_with fail
  obtain ⟨W, hWd⟩ : ∃ W, W = w2.alloc (.cells #[.int .i64 17, .int .i64 0, .string ⟨#[]⟩, .pointer none, .string ⟨#[]⟩, .string ⟨#[]⟩, .slice none 0 0] 38) := ⟨_, rfl⟩
  try rw [← hWd]
  rw [← hWd] at HM
  clear hWd q0 q1 q2 q3 hlt
  generalize w2.heap.size = b at *
  refine (planExpr_any s.wd HWD.out W (HT.out.onS HM.out.below)).mono ?_
  rintro e W1 ⟨p, rfl, hre, hb⟩
  have HM1 := hide ((HM.out.call hb).gets hre)
  have HS := hide (HM1.out.store 3 (PT p) (by intro p; simp [tmC, PT]))
  clear HM hre hb
  have HM := HM1
  clear HM1
  have p0 := HM.out.plan.cell 0
  have p1 := HM.out.plan.cell 1
  have p2 := HM.out.plan.cell 2
  have p3 := HM.out.plan.cell 3
  have pn := HM.out.ne
  have pn2 := Ne.symm HM.out.ne
  have k0 := HM.out.blk.cell 0
  have k1 := HM.out.blk.cell 1
  have k2 := HM.out.blk.cell 2
  have k3 := HM.out.blk.cell 3
  have k4 := HM.out.blk.cell 4
  have k5 := HM.out.blk.cell 5
  have k6 := HM.out.blk.cell 6
  have f2 := HM.out.blk.frozen 2
  have f3 := HM.out.blk.frozen 3
  have f4 := HM.out.blk.frozen 4
  have f5 := HM.out.blk.frozen 5
  have f6 := HM.out.blk.frozen 6
  simp only [tmC, List.setIfInBounds_toArray, List.set_cons_succ, List.set_cons_zero, List.getElem?_toArray, List.getElem?_cons_zero, List.getElem?_cons_succ] at p0 p1 p2 p3 k0 k1 k2 k3 k4 k5 k6
  unfold PT
  go_wp2_with fail
  skip
  refine (planText_any s.num _).mono ?_
  rintro e W2 ⟨rfl, hb⟩
  have HM1 := hide (HS.out.call hb)
  have HS1 := hide (HM1.out.store 4 (.string (textN s.num)) (by intro p; simp [tmC, PT]))
  clear p0 p1 p2 p3 pn pn2 k0 k1 k2 k3 k4 k5 k6 f2 f3 f4 f5 f6
  clear HM hb HS
  have HM := HM1
  have HS := HS1
  clear HM1 HS1
  have p0 := HM.out.plan.cell 0
  have p1 := HM.out.plan.cell 1
  have p2 := HM.out.plan.cell 2
  have p3 := HM.out.plan.cell 3
  have pn := HM.out.ne
  have pn2 := Ne.symm HM.out.ne
  have k0 := HM.out.blk.cell 0
  have k1 := HM.out.blk.cell 1
  have k2 := HM.out.blk.cell 2
  have k3 := HM.out.blk.cell 3
  have k4 := HM.out.blk.cell 4
  have k5 := HM.out.blk.cell 5
  have k6 := HM.out.blk.cell 6
  have f2 := HM.out.blk.frozen 2
  have f3 := HM.out.blk.frozen 3
  have f4 := HM.out.blk.frozen 4
  have f5 := HM.out.blk.frozen 5
  have f6 := HM.out.blk.frozen 6
  simp only [tmC, List.setIfInBounds_toArray, List.set_cons_succ, List.set_cons_zero, List.getElem?_toArray, List.getElem?_cons_zero, List.getElem?_cons_succ] at p0 p1 p2 p3 k0 k1 k2 k3 k4 k5 k6
  go_wp2
  go_ret
  refine ⟨b, rfl, ?_, HS.out.below⟩
  rw [HG.out]
  unfold tmOf
  rw [HK.out]
  exact HS.out.leaf

set_option maxHeartbeats 4000000 in
theorem make_6 (s : PL) (ih : ∀ k ∈ s.kids, MkP k) (hk : plO s.op = 6) : MkP s := by
  intro cs w h hT
  obtain ⟨v, rfl, hr, ho, hwd, hnm⟩ := h.open
  obtain ⟨hn, a, cap, rfl, -⟩ := hr.at
  have hb1 := (Below.refl w.heap.size w).alloc (Nat.le_refl _) (.cells #[.int .i64 s.op, .int .i64 s.wd, .int .i64 s.num, .slice a s.kids.length cap] 24)
  have hPk := Blk.newAt (w := w) rfl #[.int .i64 s.op, .int .i64 s.wd, .int .i64 s.num, .slice a s.kids.length cap] 24
  have HPO := hide (planOp_any s _ _ (h.keep hb1))
  rw [hk, show ((6 : Nat) : Int) = 6 from rfl] at HPO
  have HG : Hid (s.tm = tmOf s.op s.wd s.num (s.kids.map PL.tm)) := by show _ = _; cases s; exact PL.tm_mk _ _ _ _
  have HK := hide hk
  have HT := hide hT
  have HWD := hide hwd
  have HNM := hide hnm
  have HPK := hide hPk
  have HB1 := hide hb1
  have HKD : Hid (∀ (i : Nat), i < 2 → ∀ W, Below w.heap.size w W → Calls Tryz.prog 42 #[PlVal [.int .i64 s.op, .int .i64 s.wd, .int .i64 s.num, .slice a s.kids.length cap], .int .i64 i] W fun e w' => ∃ p, e = .returned (PT p) ∧ TmAt w' p ((s.kids.map PL.tm).getD i hdA) ∧ Below W.heap.size W w') :=
    fun i hi W hW => pkidT_any s ih i hi _ W (h.keep hW) (hT.onS hW)
  have HWFK : Hid (∀ i, WfT ((s.kids.map PL.tm).getD i hdA)) := fun i => getD_wf (fun x hx => by obtain ⟨y, -, rfl⟩ := List.mem_map.1 hx; exact y.tm_wf) i
  clear h hr hT ho hwd hnm hk hb1 hPk hn ih
  unfold PlVal at HPO HKD ⊢
  go_enter Tryz.func14, Tryz.ntmps14
  go_wp2_with fail
  refine HPO.out.mono ?_
  rintro e w2 ⟨rfl, hb2⟩
  have hbl := (Below.refl w2.heap.size w2).alloc (Nat.le_refl _) (.cells #[.int .i64 6, .int .i64 0, .string ⟨#[]⟩, .pointer none, .string ⟨#[]⟩, .string ⟨#[]⟩, .slice none 0 0] 38)
  have hLW := HB1.out.trans (hb2.mono HB1.out.size)
  have HM : Hid (MkW w w2.heap.size w.heap.size #[.int .i64 s.op, .int .i64 s.wd, .int .i64 s.num, .slice a s.kids.length cap] (tmC 6 0 ⟨#[]⟩ ⟨#[]⟩ ⟨#[]⟩ (.pointer none) (.slice none 0 0)) none (w2.alloc (.cells #[.int .i64 6, .int .i64 0, .string ⟨#[]⟩, .pointer none, .string ⟨#[]⟩, .string ⟨#[]⟩, .slice none 0 0] 38))) :=
    ⟨Blk.newAt rfl _ _, (HPK.out.below hb2 HPK.out.lt).alloc _, fun p r e => by (cases e), hLW.size, hLW.trans (hbl.mono hLW.size)⟩
  have q1 := (HPK.out.below hb2 HPK.out.lt).cell 1
  have q2 := (HPK.out.below hb2 HPK.out.lt).cell 2
  have q0 := (HPK.out.below hb2 HPK.out.lt).cell 0
  have q3 := (HPK.out.below hb2 HPK.out.lt).cell 3
  simp only [List.getElem?_toArray, List.getElem?_cons_zero, List.getElem?_cons_succ] at q0 q1 q2 q3
  have hlt : w.heap.size < w2.heap.size := (HPK.out.below hb2 HPK.out.lt).lt
  clear hb2 hLW hbl HPO
  go_wp2_with fail
  obtain ⟨W, hWd⟩ : ∃ W, W = w2.alloc (.cells #[.int .i64 6, .int .i64 0, .string ⟨#[]⟩, .pointer none, .string ⟨#[]⟩, .string ⟨#[]⟩, .slice none 0 0] 38) := ⟨_, rfl⟩
  try rw [← hWd]
  rw [← hWd] at HM
  clear hWd q0 q1 q2 q3 hlt
  generalize w2.heap.size = b at *
  refine (planText_any s.num _).mono ?_
  rintro e W2 ⟨rfl, hb⟩
  have HM1 := hide (HM.out.call hb)
  have HS := hide (HM1.out.store 4 (.string (textN s.num)) (by intro p; simp [tmC, PT]))
  clear HM hb
  have HM := HM1
  clear HM1
  have p0 := HM.out.plan.cell 0
  have p1 := HM.out.plan.cell 1
  have p2 := HM.out.plan.cell 2
  have p3 := HM.out.plan.cell 3
  have pn := HM.out.ne
  have pn2 := Ne.symm HM.out.ne
  have k0 := HM.out.blk.cell 0
  have k1 := HM.out.blk.cell 1
  have k2 := HM.out.blk.cell 2
  have k3 := HM.out.blk.cell 3
  have k4 := HM.out.blk.cell 4
  have k5 := HM.out.blk.cell 5
  have k6 := HM.out.blk.cell 6
  have f2 := HM.out.blk.frozen 2
  have f3 := HM.out.blk.frozen 3
  have f4 := HM.out.blk.frozen 4
  have f5 := HM.out.blk.frozen 5
  have f6 := HM.out.blk.frozen 6
  simp only [tmC, List.setIfInBounds_toArray, List.set_cons_succ, List.set_cons_zero, List.getElem?_toArray, List.getElem?_cons_zero, List.getElem?_cons_succ] at p0 p1 p2 p3 k0 k1 k2 k3 k4 k5 k6
  go_wp2
  go_ret
  refine ⟨b, rfl, ?_, HS.out.below⟩
  rw [HG.out]
  unfold tmOf
  rw [HK.out]
  exact HS.out.leaf0

set_option maxHeartbeats 4000000 in
theorem make_9 (s : PL) (ih : ∀ k ∈ s.kids, MkP k) (hk : plO s.op = 9) : MkP s := by
  intro cs w h hT
  obtain ⟨v, rfl, hr, ho, hwd, hnm⟩ := h.open
  obtain ⟨hn, a, cap, rfl, -⟩ := hr.at
  have hb1 := (Below.refl w.heap.size w).alloc (Nat.le_refl _) (.cells #[.int .i64 s.op, .int .i64 s.wd, .int .i64 s.num, .slice a s.kids.length cap] 24)
  have hPk := Blk.newAt (w := w) rfl #[.int .i64 s.op, .int .i64 s.wd, .int .i64 s.num, .slice a s.kids.length cap] 24
  have HPO := hide (planOp_any s _ _ (h.keep hb1))
  rw [hk, show ((9 : Nat) : Int) = 9 from rfl] at HPO
  have HG : Hid (s.tm = tmOf s.op s.wd s.num (s.kids.map PL.tm)) := by show _ = _; cases s; exact PL.tm_mk _ _ _ _
  have HK := hide hk
  have HT := hide hT
  have HWD := hide hwd
  have HNM := hide hnm
  have HPK := hide hPk
  have HB1 := hide hb1
  have HKD : Hid (∀ (i : Nat), i < 2 → ∀ W, Below w.heap.size w W → Calls Tryz.prog 42 #[PlVal [.int .i64 s.op, .int .i64 s.wd, .int .i64 s.num, .slice a s.kids.length cap], .int .i64 i] W fun e w' => ∃ p, e = .returned (PT p) ∧ TmAt w' p ((s.kids.map PL.tm).getD i hdA) ∧ Below W.heap.size W w') :=
    fun i hi W hW => pkidT_any s ih i hi _ W (h.keep hW) (hT.onS hW)
  have HWFK : Hid (∀ i, WfT ((s.kids.map PL.tm).getD i hdA)) := fun i => getD_wf (fun x hx => by obtain ⟨y, -, rfl⟩ := List.mem_map.1 hx; exact y.tm_wf) i
  clear h hr hT ho hwd hnm hk hb1 hPk hn ih
  unfold PlVal at HPO HKD ⊢
  go_enter Tryz.func14, Tryz.ntmps14
  go_wp2_with fail
  refine HPO.out.mono ?_
  rintro e w2 ⟨rfl, hb2⟩
  have hbl := (Below.refl w2.heap.size w2).alloc (Nat.le_refl _) (.cells #[.int .i64 9, .int .i64 0, .string ⟨#[]⟩, .pointer none, .string ⟨#[]⟩, .string ⟨#[]⟩, .slice none 0 0] 38)
  have hLW := HB1.out.trans (hb2.mono HB1.out.size)
  have HM : Hid (MkW w w2.heap.size w.heap.size #[.int .i64 s.op, .int .i64 s.wd, .int .i64 s.num, .slice a s.kids.length cap] (tmC 9 0 ⟨#[]⟩ ⟨#[]⟩ ⟨#[]⟩ (.pointer none) (.slice none 0 0)) none (w2.alloc (.cells #[.int .i64 9, .int .i64 0, .string ⟨#[]⟩, .pointer none, .string ⟨#[]⟩, .string ⟨#[]⟩, .slice none 0 0] 38))) :=
    ⟨Blk.newAt rfl _ _, (HPK.out.below hb2 HPK.out.lt).alloc _, fun p r e => by (cases e), hLW.size, hLW.trans (hbl.mono hLW.size)⟩
  have q1 := (HPK.out.below hb2 HPK.out.lt).cell 1
  have q2 := (HPK.out.below hb2 HPK.out.lt).cell 2
  have q0 := (HPK.out.below hb2 HPK.out.lt).cell 0
  have q3 := (HPK.out.below hb2 HPK.out.lt).cell 3
  simp only [List.getElem?_toArray, List.getElem?_cons_zero, List.getElem?_cons_succ] at q0 q1 q2 q3
  have hlt : w.heap.size < w2.heap.size := (HPK.out.below hb2 HPK.out.lt).lt
  clear hb2 hLW hbl HPO
  go_wp2_with fail
  obtain ⟨W, hWd⟩ : ∃ W, W = w2.alloc (.cells #[.int .i64 9, .int .i64 0, .string ⟨#[]⟩, .pointer none, .string ⟨#[]⟩, .string ⟨#[]⟩, .slice none 0 0] 38) := ⟨_, rfl⟩
  try rw [← hWd]
  rw [← hWd] at HM
  clear hWd q0 q1 q2 q3 hlt
  generalize w2.heap.size = b at *
  have HKC := hide (HKD.out 0 (by omega) W HM.out.below)
  rw [show ((0 : Nat) : Int) = 0 from rfl] at HKC
  refine HKC.out.mono ?_
  rintro e W1 ⟨p, rfl, ht, hb⟩
  have HM1 := hide (HM.out.call hb)
  have hbl := (Below.refl W1.heap.size W1).alloc (Nat.le_refl _) (.cells #[PT p] 26)
  have HS := hide ((HM1.out.call hbl).kids (tmRow_one (Blk.newAt rfl _ _) (ht.keep hbl)) (by intro x hx; rw [List.mem_singleton] at hx; subst hx; exact HWFK.out 0) (by decide))
  have HSB : Hid (Below w.heap.size w (((W1.alloc (.cells #[PT p] 26))).setCell ⟨b, 6, none⟩ (.slice (some ⟨W1.heap.size, 0, none⟩) 1 1))) := ((HM1.out.call hbl).below).setCell HM1.out.low _
  clear HM hb HKC ht hbl
  have HM := HM1
  clear HM1
  have hbL := HM.out.blk.lt
  have p0 := HM.out.plan.cell 0
  have p1 := HM.out.plan.cell 1
  have p2 := HM.out.plan.cell 2
  have p3 := HM.out.plan.cell 3
  have pn := HM.out.ne
  have pn2 := Ne.symm HM.out.ne
  have k0 := HM.out.blk.cell 0
  have k1 := HM.out.blk.cell 1
  have k2 := HM.out.blk.cell 2
  have k3 := HM.out.blk.cell 3
  have k4 := HM.out.blk.cell 4
  have k5 := HM.out.blk.cell 5
  have k6 := HM.out.blk.cell 6
  have f2 := HM.out.blk.frozen 2
  have f3 := HM.out.blk.frozen 3
  have f4 := HM.out.blk.frozen 4
  have f5 := HM.out.blk.frozen 5
  have f6 := HM.out.blk.frozen 6
  simp only [tmC, List.setIfInBounds_toArray, List.set_cons_succ, List.set_cons_zero, List.getElem?_toArray, List.getElem?_cons_zero, List.getElem?_cons_succ] at p0 p1 p2 p3 k0 k1 k2 k3 k4 k5 k6
  unfold PT
  go_wp2
  go_ret
  refine ⟨b, rfl, ?_, ?_⟩
  · rw [HG.out]
    unfold tmOf
    rw [HK.out]
    have h := HS.out
    rw [alloc_setCell _ _ _ _ _ hbL] at h
    exact h
  · have h := HSB.out
    rw [alloc_setCell _ _ _ _ _ hbL] at h
    exact h

set_option maxHeartbeats 4000000 in
theorem make_12 (s : PL) (ih : ∀ k ∈ s.kids, MkP k) (hk : plO s.op = 12) : MkP s := by
  intro cs w h hT
  obtain ⟨v, rfl, hr, ho, hwd, hnm⟩ := h.open
  obtain ⟨hn, a, cap, rfl, -⟩ := hr.at
  have hb1 := (Below.refl w.heap.size w).alloc (Nat.le_refl _) (.cells #[.int .i64 s.op, .int .i64 s.wd, .int .i64 s.num, .slice a s.kids.length cap] 24)
  have hPk := Blk.newAt (w := w) rfl #[.int .i64 s.op, .int .i64 s.wd, .int .i64 s.num, .slice a s.kids.length cap] 24
  have HPO := hide (planOp_any s _ _ (h.keep hb1))
  rw [hk, show ((12 : Nat) : Int) = 12 from rfl] at HPO
  have HG : Hid (s.tm = tmOf s.op s.wd s.num (s.kids.map PL.tm)) := by show _ = _; cases s; exact PL.tm_mk _ _ _ _
  have HK := hide hk
  have HT := hide hT
  have HWD := hide hwd
  have HNM := hide hnm
  have HPK := hide hPk
  have HB1 := hide hb1
  have HKD : Hid (∀ (i : Nat), i < 2 → ∀ W, Below w.heap.size w W → Calls Tryz.prog 42 #[PlVal [.int .i64 s.op, .int .i64 s.wd, .int .i64 s.num, .slice a s.kids.length cap], .int .i64 i] W fun e w' => ∃ p, e = .returned (PT p) ∧ TmAt w' p ((s.kids.map PL.tm).getD i hdA) ∧ Below W.heap.size W w') :=
    fun i hi W hW => pkidT_any s ih i hi _ W (h.keep hW) (hT.onS hW)
  have HWFK : Hid (∀ i, WfT ((s.kids.map PL.tm).getD i hdA)) := fun i => getD_wf (fun x hx => by obtain ⟨y, -, rfl⟩ := List.mem_map.1 hx; exact y.tm_wf) i
  clear h hr hT ho hwd hnm hk hb1 hPk hn ih
  unfold PlVal at HPO HKD ⊢
  go_enter Tryz.func14, Tryz.ntmps14
  go_wp2_with fail
  refine HPO.out.mono ?_
  rintro e w2 ⟨rfl, hb2⟩
  have hbl := (Below.refl w2.heap.size w2).alloc (Nat.le_refl _) (.cells #[.int .i64 12, .int .i64 0, .string ⟨#[]⟩, .pointer none, .string ⟨#[]⟩, .string ⟨#[]⟩, .slice none 0 0] 38)
  have hLW := HB1.out.trans (hb2.mono HB1.out.size)
  have HM : Hid (MkW w w2.heap.size w.heap.size #[.int .i64 s.op, .int .i64 s.wd, .int .i64 s.num, .slice a s.kids.length cap] (tmC 12 0 ⟨#[]⟩ ⟨#[]⟩ ⟨#[]⟩ (.pointer none) (.slice none 0 0)) none (w2.alloc (.cells #[.int .i64 12, .int .i64 0, .string ⟨#[]⟩, .pointer none, .string ⟨#[]⟩, .string ⟨#[]⟩, .slice none 0 0] 38))) :=
    ⟨Blk.newAt rfl _ _, (HPK.out.below hb2 HPK.out.lt).alloc _, fun p r e => by (cases e), hLW.size, hLW.trans (hbl.mono hLW.size)⟩
  have q1 := (HPK.out.below hb2 HPK.out.lt).cell 1
  have q2 := (HPK.out.below hb2 HPK.out.lt).cell 2
  have q0 := (HPK.out.below hb2 HPK.out.lt).cell 0
  have q3 := (HPK.out.below hb2 HPK.out.lt).cell 3
  simp only [List.getElem?_toArray, List.getElem?_cons_zero, List.getElem?_cons_succ] at q0 q1 q2 q3
  have hlt : w.heap.size < w2.heap.size := (HPK.out.below hb2 HPK.out.lt).lt
  clear hb2 hLW hbl HPO
  go_wp2_with fail
  obtain ⟨W, hWd⟩ : ∃ W, W = w2.alloc (.cells #[.int .i64 12, .int .i64 0, .string ⟨#[]⟩, .pointer none, .string ⟨#[]⟩, .string ⟨#[]⟩, .slice none 0 0] 38) := ⟨_, rfl⟩
  try rw [← hWd]
  rw [← hWd] at HM
  clear hWd q0 q1 q2 q3 hlt
  generalize w2.heap.size = b at *
  have HKC := hide (HKD.out 0 (by omega) W HM.out.below)
  rw [show ((0 : Nat) : Int) = 0 from rfl] at HKC
  refine HKC.out.mono ?_
  rintro e W1 ⟨p, rfl, ht, hb⟩
  have HM1 := hide (HM.out.call hb)
  have hbl := (Below.refl W1.heap.size W1).alloc (Nat.le_refl _) (.cells #[PT p] 26)
  have HS := hide ((HM1.out.call hbl).kids (tmRow_one (Blk.newAt rfl _ _) (ht.keep hbl)) (by intro x hx; rw [List.mem_singleton] at hx; subst hx; exact HWFK.out 0) (by decide))
  have HSB : Hid (Below w.heap.size w (((W1.alloc (.cells #[PT p] 26))).setCell ⟨b, 6, none⟩ (.slice (some ⟨W1.heap.size, 0, none⟩) 1 1))) := ((HM1.out.call hbl).below).setCell HM1.out.low _
  clear HM hb HKC ht hbl
  have HM := HM1
  clear HM1
  have hbL := HM.out.blk.lt
  have p0 := HM.out.plan.cell 0
  have p1 := HM.out.plan.cell 1
  have p2 := HM.out.plan.cell 2
  have p3 := HM.out.plan.cell 3
  have pn := HM.out.ne
  have pn2 := Ne.symm HM.out.ne
  have k0 := HM.out.blk.cell 0
  have k1 := HM.out.blk.cell 1
  have k2 := HM.out.blk.cell 2
  have k3 := HM.out.blk.cell 3
  have k4 := HM.out.blk.cell 4
  have k5 := HM.out.blk.cell 5
  have k6 := HM.out.blk.cell 6
  have f2 := HM.out.blk.frozen 2
  have f3 := HM.out.blk.frozen 3
  have f4 := HM.out.blk.frozen 4
  have f5 := HM.out.blk.frozen 5
  have f6 := HM.out.blk.frozen 6
  simp only [tmC, List.setIfInBounds_toArray, List.set_cons_succ, List.set_cons_zero, List.getElem?_toArray, List.getElem?_cons_zero, List.getElem?_cons_succ] at p0 p1 p2 p3 k0 k1 k2 k3 k4 k5 k6
  unfold PT
  go_wp2
  go_ret
  refine ⟨b, rfl, ?_, ?_⟩
  · rw [HG.out]
    unfold tmOf
    rw [HK.out]
    have h := HS.out
    rw [alloc_setCell _ _ _ _ _ hbL] at h
    exact h
  · have h := HSB.out
    rw [alloc_setCell _ _ _ _ _ hbL] at h
    exact h

set_option maxHeartbeats 4000000 in
theorem make_13 (s : PL) (ih : ∀ k ∈ s.kids, MkP k) (hk : plO s.op = 13) : MkP s := by
  intro cs w h hT
  obtain ⟨v, rfl, hr, ho, hwd, hnm⟩ := h.open
  obtain ⟨hn, a, cap, rfl, -⟩ := hr.at
  have hb1 := (Below.refl w.heap.size w).alloc (Nat.le_refl _) (.cells #[.int .i64 s.op, .int .i64 s.wd, .int .i64 s.num, .slice a s.kids.length cap] 24)
  have hPk := Blk.newAt (w := w) rfl #[.int .i64 s.op, .int .i64 s.wd, .int .i64 s.num, .slice a s.kids.length cap] 24
  have HPO := hide (planOp_any s _ _ (h.keep hb1))
  rw [hk, show ((13 : Nat) : Int) = 13 from rfl] at HPO
  have HG : Hid (s.tm = tmOf s.op s.wd s.num (s.kids.map PL.tm)) := by show _ = _; cases s; exact PL.tm_mk _ _ _ _
  have HK := hide hk
  have HT := hide hT
  have HWD := hide hwd
  have HNM := hide hnm
  have HPK := hide hPk
  have HB1 := hide hb1
  have HKD : Hid (∀ (i : Nat), i < 2 → ∀ W, Below w.heap.size w W → Calls Tryz.prog 42 #[PlVal [.int .i64 s.op, .int .i64 s.wd, .int .i64 s.num, .slice a s.kids.length cap], .int .i64 i] W fun e w' => ∃ p, e = .returned (PT p) ∧ TmAt w' p ((s.kids.map PL.tm).getD i hdA) ∧ Below W.heap.size W w') :=
    fun i hi W hW => pkidT_any s ih i hi _ W (h.keep hW) (hT.onS hW)
  have HWFK : Hid (∀ i, WfT ((s.kids.map PL.tm).getD i hdA)) := fun i => getD_wf (fun x hx => by obtain ⟨y, -, rfl⟩ := List.mem_map.1 hx; exact y.tm_wf) i
  clear h hr hT ho hwd hnm hk hb1 hPk hn ih
  unfold PlVal at HPO HKD ⊢
  go_enter Tryz.func14, Tryz.ntmps14
  go_wp2_with fail
  refine HPO.out.mono ?_
  rintro e w2 ⟨rfl, hb2⟩
  have hbl := (Below.refl w2.heap.size w2).alloc (Nat.le_refl _) (.cells #[.int .i64 13, .int .i64 0, .string ⟨#[]⟩, .pointer none, .string ⟨#[]⟩, .string ⟨#[]⟩, .slice none 0 0] 38)
  have hLW := HB1.out.trans (hb2.mono HB1.out.size)
  have HM : Hid (MkW w w2.heap.size w.heap.size #[.int .i64 s.op, .int .i64 s.wd, .int .i64 s.num, .slice a s.kids.length cap] (tmC 13 0 ⟨#[]⟩ ⟨#[]⟩ ⟨#[]⟩ (.pointer none) (.slice none 0 0)) none (w2.alloc (.cells #[.int .i64 13, .int .i64 0, .string ⟨#[]⟩, .pointer none, .string ⟨#[]⟩, .string ⟨#[]⟩, .slice none 0 0] 38))) :=
    ⟨Blk.newAt rfl _ _, (HPK.out.below hb2 HPK.out.lt).alloc _, fun p r e => by (cases e), hLW.size, hLW.trans (hbl.mono hLW.size)⟩
  have q1 := (HPK.out.below hb2 HPK.out.lt).cell 1
  have q2 := (HPK.out.below hb2 HPK.out.lt).cell 2
  have q0 := (HPK.out.below hb2 HPK.out.lt).cell 0
  have q3 := (HPK.out.below hb2 HPK.out.lt).cell 3
  simp only [List.getElem?_toArray, List.getElem?_cons_zero, List.getElem?_cons_succ] at q0 q1 q2 q3
  have hlt : w.heap.size < w2.heap.size := (HPK.out.below hb2 HPK.out.lt).lt
  clear hb2 hLW hbl HPO
  go_wp2_with fail
  obtain ⟨W, hWd⟩ : ∃ W, W = w2.alloc (.cells #[.int .i64 13, .int .i64 0, .string ⟨#[]⟩, .pointer none, .string ⟨#[]⟩, .string ⟨#[]⟩, .slice none 0 0] 38) := ⟨_, rfl⟩
  try rw [← hWd]
  rw [← hWd] at HM
  clear hWd q0 q1 q2 q3 hlt
  generalize w2.heap.size = b at *
  have HKC := hide (HKD.out 0 (by omega) W HM.out.below)
  rw [show ((0 : Nat) : Int) = 0 from rfl] at HKC
  refine HKC.out.mono ?_
  rintro e W1 ⟨p, rfl, ht, hb⟩
  have HM1 := hide (HM.out.call hb)
  have hbl := (Below.refl W1.heap.size W1).alloc (Nat.le_refl _) (.cells #[PT p] 26)
  have HS := hide ((HM1.out.call hbl).kids (tmRow_one (Blk.newAt rfl _ _) (ht.keep hbl)) (by intro x hx; rw [List.mem_singleton] at hx; subst hx; exact HWFK.out 0) (by decide))
  have HSB : Hid (Below w.heap.size w (((W1.alloc (.cells #[PT p] 26))).setCell ⟨b, 6, none⟩ (.slice (some ⟨W1.heap.size, 0, none⟩) 1 1))) := ((HM1.out.call hbl).below).setCell HM1.out.low _
  clear HM hb HKC ht hbl
  have HM := HM1
  clear HM1
  have hbL := HM.out.blk.lt
  have p0 := HM.out.plan.cell 0
  have p1 := HM.out.plan.cell 1
  have p2 := HM.out.plan.cell 2
  have p3 := HM.out.plan.cell 3
  have pn := HM.out.ne
  have pn2 := Ne.symm HM.out.ne
  have k0 := HM.out.blk.cell 0
  have k1 := HM.out.blk.cell 1
  have k2 := HM.out.blk.cell 2
  have k3 := HM.out.blk.cell 3
  have k4 := HM.out.blk.cell 4
  have k5 := HM.out.blk.cell 5
  have k6 := HM.out.blk.cell 6
  have f2 := HM.out.blk.frozen 2
  have f3 := HM.out.blk.frozen 3
  have f4 := HM.out.blk.frozen 4
  have f5 := HM.out.blk.frozen 5
  have f6 := HM.out.blk.frozen 6
  simp only [tmC, List.setIfInBounds_toArray, List.set_cons_succ, List.set_cons_zero, List.getElem?_toArray, List.getElem?_cons_zero, List.getElem?_cons_succ] at p0 p1 p2 p3 k0 k1 k2 k3 k4 k5 k6
  unfold PT
  go_wp2
  go_ret
  refine ⟨b, rfl, ?_, ?_⟩
  · rw [HG.out]
    unfold tmOf
    rw [HK.out]
    have h := HS.out
    rw [alloc_setCell _ _ _ _ _ hbL] at h
    exact h
  · have h := HSB.out
    rw [alloc_setCell _ _ _ _ _ hbL] at h
    exact h
end Go.Proofs.YtblpekljiilkjaaGreatDoor
