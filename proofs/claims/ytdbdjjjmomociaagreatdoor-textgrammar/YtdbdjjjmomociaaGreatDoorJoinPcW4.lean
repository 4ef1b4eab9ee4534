/- Texts of this claim put together: PcW2, PcW3, PcW4. -/
import Derived.Test.YtdbdjjjmomociaaGreatDoorJoinPcW1
/- Pieces: Write, the cases 0, 1, 2. -/
namespace Go.Proofs.YtdbdjjjmomociaaGreatDoor
set_option maxRecDepth 100000
set_option linter.unusedSimpArgs false
set_option linter.unusedVariables false
open Go.RowKit Go.Shelf
set_option maxHeartbeats 4000000 in
theorem pwrite_0 (s : PC) (hk : s.k = 0) (h0 : WrOk (s.kid 0)) (z0 : Small (s.kid 0)) (h1 : WrOk (s.kid 1)) (z1 : Small (s.kid 1)) : WrOk s := by
  intro cs w h hT
  have HC := hide h
  have HT := hide hT
  have HW0 := hide h0
  have HZ0 := hide z0
  clear h0 z0
  have HW1 := hide h1
  have HZ1 := hide z1
  clear h1 z1
  obtain ⟨v, hcs, hr, ho, hgb, ha, hb⟩ := h.open
  obtain ⟨hn, a, cap, rfl, -⟩ := hr.at
  have hv0 : PcVal cs = .agg #[.int .i64 s.op, .int .i64 s.gap, .int .u8 s.a, .int .u8 s.b, .slice a s.kids.length cap] := by rw [hcs]; rfl
  have HV0 := hide hv0
  rw [hv0]
  clear h hT hr hv0 hcs
  obtain ⟨g, hg4, hgap⟩ : ∃ g : Nat, g < 4 ∧ bits .and .i64 s.gap 3 = (g : Int) := ⟨s.g, s.g_lt, by rw [i64_and3P]; unfold PC.g; omega⟩
  have HG : Hid (g = s.g) := by
    have h2 : bits .and .i64 s.gap 3 = (s.g : Int) := by rw [i64_and3P]; unfold PC.g; omega
    show g = s.g; omega
  have hA7 := u8_and7 s.a ha
  have hB3 := u8_and3P s.b hb
  have hLo : IntKind.u8.wrap (97 + ((s.a % 8 : Nat) : Int)) = ((97 + s.a % 8 : Nat) : Int) := by simp [IntKind.wrap, IntKind.signed, IntKind.bits]; omega
  have hHi : IntKind.u8.wrap (((97 + s.a % 8 : Nat) : Int) + ((s.b % 4 : Nat) : Int)) = ((97 + s.a % 8 + s.b % 4 : Nat) : Int) := by simp [IntKind.wrap, IntKind.signed, IntKind.bits]; omega
  have HWR : Hid (s.wr = pcW 0 g (97 + s.a % 8) (97 + s.a % 8 + s.b % 4) (s.kid 0).wr (s.kid 1).wr) := by rw [s.wr_kid, hk, HG.out]; rfl
  obtain ⟨B, hB⟩ : ∃ B, B = w.heap.size := ⟨_, rfl⟩
  obtain ⟨w0, hw0⟩ : ∃ w0, w0 = w.alloc (.cells (pcC s a cap) 35) := ⟨_, rfl⟩
  have hO0 : OneP w B s a cap w0 := by rw [hw0]; exact ⟨(Below.refl _ _).alloc (Nat.le_of_eq hB) _, Blk.newAt hB _ _⟩
  have ew0 := hw0.symm
  unfold pcC at ew0
  obtain ⟨w1, hw1⟩ : ∃ w1, w1 = w0.alloc (.cells gapC 9) := ⟨_, rfl⟩
  have hO1 : OneP w B s a cap w1 := by rw [hw1]; exact hO0.step ((Below.refl _ _).alloc (Nat.le_refl _) _)
  have cg : w1.cell? ⟨w0.heap.size, g, none⟩ = some (.string (strB (gapT g))) := by rw [hw1]; exact ((Blk.new w0 gapC 9).cell g).trans (gapC_at g hg4)
  have ew1 := hw1.symm
  unfold gapC at ew1
  have HO1 := hide hO1
  have HB := hide hB
  have x1 : w1.cell? ⟨w.heap.size, 1, none⟩ = some (.int .i64 s.gap) := hB ▸ hO1.cells.2.1
  clear hB
  obtain ⟨gs, hgs⟩ : ∃ gs, gs = strB (gapT g) := ⟨_, rfl⟩
  have hgsz : gs.size ≤ 2 := by rw [hgs, strB_size]; exact gapT_len g
  rw [← hgs] at cg
  have HGS := hide hgs
  have HG4 := hide hg4
  clear hw0 hw1 hO0 hO1 hgs
  go_enter Tryz.func16, Tryz.ntmps16
  go_wp2_with fail
  refine (nothing_any w1).mono ?_
  rintro e w2 ⟨n1, rfl, hn1, hb1⟩
  have HO2 := hide (HO1.out.step hb1)
  clear hn1 hb1 cg ew0 ew1 x1 HO1
  unfold PT
  go_wp2_with fail
  refine (nothing_any w2).mono ?_
  rintro e w3 ⟨n2, rfl, hn2, hb2⟩
  have HO3 := hide (HO2.out.step hb2)
  clear hn2 hb2 HO2
  unfold PT
  rw [← HB.out]
  obtain ⟨x0, x1, x2, x3, x4⟩ := HO3.out.cells
  have hop := pop_any s cs w3 (HC.out.keep (HB.out ▸ HO3.out.below))
  rw [HV0.out, hk] at hop
  have HOP := hide hop
  clear hop
  go_wp2_with fail
  refine HOP.out.mono ?_
  rintro e w4 ⟨rfl, hb⟩
  have HO4 := hide (HO3.out.step hb)
  clear hb HO3 HOP x0 x1 x2 x3 x4
  obtain ⟨x0, x1, x2, x3, x4⟩ := HO4.out.cells
  have hkd := pkid_any s 0 (by decide) cs w4 (HC.out.keep (HB.out ▸ HO4.out.below))
  rw [HV0.out] at hkd
  have HKD := hide hkd
  clear hkd
  go_wp2_with fail
  refine HKD.out.mono ?_
  rintro e w5 ⟨cs0, rfl, hcs0, hb⟩
  have HO5 := hide (HO4.out.step hb)
  have HCS := hide hcs0
  clear hb hcs0 HO4 HKD x0 x1 x2 x3 x4
  go_wp2_with fail
  refine (HW0.out cs0 w5 HCS.out (HT.out.pastE (HB.out ▸ HO5.out.below))).mono ?_
  rintro e w6 ⟨b0, rfl, hr0, hb⟩
  have HO6 := hide (HO5.out.step hb)
  have HR0 := hide hr0
  clear hb hr0 HO5 HCS
  obtain ⟨t0, ht0⟩ : ∃ t, t = strB (s.kid 0).wr.t := ⟨_, rfl⟩
  have hz0 : t0.size ≤ 400 := by rw [ht0]; exact HZ0.out.len
  rw [← ht0]
  have HT0 := hide ht0
  clear ht0
  unfold PT
  obtain ⟨x0, x1, x2, x3, x4⟩ := HO6.out.cells
  have hop := pop_any s cs w6 (HC.out.keep (HB.out ▸ HO6.out.below))
  rw [HV0.out, hk] at hop
  have HOP := hide hop
  clear hop
  go_wp2_with fail
  refine HOP.out.mono ?_
  rintro e w7 ⟨rfl, hb⟩
  have HO7 := hide (HO6.out.step hb)
  have HR0n := hide (HR0.out.keep hb)
  clear HR0
  have HR0 := HR0n
  clear HR0n
  clear hb HO6 HOP x0 x1 x2 x3 x4
  obtain ⟨x0, x1, x2, x3, x4⟩ := HO7.out.cells
  have hkd := pkid_any s 1 (by decide) cs w7 (HC.out.keep (HB.out ▸ HO7.out.below))
  rw [HV0.out] at hkd
  have HKD := hide hkd
  clear hkd
  go_wp2_with fail
  refine HKD.out.mono ?_
  rintro e w8 ⟨cs1, rfl, hcs1, hb⟩
  have HO8 := hide (HO7.out.step hb)
  have HCS := hide hcs1
  have HR0n := hide (HR0.out.keep hb)
  clear HR0
  have HR0 := HR0n
  clear HR0n
  clear hb hcs1 HO7 HKD x0 x1 x2 x3 x4
  go_wp2_with fail
  refine (HW1.out cs1 w8 HCS.out (HT.out.pastE (HB.out ▸ HO8.out.below))).mono ?_
  rintro e w9 ⟨b1, rfl, hr1, hb⟩
  have HO9 := hide (HO8.out.step hb)
  have HR0n := hide (HR0.out.keep hb)
  clear HR0
  have HR0 := HR0n
  clear HR0n
  have HR1 := hide hr1
  clear hb hr1 HO8 HCS
  obtain ⟨t1, ht1⟩ : ∃ t, t = strB (s.kid 1).wr.t := ⟨_, rfl⟩
  have hz1 : t1.size ≤ 400 := by rw [ht1]; exact HZ1.out.len
  rw [← ht1]
  have HT1 := hide ht1
  clear ht1
  unfold PT
  obtain ⟨x0, x1, x2, x3, x4⟩ := HO9.out.cells
  have hop := pop_any s cs w9 (HC.out.keep (HB.out ▸ HO9.out.below))
  rw [HV0.out, hk] at hop
  have HOP := hide hop
  clear hop
  go_wp2_with fail
  refine HOP.out.mono ?_
  rintro e w10 ⟨rfl, hb⟩
  have HO10 := hide (HO9.out.step hb)
  have HR0n := hide (HR0.out.keep hb)
  clear HR0
  have HR0 := HR0n
  clear HR0n
  have HR1n := hide (HR1.out.keep hb)
  clear HR1
  have HR1 := HR1n
  clear HR1n
  clear hb HO9 HOP x0 x1 x2 x3 x4
  go_wp2_with fail
  all_goals try (exfalso; simp only [ByteArray.size_append] at *; omega)
  refine (any_re [(s.kid 0).wr.x, (s.kid 1).wr.x] _ _ (resRow_two (Blk.new w10 #[PT b0, PT b1] 23) (HR0.out.keep (ab w10 _)) (HR1.out.keep (ab w10 _))) (wf_two HZ0.out.wf HZ1.out.wf) (by simp) (flat_len2 4 HZ0.out.cnt (by have := HZ1.out.cnt; omega)) (HT.out.pastE (HB.out ▸ (HO10.out.step (ab w10 _)).below))).mono ?_
  rintro e w11 ⟨bz, rfl, hrz, hb⟩
  have HO11 := hide ((HO10.out.step (ab w10 _)).step hb)
  have HRZ := hide hrz
  clear hb HO10 hrz
  unfold PT
  go_wp2
  all_goals try (exfalso; simp only [ByteArray.size_append] at *; omega)
  go_ret2
  have hs : gs ++ ⟨#[40]⟩ ++ t0 ++ gs ++ ⟨#[124]⟩ ++ t1 ++ ⟨#[41]⟩ = strB s.wr.t := by
    rw [HWR.out, HGS.out, HT0.out, HT1.out]
    show strB (gapT g) ++ strB [40] ++ strB (s.kid 0).wr.t ++ strB (gapT g) ++ strB [124] ++ strB (s.kid 1).wr.t ++ strB [41] = strB _
    simp only [← strB_append]
    congr 1 <;> simp [pcW]
  rw [← hs]
  exact ⟨bz, rfl, by rw [HWR.out]; exact HRZ.out, HB.out ▸ HO11.out.below⟩
set_option maxHeartbeats 4000000 in
theorem pwrite_1 (s : PC) (hk : s.k = 1) (h0 : WrOk (s.kid 0)) (z0 : Small (s.kid 0)) (h1 : WrOk (s.kid 1)) (z1 : Small (s.kid 1)) : WrOk s := by
  intro cs w h hT
  have HC := hide h
  have HT := hide hT
  have HW0 := hide h0
  have HZ0 := hide z0
  clear h0 z0
  have HW1 := hide h1
  have HZ1 := hide z1
  clear h1 z1
  obtain ⟨v, hcs, hr, ho, hgb, ha, hb⟩ := h.open
  obtain ⟨hn, a, cap, rfl, -⟩ := hr.at
  have hv0 : PcVal cs = .agg #[.int .i64 s.op, .int .i64 s.gap, .int .u8 s.a, .int .u8 s.b, .slice a s.kids.length cap] := by rw [hcs]; rfl
  have HV0 := hide hv0
  rw [hv0]
  clear h hT hr hv0 hcs
  obtain ⟨g, hg4, hgap⟩ : ∃ g : Nat, g < 4 ∧ bits .and .i64 s.gap 3 = (g : Int) := ⟨s.g, s.g_lt, by rw [i64_and3P]; unfold PC.g; omega⟩
  have HG : Hid (g = s.g) := by
    have h2 : bits .and .i64 s.gap 3 = (s.g : Int) := by rw [i64_and3P]; unfold PC.g; omega
    show g = s.g; omega
  have hA7 := u8_and7 s.a ha
  have hB3 := u8_and3P s.b hb
  have hLo : IntKind.u8.wrap (97 + ((s.a % 8 : Nat) : Int)) = ((97 + s.a % 8 : Nat) : Int) := by simp [IntKind.wrap, IntKind.signed, IntKind.bits]; omega
  have hHi : IntKind.u8.wrap (((97 + s.a % 8 : Nat) : Int) + ((s.b % 4 : Nat) : Int)) = ((97 + s.a % 8 + s.b % 4 : Nat) : Int) := by simp [IntKind.wrap, IntKind.signed, IntKind.bits]; omega
  have HWR : Hid (s.wr = pcW 1 g (97 + s.a % 8) (97 + s.a % 8 + s.b % 4) (s.kid 0).wr (s.kid 1).wr) := by rw [s.wr_kid, hk, HG.out]; rfl
  obtain ⟨B, hB⟩ : ∃ B, B = w.heap.size := ⟨_, rfl⟩
  obtain ⟨w0, hw0⟩ : ∃ w0, w0 = w.alloc (.cells (pcC s a cap) 35) := ⟨_, rfl⟩
  have hO0 : OneP w B s a cap w0 := by rw [hw0]; exact ⟨(Below.refl _ _).alloc (Nat.le_of_eq hB) _, Blk.newAt hB _ _⟩
  have ew0 := hw0.symm
  unfold pcC at ew0
  obtain ⟨w1, hw1⟩ : ∃ w1, w1 = w0.alloc (.cells gapC 9) := ⟨_, rfl⟩
  have hO1 : OneP w B s a cap w1 := by rw [hw1]; exact hO0.step ((Below.refl _ _).alloc (Nat.le_refl _) _)
  have cg : w1.cell? ⟨w0.heap.size, g, none⟩ = some (.string (strB (gapT g))) := by rw [hw1]; exact ((Blk.new w0 gapC 9).cell g).trans (gapC_at g hg4)
  have ew1 := hw1.symm
  unfold gapC at ew1
  have HO1 := hide hO1
  have HB := hide hB
  have x1 : w1.cell? ⟨w.heap.size, 1, none⟩ = some (.int .i64 s.gap) := hB ▸ hO1.cells.2.1
  clear hB
  obtain ⟨gs, hgs⟩ : ∃ gs, gs = strB (gapT g) := ⟨_, rfl⟩
  have hgsz : gs.size ≤ 2 := by rw [hgs, strB_size]; exact gapT_len g
  rw [← hgs] at cg
  have HGS := hide hgs
  have HG4 := hide hg4
  clear hw0 hw1 hO0 hO1 hgs
  go_enter Tryz.func16, Tryz.ntmps16
  go_wp2_with fail
  refine (nothing_any w1).mono ?_
  rintro e w2 ⟨n1, rfl, hn1, hb1⟩
  have HO2 := hide (HO1.out.step hb1)
  clear hn1 hb1 cg ew0 ew1 x1 HO1
  unfold PT
  go_wp2_with fail
  refine (nothing_any w2).mono ?_
  rintro e w3 ⟨n2, rfl, hn2, hb2⟩
  have HO3 := hide (HO2.out.step hb2)
  clear hn2 hb2 HO2
  unfold PT
  rw [← HB.out]
  obtain ⟨x0, x1, x2, x3, x4⟩ := HO3.out.cells
  have hop := pop_any s cs w3 (HC.out.keep (HB.out ▸ HO3.out.below))
  rw [HV0.out, hk] at hop
  have HOP := hide hop
  clear hop
  go_wp2_with fail
  refine HOP.out.mono ?_
  rintro e w4 ⟨rfl, hb⟩
  have HO4 := hide (HO3.out.step hb)
  clear hb HO3 HOP x0 x1 x2 x3 x4
  obtain ⟨x0, x1, x2, x3, x4⟩ := HO4.out.cells
  have hkd := pkid_any s 0 (by decide) cs w4 (HC.out.keep (HB.out ▸ HO4.out.below))
  rw [HV0.out] at hkd
  have HKD := hide hkd
  clear hkd
  go_wp2_with fail
  refine HKD.out.mono ?_
  rintro e w5 ⟨cs0, rfl, hcs0, hb⟩
  have HO5 := hide (HO4.out.step hb)
  have HCS := hide hcs0
  clear hb hcs0 HO4 HKD x0 x1 x2 x3 x4
  go_wp2_with fail
  refine (HW0.out cs0 w5 HCS.out (HT.out.pastE (HB.out ▸ HO5.out.below))).mono ?_
  rintro e w6 ⟨b0, rfl, hr0, hb⟩
  have HO6 := hide (HO5.out.step hb)
  have HR0 := hide hr0
  clear hb hr0 HO5 HCS
  obtain ⟨t0, ht0⟩ : ∃ t, t = strB (s.kid 0).wr.t := ⟨_, rfl⟩
  have hz0 : t0.size ≤ 400 := by rw [ht0]; exact HZ0.out.len
  rw [← ht0]
  have HT0 := hide ht0
  clear ht0
  unfold PT
  obtain ⟨x0, x1, x2, x3, x4⟩ := HO6.out.cells
  have hop := pop_any s cs w6 (HC.out.keep (HB.out ▸ HO6.out.below))
  rw [HV0.out, hk] at hop
  have HOP := hide hop
  clear hop
  go_wp2_with fail
  refine HOP.out.mono ?_
  rintro e w7 ⟨rfl, hb⟩
  have HO7 := hide (HO6.out.step hb)
  have HR0n := hide (HR0.out.keep hb)
  clear HR0
  have HR0 := HR0n
  clear HR0n
  clear hb HO6 HOP x0 x1 x2 x3 x4
  obtain ⟨x0, x1, x2, x3, x4⟩ := HO7.out.cells
  have hkd := pkid_any s 1 (by decide) cs w7 (HC.out.keep (HB.out ▸ HO7.out.below))
  rw [HV0.out] at hkd
  have HKD := hide hkd
  clear hkd
  go_wp2_with fail
  refine HKD.out.mono ?_
  rintro e w8 ⟨cs1, rfl, hcs1, hb⟩
  have HO8 := hide (HO7.out.step hb)
  have HCS := hide hcs1
  have HR0n := hide (HR0.out.keep hb)
  clear HR0
  have HR0 := HR0n
  clear HR0n
  clear hb hcs1 HO7 HKD x0 x1 x2 x3 x4
  go_wp2_with fail
  refine (HW1.out cs1 w8 HCS.out (HT.out.pastE (HB.out ▸ HO8.out.below))).mono ?_
  rintro e w9 ⟨b1, rfl, hr1, hb⟩
  have HO9 := hide (HO8.out.step hb)
  have HR0n := hide (HR0.out.keep hb)
  clear HR0
  have HR0 := HR0n
  clear HR0n
  have HR1 := hide hr1
  clear hb hr1 HO8 HCS
  obtain ⟨t1, ht1⟩ : ∃ t, t = strB (s.kid 1).wr.t := ⟨_, rfl⟩
  have hz1 : t1.size ≤ 400 := by rw [ht1]; exact HZ1.out.len
  rw [← ht1]
  have HT1 := hide ht1
  clear ht1
  unfold PT
  obtain ⟨x0, x1, x2, x3, x4⟩ := HO9.out.cells
  have hop := pop_any s cs w9 (HC.out.keep (HB.out ▸ HO9.out.below))
  rw [HV0.out, hk] at hop
  have HOP := hide hop
  clear hop
  go_wp2_with fail
  refine HOP.out.mono ?_
  rintro e w10 ⟨rfl, hb⟩
  have HO10 := hide (HO9.out.step hb)
  have HR0n := hide (HR0.out.keep hb)
  clear HR0
  have HR0 := HR0n
  clear HR0n
  have HR1n := hide (HR1.out.keep hb)
  clear HR1
  have HR1 := HR1n
  clear HR1n
  clear hb HO9 HOP x0 x1 x2 x3 x4
  go_wp2_with fail
  all_goals try (exfalso; simp only [ByteArray.size_append] at *; omega)
  refine (but_any b0 b1 _ _ w10 HR0.out HR1.out HZ0.out.wf.k HZ1.out.wf.k (HT.out.pastE (HB.out ▸ HO10.out.below))).mono ?_
  rintro e w11 ⟨bz, rfl, hrz, hb⟩
  have HO11 := hide (HO10.out.step hb)
  have HRZ := hide hrz
  clear hrz
  clear hb HO10
  unfold PT
  go_wp2
  all_goals try (exfalso; simp only [ByteArray.size_append] at *; omega)
  go_ret2
  have hs : gs ++ ⟨#[40]⟩ ++ t0 ++ ⟨#[45]⟩ ++ t1 ++ gs ++ ⟨#[41]⟩ = strB s.wr.t := by
    rw [HWR.out, HGS.out, HT0.out, HT1.out]
    show strB (gapT g) ++ strB [40] ++ strB (s.kid 0).wr.t ++ strB [45] ++ strB (s.kid 1).wr.t ++ strB (gapT g) ++ strB [41] = strB _
    simp only [← strB_append]
    congr 1 <;> simp [pcW]
  rw [← hs]
  exact ⟨bz, rfl, by rw [HWR.out]; exact HRZ.out, HB.out ▸ HO11.out.below⟩
set_option maxHeartbeats 4000000 in
theorem pwrite_2 (s : PC) (hk : s.k = 2) (h0 : WrOk (s.kid 0)) (z0 : Small (s.kid 0)) (h1 : WrOk (s.kid 1)) (z1 : Small (s.kid 1)) : WrOk s := by
  intro cs w h hT
  have HC := hide h
  have HT := hide hT
  have HW0 := hide h0
  have HZ0 := hide z0
  clear h0 z0
  have HW1 := hide h1
  have HZ1 := hide z1
  clear h1 z1
  obtain ⟨v, hcs, hr, ho, hgb, ha, hb⟩ := h.open
  obtain ⟨hn, a, cap, rfl, -⟩ := hr.at
  have hv0 : PcVal cs = .agg #[.int .i64 s.op, .int .i64 s.gap, .int .u8 s.a, .int .u8 s.b, .slice a s.kids.length cap] := by rw [hcs]; rfl
  have HV0 := hide hv0
  rw [hv0]
  clear h hT hr hv0 hcs
  obtain ⟨g, hg4, hgap⟩ : ∃ g : Nat, g < 4 ∧ bits .and .i64 s.gap 3 = (g : Int) := ⟨s.g, s.g_lt, by rw [i64_and3P]; unfold PC.g; omega⟩
  have HG : Hid (g = s.g) := by
    have h2 : bits .and .i64 s.gap 3 = (s.g : Int) := by rw [i64_and3P]; unfold PC.g; omega
    show g = s.g; omega
  have hA7 := u8_and7 s.a ha
  have hB3 := u8_and3P s.b hb
  have hLo : IntKind.u8.wrap (97 + ((s.a % 8 : Nat) : Int)) = ((97 + s.a % 8 : Nat) : Int) := by simp [IntKind.wrap, IntKind.signed, IntKind.bits]; omega
  have hHi : IntKind.u8.wrap (((97 + s.a % 8 : Nat) : Int) + ((s.b % 4 : Nat) : Int)) = ((97 + s.a % 8 + s.b % 4 : Nat) : Int) := by simp [IntKind.wrap, IntKind.signed, IntKind.bits]; omega
  have HWR : Hid (s.wr = pcW 2 g (97 + s.a % 8) (97 + s.a % 8 + s.b % 4) (s.kid 0).wr (s.kid 1).wr) := by rw [s.wr_kid, hk, HG.out]; rfl
  obtain ⟨B, hB⟩ : ∃ B, B = w.heap.size := ⟨_, rfl⟩
  obtain ⟨w0, hw0⟩ : ∃ w0, w0 = w.alloc (.cells (pcC s a cap) 35) := ⟨_, rfl⟩
  have hO0 : OneP w B s a cap w0 := by rw [hw0]; exact ⟨(Below.refl _ _).alloc (Nat.le_of_eq hB) _, Blk.newAt hB _ _⟩
  have ew0 := hw0.symm
  unfold pcC at ew0
  obtain ⟨w1, hw1⟩ : ∃ w1, w1 = w0.alloc (.cells gapC 9) := ⟨_, rfl⟩
  have hO1 : OneP w B s a cap w1 := by rw [hw1]; exact hO0.step ((Below.refl _ _).alloc (Nat.le_refl _) _)
  have cg : w1.cell? ⟨w0.heap.size, g, none⟩ = some (.string (strB (gapT g))) := by rw [hw1]; exact ((Blk.new w0 gapC 9).cell g).trans (gapC_at g hg4)
  have ew1 := hw1.symm
  unfold gapC at ew1
  have HO1 := hide hO1
  have HB := hide hB
  have x1 : w1.cell? ⟨w.heap.size, 1, none⟩ = some (.int .i64 s.gap) := hB ▸ hO1.cells.2.1
  clear hB
  obtain ⟨gs, hgs⟩ : ∃ gs, gs = strB (gapT g) := ⟨_, rfl⟩
  have hgsz : gs.size ≤ 2 := by rw [hgs, strB_size]; exact gapT_len g
  rw [← hgs] at cg
  have HGS := hide hgs
  have HG4 := hide hg4
  clear hw0 hw1 hO0 hO1 hgs
  go_enter Tryz.func16, Tryz.ntmps16
  go_wp2_with fail
  refine (nothing_any w1).mono ?_
  rintro e w2 ⟨n1, rfl, hn1, hb1⟩
  have HO2 := hide (HO1.out.step hb1)
  clear hn1 hb1 cg ew0 ew1 x1 HO1
  unfold PT
  go_wp2_with fail
  refine (nothing_any w2).mono ?_
  rintro e w3 ⟨n2, rfl, hn2, hb2⟩
  have HO3 := hide (HO2.out.step hb2)
  clear hn2 hb2 HO2
  unfold PT
  rw [← HB.out]
  obtain ⟨x0, x1, x2, x3, x4⟩ := HO3.out.cells
  have hop := pop_any s cs w3 (HC.out.keep (HB.out ▸ HO3.out.below))
  rw [HV0.out, hk] at hop
  have HOP := hide hop
  clear hop
  go_wp2_with fail
  refine HOP.out.mono ?_
  rintro e w4 ⟨rfl, hb⟩
  have HO4 := hide (HO3.out.step hb)
  clear hb HO3 HOP x0 x1 x2 x3 x4
  obtain ⟨x0, x1, x2, x3, x4⟩ := HO4.out.cells
  have hkd := pkid_any s 0 (by decide) cs w4 (HC.out.keep (HB.out ▸ HO4.out.below))
  rw [HV0.out] at hkd
  have HKD := hide hkd
  clear hkd
  go_wp2_with fail
  refine HKD.out.mono ?_
  rintro e w5 ⟨cs0, rfl, hcs0, hb⟩
  have HO5 := hide (HO4.out.step hb)
  have HCS := hide hcs0
  clear hb hcs0 HO4 HKD x0 x1 x2 x3 x4
  go_wp2_with fail
  refine (HW0.out cs0 w5 HCS.out (HT.out.pastE (HB.out ▸ HO5.out.below))).mono ?_
  rintro e w6 ⟨b0, rfl, hr0, hb⟩
  have HO6 := hide (HO5.out.step hb)
  have HR0 := hide hr0
  clear hb hr0 HO5 HCS
  obtain ⟨t0, ht0⟩ : ∃ t, t = strB (s.kid 0).wr.t := ⟨_, rfl⟩
  have hz0 : t0.size ≤ 400 := by rw [ht0]; exact HZ0.out.len
  rw [← ht0]
  have HT0 := hide ht0
  clear ht0
  unfold PT
  obtain ⟨x0, x1, x2, x3, x4⟩ := HO6.out.cells
  have hop := pop_any s cs w6 (HC.out.keep (HB.out ▸ HO6.out.below))
  rw [HV0.out, hk] at hop
  have HOP := hide hop
  clear hop
  go_wp2_with fail
  refine HOP.out.mono ?_
  rintro e w7 ⟨rfl, hb⟩
  have HO7 := hide (HO6.out.step hb)
  have HR0n := hide (HR0.out.keep hb)
  clear HR0
  have HR0 := HR0n
  clear HR0n
  clear hb HO6 HOP x0 x1 x2 x3 x4
  obtain ⟨x0, x1, x2, x3, x4⟩ := HO7.out.cells
  have hkd := pkid_any s 1 (by decide) cs w7 (HC.out.keep (HB.out ▸ HO7.out.below))
  rw [HV0.out] at hkd
  have HKD := hide hkd
  clear hkd
  go_wp2_with fail
  refine HKD.out.mono ?_
  rintro e w8 ⟨cs1, rfl, hcs1, hb⟩
  have HO8 := hide (HO7.out.step hb)
  have HCS := hide hcs1
  have HR0n := hide (HR0.out.keep hb)
  clear HR0
  have HR0 := HR0n
  clear HR0n
  clear hb hcs1 HO7 HKD x0 x1 x2 x3 x4
  go_wp2_with fail
  refine (HW1.out cs1 w8 HCS.out (HT.out.pastE (HB.out ▸ HO8.out.below))).mono ?_
  rintro e w9 ⟨b1, rfl, hr1, hb⟩
  have HO9 := hide (HO8.out.step hb)
  have HR0n := hide (HR0.out.keep hb)
  clear HR0
  have HR0 := HR0n
  clear HR0n
  have HR1 := hide hr1
  clear hb hr1 HO8 HCS
  obtain ⟨t1, ht1⟩ : ∃ t, t = strB (s.kid 1).wr.t := ⟨_, rfl⟩
  have hz1 : t1.size ≤ 400 := by rw [ht1]; exact HZ1.out.len
  rw [← ht1]
  have HT1 := hide ht1
  clear ht1
  unfold PT
  obtain ⟨x0, x1, x2, x3, x4⟩ := HO9.out.cells
  have hop := pop_any s cs w9 (HC.out.keep (HB.out ▸ HO9.out.below))
  rw [HV0.out, hk] at hop
  have HOP := hide hop
  clear hop
  go_wp2_with fail
  refine HOP.out.mono ?_
  rintro e w10 ⟨rfl, hb⟩
  have HO10 := hide (HO9.out.step hb)
  have HR0n := hide (HR0.out.keep hb)
  clear HR0
  have HR0 := HR0n
  clear HR0n
  have HR1n := hide (HR1.out.keep hb)
  clear HR1
  have HR1 := HR1n
  clear HR1n
  clear hb HO9 HOP x0 x1 x2 x3 x4
  go_wp2_with fail
  all_goals try (exfalso; simp only [ByteArray.size_append] at *; omega)
  refine (both_re [(s.kid 0).wr.x, (s.kid 1).wr.x] _ _ (resRow_two (Blk.new w10 #[PT b0, PT b1] 23) (HR0.out.keep (ab w10 _)) (HR1.out.keep (ab w10 _))) (wf_two HZ0.out.wf HZ1.out.wf) (by simp) (flat_len2 6 HZ0.out.cnt (by have := HZ1.out.cnt; omega)) (HT.out.pastE (HB.out ▸ (HO10.out.step (ab w10 _)).below))).mono ?_
  rintro e w11 ⟨bz, rfl, hrz, hb⟩
  have HO11 := hide ((HO10.out.step (ab w10 _)).step hb)
  have HRZ := hide hrz
  clear hb HO10 hrz
  unfold PT
  go_wp2
  all_goals try (exfalso; simp only [ByteArray.size_append] at *; omega)
  go_ret2
  have hs : gs ++ ⟨#[40]⟩ ++ t0 ++ gs ++ ⟨#[38]⟩ ++ t1 ++ ⟨#[41]⟩ = strB s.wr.t := by
    rw [HWR.out, HGS.out, HT0.out, HT1.out]
    show strB (gapT g) ++ strB [40] ++ strB (s.kid 0).wr.t ++ strB (gapT g) ++ strB [38] ++ strB (s.kid 1).wr.t ++ strB [41] = strB _
    simp only [← strB_append]
    congr 1 <;> simp [pcW]
  rw [← hs]
  exact ⟨bz, rfl, by rw [HWR.out]; exact HRZ.out, HB.out ▸ HO11.out.below⟩
end Go.Proofs.YtdbdjjjmomociaaGreatDoor
/- Pieces: Write, the cases 3, 5, 6. -/
namespace Go.Proofs.YtdbdjjjmomociaaGreatDoor
set_option maxRecDepth 100000
set_option linter.unusedSimpArgs false
set_option linter.unusedVariables false
open Go.RowKit Go.Shelf
set_option maxHeartbeats 4000000 in
theorem pwrite_3 (s : PC) (hk : s.k = 3) (h0 : WrOk (s.kid 0)) (z0 : Small (s.kid 0)) (h1 : WrOk (s.kid 1)) (z1 : Small (s.kid 1)) : WrOk s := by
  intro cs w h hT
  have HC := hide h
  have HT := hide hT
  have HW0 := hide h0
  have HZ0 := hide z0
  clear h0 z0
  have HW1 := hide h1
  have HZ1 := hide z1
  clear h1 z1
  obtain ⟨v, hcs, hr, ho, hgb, ha, hb⟩ := h.open
  obtain ⟨hn, a, cap, rfl, -⟩ := hr.at
  have hv0 : PcVal cs = .agg #[.int .i64 s.op, .int .i64 s.gap, .int .u8 s.a, .int .u8 s.b, .slice a s.kids.length cap] := by rw [hcs]; rfl
  have HV0 := hide hv0
  rw [hv0]
  clear h hT hr hv0 hcs
  obtain ⟨g, hg4, hgap⟩ : ∃ g : Nat, g < 4 ∧ bits .and .i64 s.gap 3 = (g : Int) := ⟨s.g, s.g_lt, by rw [i64_and3P]; unfold PC.g; omega⟩
  have HG : Hid (g = s.g) := by
    have h2 : bits .and .i64 s.gap 3 = (s.g : Int) := by rw [i64_and3P]; unfold PC.g; omega
    show g = s.g; omega
  have hA7 := u8_and7 s.a ha
  have hB3 := u8_and3P s.b hb
  have hLo : IntKind.u8.wrap (97 + ((s.a % 8 : Nat) : Int)) = ((97 + s.a % 8 : Nat) : Int) := by simp [IntKind.wrap, IntKind.signed, IntKind.bits]; omega
  have hHi : IntKind.u8.wrap (((97 + s.a % 8 : Nat) : Int) + ((s.b % 4 : Nat) : Int)) = ((97 + s.a % 8 + s.b % 4 : Nat) : Int) := by simp [IntKind.wrap, IntKind.signed, IntKind.bits]; omega
  have HWR : Hid (s.wr = pcW 3 g (97 + s.a % 8) (97 + s.a % 8 + s.b % 4) (s.kid 0).wr (s.kid 1).wr) := by rw [s.wr_kid, hk, HG.out]; rfl
  obtain ⟨B, hB⟩ : ∃ B, B = w.heap.size := ⟨_, rfl⟩
  obtain ⟨w0, hw0⟩ : ∃ w0, w0 = w.alloc (.cells (pcC s a cap) 35) := ⟨_, rfl⟩
  have hO0 : OneP w B s a cap w0 := by rw [hw0]; exact ⟨(Below.refl _ _).alloc (Nat.le_of_eq hB) _, Blk.newAt hB _ _⟩
  have ew0 := hw0.symm
  unfold pcC at ew0
  obtain ⟨w1, hw1⟩ : ∃ w1, w1 = w0.alloc (.cells gapC 9) := ⟨_, rfl⟩
  have hO1 : OneP w B s a cap w1 := by rw [hw1]; exact hO0.step ((Below.refl _ _).alloc (Nat.le_refl _) _)
  have cg : w1.cell? ⟨w0.heap.size, g, none⟩ = some (.string (strB (gapT g))) := by rw [hw1]; exact ((Blk.new w0 gapC 9).cell g).trans (gapC_at g hg4)
  have ew1 := hw1.symm
  unfold gapC at ew1
  have HO1 := hide hO1
  have HB := hide hB
  have x1 : w1.cell? ⟨w.heap.size, 1, none⟩ = some (.int .i64 s.gap) := hB ▸ hO1.cells.2.1
  clear hB
  obtain ⟨gs, hgs⟩ : ∃ gs, gs = strB (gapT g) := ⟨_, rfl⟩
  have hgsz : gs.size ≤ 2 := by rw [hgs, strB_size]; exact gapT_len g
  rw [← hgs] at cg
  have HGS := hide hgs
  have HG4 := hide hg4
  clear hw0 hw1 hO0 hO1 hgs
  go_enter Tryz.func16, Tryz.ntmps16
  go_wp2_with fail
  refine (nothing_any w1).mono ?_
  rintro e w2 ⟨n1, rfl, hn1, hb1⟩
  have HO2 := hide (HO1.out.step hb1)
  clear hn1 hb1 cg ew0 ew1 x1 HO1
  unfold PT
  go_wp2_with fail
  refine (nothing_any w2).mono ?_
  rintro e w3 ⟨n2, rfl, hn2, hb2⟩
  have HO3 := hide (HO2.out.step hb2)
  clear hn2 hb2 HO2
  unfold PT
  rw [← HB.out]
  obtain ⟨x0, x1, x2, x3, x4⟩ := HO3.out.cells
  have hop := pop_any s cs w3 (HC.out.keep (HB.out ▸ HO3.out.below))
  rw [HV0.out, hk] at hop
  have HOP := hide hop
  clear hop
  go_wp2_with fail
  refine HOP.out.mono ?_
  rintro e w4 ⟨rfl, hb⟩
  have HO4 := hide (HO3.out.step hb)
  clear hb HO3 HOP x0 x1 x2 x3 x4
  obtain ⟨x0, x1, x2, x3, x4⟩ := HO4.out.cells
  have hkd := pkid_any s 0 (by decide) cs w4 (HC.out.keep (HB.out ▸ HO4.out.below))
  rw [HV0.out] at hkd
  have HKD := hide hkd
  clear hkd
  go_wp2_with fail
  refine HKD.out.mono ?_
  rintro e w5 ⟨cs0, rfl, hcs0, hb⟩
  have HO5 := hide (HO4.out.step hb)
  have HCS := hide hcs0
  clear hb hcs0 HO4 HKD x0 x1 x2 x3 x4
  go_wp2_with fail
  refine (HW0.out cs0 w5 HCS.out (HT.out.pastE (HB.out ▸ HO5.out.below))).mono ?_
  rintro e w6 ⟨b0, rfl, hr0, hb⟩
  have HO6 := hide (HO5.out.step hb)
  have HR0 := hide hr0
  clear hb hr0 HO5 HCS
  obtain ⟨t0, ht0⟩ : ∃ t, t = strB (s.kid 0).wr.t := ⟨_, rfl⟩
  have hz0 : t0.size ≤ 400 := by rw [ht0]; exact HZ0.out.len
  rw [← ht0]
  have HT0 := hide ht0
  clear ht0
  unfold PT
  obtain ⟨x0, x1, x2, x3, x4⟩ := HO6.out.cells
  have hop := pop_any s cs w6 (HC.out.keep (HB.out ▸ HO6.out.below))
  rw [HV0.out, hk] at hop
  have HOP := hide hop
  clear hop
  go_wp2_with fail
  refine HOP.out.mono ?_
  rintro e w7 ⟨rfl, hb⟩
  have HO7 := hide (HO6.out.step hb)
  have HR0n := hide (HR0.out.keep hb)
  clear HR0
  have HR0 := HR0n
  clear HR0n
  clear hb HO6 HOP x0 x1 x2 x3 x4
  obtain ⟨x0, x1, x2, x3, x4⟩ := HO7.out.cells
  have hkd := pkid_any s 1 (by decide) cs w7 (HC.out.keep (HB.out ▸ HO7.out.below))
  rw [HV0.out] at hkd
  have HKD := hide hkd
  clear hkd
  go_wp2_with fail
  refine HKD.out.mono ?_
  rintro e w8 ⟨cs1, rfl, hcs1, hb⟩
  have HO8 := hide (HO7.out.step hb)
  have HCS := hide hcs1
  have HR0n := hide (HR0.out.keep hb)
  clear HR0
  have HR0 := HR0n
  clear HR0n
  clear hb hcs1 HO7 HKD x0 x1 x2 x3 x4
  go_wp2_with fail
  refine (HW1.out cs1 w8 HCS.out (HT.out.pastE (HB.out ▸ HO8.out.below))).mono ?_
  rintro e w9 ⟨b1, rfl, hr1, hb⟩
  have HO9 := hide (HO8.out.step hb)
  have HR0n := hide (HR0.out.keep hb)
  clear HR0
  have HR0 := HR0n
  clear HR0n
  have HR1 := hide hr1
  clear hb hr1 HO8 HCS
  obtain ⟨t1, ht1⟩ : ∃ t, t = strB (s.kid 1).wr.t := ⟨_, rfl⟩
  have hz1 : t1.size ≤ 400 := by rw [ht1]; exact HZ1.out.len
  rw [← ht1]
  have HT1 := hide ht1
  clear ht1
  unfold PT
  obtain ⟨x0, x1, x2, x3, x4⟩ := HO9.out.cells
  have hop := pop_any s cs w9 (HC.out.keep (HB.out ▸ HO9.out.below))
  rw [HV0.out, hk] at hop
  have HOP := hide hop
  clear hop
  go_wp2_with fail
  refine HOP.out.mono ?_
  rintro e w10 ⟨rfl, hb⟩
  have HO10 := hide (HO9.out.step hb)
  have HR0n := hide (HR0.out.keep hb)
  clear HR0
  have HR0 := HR0n
  clear HR0n
  have HR1n := hide (HR1.out.keep hb)
  clear HR1
  have HR1 := HR1n
  clear HR1n
  clear hb HO9 HOP x0 x1 x2 x3 x4
  go_wp2_with fail
  all_goals try (exfalso; simp only [ByteArray.size_append] at *; omega)
  refine (then_any [(s.kid 0).wr.x, (s.kid 1).wr.x] _ _ (resRow_two (Blk.new w10 #[PT b0, PT b1] 23) (HR0.out.keep (ab w10 _)) (HR1.out.keep (ab w10 _))) (wf_two HZ0.out.wf HZ1.out.wf) (by simp) (cat_len2 HZ0.out.cnt (by have := HZ1.out.cnt; omega))).mono ?_
  rintro e w11 ⟨bz, rfl, hrz, hb⟩
  have HO11 := hide ((HO10.out.step (ab w10 _)).step hb)
  have HRZ := hide hrz
  clear hb HO10 hrz
  unfold PT
  go_wp2
  all_goals try (exfalso; simp only [ByteArray.size_append] at *; omega)
  go_ret2
  have hs : gs ++ ⟨#[40]⟩ ++ t0 ++ t1 ++ gs ++ ⟨#[41]⟩ = strB s.wr.t := by
    rw [HWR.out, HGS.out, HT0.out, HT1.out]
    show strB (gapT g) ++ strB [40] ++ strB (s.kid 0).wr.t ++ strB (s.kid 1).wr.t ++ strB (gapT g) ++ strB [41] = strB _
    simp only [← strB_append]
    congr 1 <;> simp [pcW]
  rw [← hs]
  exact ⟨bz, rfl, by rw [HWR.out]; exact HRZ.out, HB.out ▸ HO11.out.below⟩
set_option maxHeartbeats 4000000 in
theorem pwrite_5 (s : PC) (hk : s.k = 5) (h0 : WrOk (s.kid 0)) (z0 : Small (s.kid 0)) : WrOk s := by
  intro cs w h hT
  have HC := hide h
  have HT := hide hT
  have HW0 := hide h0
  have HZ0 := hide z0
  clear h0 z0
  obtain ⟨v, hcs, hr, ho, hgb, ha, hb⟩ := h.open
  obtain ⟨hn, a, cap, rfl, -⟩ := hr.at
  have hv0 : PcVal cs = .agg #[.int .i64 s.op, .int .i64 s.gap, .int .u8 s.a, .int .u8 s.b, .slice a s.kids.length cap] := by rw [hcs]; rfl
  have HV0 := hide hv0
  rw [hv0]
  clear h hT hr hv0 hcs
  obtain ⟨g, hg4, hgap⟩ : ∃ g : Nat, g < 4 ∧ bits .and .i64 s.gap 3 = (g : Int) := ⟨s.g, s.g_lt, by rw [i64_and3P]; unfold PC.g; omega⟩
  have HG : Hid (g = s.g) := by
    have h2 : bits .and .i64 s.gap 3 = (s.g : Int) := by rw [i64_and3P]; unfold PC.g; omega
    show g = s.g; omega
  have hA7 := u8_and7 s.a ha
  have hB3 := u8_and3P s.b hb
  have hLo : IntKind.u8.wrap (97 + ((s.a % 8 : Nat) : Int)) = ((97 + s.a % 8 : Nat) : Int) := by simp [IntKind.wrap, IntKind.signed, IntKind.bits]; omega
  have hHi : IntKind.u8.wrap (((97 + s.a % 8 : Nat) : Int) + ((s.b % 4 : Nat) : Int)) = ((97 + s.a % 8 + s.b % 4 : Nat) : Int) := by simp [IntKind.wrap, IntKind.signed, IntKind.bits]; omega
  have HWR : Hid (s.wr = pcW 5 g (97 + s.a % 8) (97 + s.a % 8 + s.b % 4) (s.kid 0).wr (s.kid 1).wr) := by rw [s.wr_kid, hk, HG.out]; rfl
  obtain ⟨B, hB⟩ : ∃ B, B = w.heap.size := ⟨_, rfl⟩
  obtain ⟨w0, hw0⟩ : ∃ w0, w0 = w.alloc (.cells (pcC s a cap) 35) := ⟨_, rfl⟩
  have hO0 : OneP w B s a cap w0 := by rw [hw0]; exact ⟨(Below.refl _ _).alloc (Nat.le_of_eq hB) _, Blk.newAt hB _ _⟩
  have ew0 := hw0.symm
  unfold pcC at ew0
  obtain ⟨w1, hw1⟩ : ∃ w1, w1 = w0.alloc (.cells gapC 9) := ⟨_, rfl⟩
  have hO1 : OneP w B s a cap w1 := by rw [hw1]; exact hO0.step ((Below.refl _ _).alloc (Nat.le_refl _) _)
  have cg : w1.cell? ⟨w0.heap.size, g, none⟩ = some (.string (strB (gapT g))) := by rw [hw1]; exact ((Blk.new w0 gapC 9).cell g).trans (gapC_at g hg4)
  have ew1 := hw1.symm
  unfold gapC at ew1
  have HO1 := hide hO1
  have HB := hide hB
  have x1 : w1.cell? ⟨w.heap.size, 1, none⟩ = some (.int .i64 s.gap) := hB ▸ hO1.cells.2.1
  clear hB
  obtain ⟨gs, hgs⟩ : ∃ gs, gs = strB (gapT g) := ⟨_, rfl⟩
  have hgsz : gs.size ≤ 2 := by rw [hgs, strB_size]; exact gapT_len g
  rw [← hgs] at cg
  have HGS := hide hgs
  have HG4 := hide hg4
  clear hw0 hw1 hO0 hO1 hgs
  go_enter Tryz.func16, Tryz.ntmps16
  go_wp2_with fail
  refine (nothing_any w1).mono ?_
  rintro e w2 ⟨n1, rfl, hn1, hb1⟩
  have HO2 := hide (HO1.out.step hb1)
  clear hn1 hb1 cg ew0 ew1 x1 HO1
  unfold PT
  go_wp2_with fail
  refine (nothing_any w2).mono ?_
  rintro e w3 ⟨n2, rfl, hn2, hb2⟩
  have HO3 := hide (HO2.out.step hb2)
  clear hn2 hb2 HO2
  unfold PT
  rw [← HB.out]
  obtain ⟨x0, x1, x2, x3, x4⟩ := HO3.out.cells
  have hop := pop_any s cs w3 (HC.out.keep (HB.out ▸ HO3.out.below))
  rw [HV0.out, hk] at hop
  have HOP := hide hop
  clear hop
  go_wp2_with fail
  refine HOP.out.mono ?_
  rintro e w4 ⟨rfl, hb⟩
  have HO4 := hide (HO3.out.step hb)
  clear hb HO3 HOP x0 x1 x2 x3 x4
  obtain ⟨x0, x1, x2, x3, x4⟩ := HO4.out.cells
  have hkd := pkid_any s 0 (by decide) cs w4 (HC.out.keep (HB.out ▸ HO4.out.below))
  rw [HV0.out] at hkd
  have HKD := hide hkd
  clear hkd
  go_wp2_with fail
  refine HKD.out.mono ?_
  rintro e w5 ⟨cs0, rfl, hcs0, hb⟩
  have HO5 := hide (HO4.out.step hb)
  have HCS := hide hcs0
  clear hb hcs0 HO4 HKD x0 x1 x2 x3 x4
  go_wp2_with fail
  refine (HW0.out cs0 w5 HCS.out (HT.out.pastE (HB.out ▸ HO5.out.below))).mono ?_
  rintro e w6 ⟨b0, rfl, hr0, hb⟩
  have HO6 := hide (HO5.out.step hb)
  have HR0 := hide hr0
  clear hb hr0 HO5 HCS
  obtain ⟨t0, ht0⟩ : ∃ t, t = strB (s.kid 0).wr.t := ⟨_, rfl⟩
  have hz0 : t0.size ≤ 400 := by rw [ht0]; exact HZ0.out.len
  rw [← ht0]
  have HT0 := hide ht0
  clear ht0
  unfold PT
  obtain ⟨x0, x1, x2, x3, x4⟩ := HO6.out.cells
  have hop := pop_any s cs w6 (HC.out.keep (HB.out ▸ HO6.out.below))
  rw [HV0.out, hk] at hop
  have HOP := hide hop
  clear hop
  go_wp2_with fail
  refine HOP.out.mono ?_
  rintro e w7 ⟨rfl, hb⟩
  have HO7 := hide (HO6.out.step hb)
  have HR0n := hide (HR0.out.keep hb)
  clear HR0
  have HR0 := HR0n
  clear HR0n
  clear hb HO6 HOP x0 x1 x2 x3 x4
  obtain ⟨x0, x1, x2, x3, x4⟩ := HO7.out.cells
  have hop := pop_any s cs w7 (HC.out.keep (HB.out ▸ HO7.out.below))
  rw [HV0.out, hk] at hop
  have HOP := hide hop
  clear hop
  go_wp2_with fail
  refine HOP.out.mono ?_
  rintro e w8 ⟨rfl, hb⟩
  have HO8 := hide (HO7.out.step hb)
  have HR0n := hide (HR0.out.keep hb)
  clear HR0
  have HR0 := HR0n
  clear HR0n
  clear hb HO7 HOP x0 x1 x2 x3 x4
  go_wp2_with fail
  all_goals try (exfalso; simp only [ByteArray.size_append] at *; omega)
  refine (many_any b0 _ w8 HR0.out).mono ?_
  rintro e w9 ⟨bm, rfl, hrm, hb⟩
  have HO9 := hide (HO8.out.step hb)
  have HRM := hide hrm
  have HR0b := hide (HR0.out.keep hb)
  clear hrm HR0
  clear hb HO8
  unfold PT
  go_wp2_with fail
  all_goals try (exfalso; simp only [ByteArray.size_append] at *; omega)
  refine (then_any [(s.kid 0).wr.x, rMany (s.kid 0).wr.x] _ _ (resRow_two (Blk.new w9 #[PT b0, PT bm] 23) (HR0b.out.keep (ab w9 _)) (HRM.out.keep (ab w9 _))) (wf_two HZ0.out.wf (wf_many HZ0.out.wf)) (by simp) (cat_len2 HZ0.out.cnt (by have := HZ0.out.cnt; have := cnt_many (s.kid 0).wr.x; omega))).mono ?_
  rintro e w10 ⟨bz, rfl, hrz, hb⟩
  have HO10 := hide ((HO9.out.step (ab w9 _)).step hb)
  have HRZ := hide hrz
  clear hb HO9 hrz
  unfold PT
  go_wp2
  all_goals try (exfalso; simp only [ByteArray.size_append] at *; omega)
  go_ret2
  have hs : (⟨#[40]⟩ : ByteArray) ++ t0 ++ ⟨#[41]⟩ ++ gs ++ ⟨#[43]⟩ = strB s.wr.t := by
    rw [HWR.out, HGS.out, HT0.out]
    show strB [40] ++ strB (s.kid 0).wr.t ++ strB [41] ++ strB (gapT g) ++ strB [43] = strB _
    simp only [← strB_append]
    congr 1 <;> simp [pcW]
  rw [← hs]
  exact ⟨bz, rfl, by rw [HWR.out]; exact HRZ.out, HB.out ▸ HO10.out.below⟩
set_option maxHeartbeats 4000000 in
theorem pwrite_6 (s : PC) (hk : s.k = 6) (h0 : WrOk (s.kid 0)) (z0 : Small (s.kid 0)) : WrOk s := by
  intro cs w h hT
  have HC := hide h
  have HT := hide hT
  have HW0 := hide h0
  have HZ0 := hide z0
  clear h0 z0
  obtain ⟨v, hcs, hr, ho, hgb, ha, hb⟩ := h.open
  obtain ⟨hn, a, cap, rfl, -⟩ := hr.at
  have hv0 : PcVal cs = .agg #[.int .i64 s.op, .int .i64 s.gap, .int .u8 s.a, .int .u8 s.b, .slice a s.kids.length cap] := by rw [hcs]; rfl
  have HV0 := hide hv0
  rw [hv0]
  clear h hT hr hv0 hcs
  obtain ⟨g, hg4, hgap⟩ : ∃ g : Nat, g < 4 ∧ bits .and .i64 s.gap 3 = (g : Int) := ⟨s.g, s.g_lt, by rw [i64_and3P]; unfold PC.g; omega⟩
  have HG : Hid (g = s.g) := by
    have h2 : bits .and .i64 s.gap 3 = (s.g : Int) := by rw [i64_and3P]; unfold PC.g; omega
    show g = s.g; omega
  have hA7 := u8_and7 s.a ha
  have hB3 := u8_and3P s.b hb
  have hLo : IntKind.u8.wrap (97 + ((s.a % 8 : Nat) : Int)) = ((97 + s.a % 8 : Nat) : Int) := by simp [IntKind.wrap, IntKind.signed, IntKind.bits]; omega
  have hHi : IntKind.u8.wrap (((97 + s.a % 8 : Nat) : Int) + ((s.b % 4 : Nat) : Int)) = ((97 + s.a % 8 + s.b % 4 : Nat) : Int) := by simp [IntKind.wrap, IntKind.signed, IntKind.bits]; omega
  have HWR : Hid (s.wr = pcW 6 g (97 + s.a % 8) (97 + s.a % 8 + s.b % 4) (s.kid 0).wr (s.kid 1).wr) := by rw [s.wr_kid, hk, HG.out]; rfl
  obtain ⟨B, hB⟩ : ∃ B, B = w.heap.size := ⟨_, rfl⟩
  obtain ⟨w0, hw0⟩ : ∃ w0, w0 = w.alloc (.cells (pcC s a cap) 35) := ⟨_, rfl⟩
  have hO0 : OneP w B s a cap w0 := by rw [hw0]; exact ⟨(Below.refl _ _).alloc (Nat.le_of_eq hB) _, Blk.newAt hB _ _⟩
  have ew0 := hw0.symm
  unfold pcC at ew0
  obtain ⟨w1, hw1⟩ : ∃ w1, w1 = w0.alloc (.cells gapC 9) := ⟨_, rfl⟩
  have hO1 : OneP w B s a cap w1 := by rw [hw1]; exact hO0.step ((Below.refl _ _).alloc (Nat.le_refl _) _)
  have cg : w1.cell? ⟨w0.heap.size, g, none⟩ = some (.string (strB (gapT g))) := by rw [hw1]; exact ((Blk.new w0 gapC 9).cell g).trans (gapC_at g hg4)
  have ew1 := hw1.symm
  unfold gapC at ew1
  have HO1 := hide hO1
  have HB := hide hB
  have x1 : w1.cell? ⟨w.heap.size, 1, none⟩ = some (.int .i64 s.gap) := hB ▸ hO1.cells.2.1
  clear hB
  obtain ⟨gs, hgs⟩ : ∃ gs, gs = strB (gapT g) := ⟨_, rfl⟩
  have hgsz : gs.size ≤ 2 := by rw [hgs, strB_size]; exact gapT_len g
  rw [← hgs] at cg
  have HGS := hide hgs
  have HG4 := hide hg4
  clear hw0 hw1 hO0 hO1 hgs
  go_enter Tryz.func16, Tryz.ntmps16
  go_wp2_with fail
  refine (nothing_any w1).mono ?_
  rintro e w2 ⟨n1, rfl, hn1, hb1⟩
  have HO2 := hide (HO1.out.step hb1)
  clear hn1 hb1 cg ew0 ew1 x1 HO1
  unfold PT
  go_wp2_with fail
  refine (nothing_any w2).mono ?_
  rintro e w3 ⟨n2, rfl, hn2, hb2⟩
  have HO3 := hide (HO2.out.step hb2)
  clear hn2 hb2 HO2
  unfold PT
  rw [← HB.out]
  obtain ⟨x0, x1, x2, x3, x4⟩ := HO3.out.cells
  have hop := pop_any s cs w3 (HC.out.keep (HB.out ▸ HO3.out.below))
  rw [HV0.out, hk] at hop
  have HOP := hide hop
  clear hop
  go_wp2_with fail
  refine HOP.out.mono ?_
  rintro e w4 ⟨rfl, hb⟩
  have HO4 := hide (HO3.out.step hb)
  clear hb HO3 HOP x0 x1 x2 x3 x4
  obtain ⟨x0, x1, x2, x3, x4⟩ := HO4.out.cells
  have hkd := pkid_any s 0 (by decide) cs w4 (HC.out.keep (HB.out ▸ HO4.out.below))
  rw [HV0.out] at hkd
  have HKD := hide hkd
  clear hkd
  go_wp2_with fail
  refine HKD.out.mono ?_
  rintro e w5 ⟨cs0, rfl, hcs0, hb⟩
  have HO5 := hide (HO4.out.step hb)
  have HCS := hide hcs0
  clear hb hcs0 HO4 HKD x0 x1 x2 x3 x4
  go_wp2_with fail
  refine (HW0.out cs0 w5 HCS.out (HT.out.pastE (HB.out ▸ HO5.out.below))).mono ?_
  rintro e w6 ⟨b0, rfl, hr0, hb⟩
  have HO6 := hide (HO5.out.step hb)
  have HR0 := hide hr0
  clear hb hr0 HO5 HCS
  obtain ⟨t0, ht0⟩ : ∃ t, t = strB (s.kid 0).wr.t := ⟨_, rfl⟩
  have hz0 : t0.size ≤ 400 := by rw [ht0]; exact HZ0.out.len
  rw [← ht0]
  have HT0 := hide ht0
  clear ht0
  unfold PT
  obtain ⟨x0, x1, x2, x3, x4⟩ := HO6.out.cells
  have hop := pop_any s cs w6 (HC.out.keep (HB.out ▸ HO6.out.below))
  rw [HV0.out, hk] at hop
  have HOP := hide hop
  clear hop
  go_wp2_with fail
  refine HOP.out.mono ?_
  rintro e w7 ⟨rfl, hb⟩
  have HO7 := hide (HO6.out.step hb)
  have HR0n := hide (HR0.out.keep hb)
  clear HR0
  have HR0 := HR0n
  clear HR0n
  clear hb HO6 HOP x0 x1 x2 x3 x4
  obtain ⟨x0, x1, x2, x3, x4⟩ := HO7.out.cells
  have hop := pop_any s cs w7 (HC.out.keep (HB.out ▸ HO7.out.below))
  rw [HV0.out, hk] at hop
  have HOP := hide hop
  clear hop
  go_wp2_with fail
  refine HOP.out.mono ?_
  rintro e w8 ⟨rfl, hb⟩
  have HO8 := hide (HO7.out.step hb)
  have HR0n := hide (HR0.out.keep hb)
  clear HR0
  have HR0 := HR0n
  clear HR0n
  clear hb HO7 HOP x0 x1 x2 x3 x4
  go_wp2_with fail
  all_goals try (exfalso; simp only [ByteArray.size_append] at *; omega)
  refine (empty_re w8).mono ?_
  rintro e w9 ⟨bm, rfl, hrm, hb⟩
  have HO9 := hide (HO8.out.step hb)
  have HRM := hide hrm
  have HR0b := hide (HR0.out.keep hb)
  clear hrm HR0
  clear hb HO8
  unfold PT
  go_wp2_with fail
  all_goals try (exfalso; simp only [ByteArray.size_append] at *; omega)
  refine (any_re [(s.kid 0).wr.x, rEmpty] _ _ (resRow_two (Blk.new w9 #[PT b0, PT bm] 23) (HR0b.out.keep (ab w9 _)) (HRM.out.keep (ab w9 _))) (wf_two HZ0.out.wf wf_empty) (by simp) (flat_len2 4 HZ0.out.cnt (by rw [cnt_empty]; omega)) (HT.out.pastE (HB.out ▸ (HO9.out.step (ab w9 _)).below))).mono ?_
  rintro e w10 ⟨bz, rfl, hrz, hb⟩
  have HO10 := hide ((HO9.out.step (ab w9 _)).step hb)
  have HRZ := hide hrz
  clear hb HO9 hrz
  unfold PT
  go_wp2
  all_goals try (exfalso; simp only [ByteArray.size_append] at *; omega)
  go_ret2
  have hs : gs ++ ⟨#[40]⟩ ++ t0 ++ ⟨#[41, 63]⟩ = strB s.wr.t := by
    rw [HWR.out, HGS.out, HT0.out]
    show strB (gapT g) ++ strB [40] ++ strB (s.kid 0).wr.t ++ strB [41, 63] = strB _
    simp only [← strB_append]
    congr 1 <;> simp [pcW]
  rw [← hs]
  exact ⟨bz, rfl, by rw [HWR.out]; exact HRZ.out, HB.out ▸ HO10.out.below⟩
end Go.Proofs.YtdbdjjjmomociaaGreatDoor
/- Pieces: Write, the cases 7 and 8. -/
namespace Go.Proofs.YtdbdjjjmomociaaGreatDoor
set_option maxRecDepth 100000
set_option linter.unusedSimpArgs false
set_option linter.unusedVariables false
open Go.RowKit Go.Shelf
theorem x_buildZ (ρ : Operand → Value) (d : Option Tmp) (x : Operand) (t : TypeId) (pos : String) (af : Array Edge) (g : Option (Nat × Bool)) (c : Int) (w : World) (hx : ρ x = .int .u8 c) :
    (execOp ρ { dst := d, op := .buildSlice 52 1 #[(0, x)], type := t, pos := pos, after := af, guard := g }).run Tryz.prog w = .ok (.value (.slice (some ⟨w.heap.size, 0, none⟩) 1 1)) (w.alloc (.cells #[.int .u8 c] 5)) := by
  simp [go_sem, hx]
theorem x_strZ (ρ : Operand → Value) (d : Option Tmp) (x : Operand) (t : TypeId) (pos : String) (af : Array Edge) (g : Option (Nat × Bool)) (c : Int) (b n : Nat) (hn : c = (n : Int)) (hx : ρ x = .slice (some ⟨b, 0, none⟩) 1 1) (w : World) (hB : Blk w b #[.int .u8 c] 5) :
    (execOp ρ { dst := d, op := .convert 52 9 x, type := t, pos := pos, after := af, guard := g }).run Tryz.prog w = .ok (.value (.string (strB [n]))) w := by
  subst hn
  have h : (convert 52 9 (.slice (some ⟨b, 0, none⟩) 1 1)).run Tryz.prog w = .ok (.string (strOfNums [(n : Int)])) w := by
    refine run_convert_bytes_arg _ 52 5 Tryz.underlying52 Tryz.underlying5 _ 0 1 1 [(n : Int)] rfl ?_ 9 Tryz.underlying9
    intro i hi
    rw [hB.cell]
    match i, hi with
    | 0, _ => rfl
  simp [go_sem, hx, h]
  rfl
theorem x_addZ (ρ : Operand → Value) (d : Option Tmp) (x y : Operand) (t : TypeId) (pos : String) (af : Array Edge) (g : Option (Nat × Bool)) (u v : ByteArray) (hx : ρ x = .string u) (hy : ρ y = .string v) (hs : u.size + v.size ≤ 1000000) (w : World) :
    (execOp ρ { dst := d, op := .binOp .add 9 x y 9, type := t, pos := pos, after := af, guard := g }).run Tryz.prog w = .ok (.value (.string (u ++ v))) w := by
  have h : ¬ (u ++ v).size > 9223372036854775807 := by rw [ByteArray.size_append]; omega
  simp [go_sem, hx, hy]
  omega
theorem row_Z {w : World} {c : Int} {n b : Nat} (hn : c = (n : Int)) (hg : Blk w b #[.int .u8 c] 5) : ∀ k, k < [n].length → ∃ b' off, (some ⟨b, 0, none⟩ : Option Addr) = some ⟨b', off, none⟩ ∧ b' < w.heap.size ∧ w.cell? ⟨b', off + k, none⟩ = some (.int .u8 (([n] : List Nat).getD k 0)) := fun k hk => by
  subst hn
  obtain rfl : k = 0 := by simp at hk; omega
  exact ⟨_, _, rfl, hg.lt, hg.cell 0⟩
set_option maxHeartbeats 4000000 in
theorem pwrite_7 (s : PC) (hk : s.k = 7) : WrOk s := by
  intro cs w h hT
  have HC := hide h
  have HT := hide hT
  obtain ⟨v, hcs, hr, ho, hgb, ha, hb⟩ := h.open
  obtain ⟨hn, a, cap, rfl, -⟩ := hr.at
  have hv0 : PcVal cs = .agg #[.int .i64 s.op, .int .i64 s.gap, .int .u8 s.a, .int .u8 s.b, .slice a s.kids.length cap] := by rw [hcs]; rfl
  have HV0 := hide hv0
  rw [hv0]
  clear h hT hr hv0 hcs
  obtain ⟨g, hg4, hgap⟩ : ∃ g : Nat, g < 4 ∧ bits .and .i64 s.gap 3 = (g : Int) := ⟨s.g, s.g_lt, by rw [i64_and3P]; unfold PC.g; omega⟩
  have HG : Hid (g = s.g) := by
    have h2 : bits .and .i64 s.gap 3 = (s.g : Int) := by rw [i64_and3P]; unfold PC.g; omega
    show g = s.g; omega
  have hA7 := u8_and7 s.a ha
  have hB3 := u8_and3P s.b hb
  have hLo : IntKind.u8.wrap (97 + ((s.a % 8 : Nat) : Int)) = ((97 + s.a % 8 : Nat) : Int) := by simp [IntKind.wrap, IntKind.signed, IntKind.bits]; omega
  have hHi : IntKind.u8.wrap (((97 + s.a % 8 : Nat) : Int) + ((s.b % 4 : Nat) : Int)) = ((97 + s.a % 8 + s.b % 4 : Nat) : Int) := by simp [IntKind.wrap, IntKind.signed, IntKind.bits]; omega
  have HWR : Hid (s.wr = pcW 7 g (97 + s.a % 8) (97 + s.a % 8 + s.b % 4) (s.kid 0).wr (s.kid 1).wr) := by rw [s.wr_kid, hk, HG.out]; rfl
  obtain ⟨B, hB⟩ : ∃ B, B = w.heap.size := ⟨_, rfl⟩
  obtain ⟨w0, hw0⟩ : ∃ w0, w0 = w.alloc (.cells (pcC s a cap) 35) := ⟨_, rfl⟩
  have hO0 : OneP w B s a cap w0 := by rw [hw0]; exact ⟨(Below.refl _ _).alloc (Nat.le_of_eq hB) _, Blk.newAt hB _ _⟩
  have ew0 := hw0.symm
  unfold pcC at ew0
  obtain ⟨w1, hw1⟩ : ∃ w1, w1 = w0.alloc (.cells gapC 9) := ⟨_, rfl⟩
  have hO1 : OneP w B s a cap w1 := by rw [hw1]; exact hO0.step ((Below.refl _ _).alloc (Nat.le_refl _) _)
  have cg : w1.cell? ⟨w0.heap.size, g, none⟩ = some (.string (strB (gapT g))) := by rw [hw1]; exact ((Blk.new w0 gapC 9).cell g).trans (gapC_at g hg4)
  have ew1 := hw1.symm
  unfold gapC at ew1
  have HO1 := hide hO1
  have HB := hide hB
  have x1 : w1.cell? ⟨w.heap.size, 1, none⟩ = some (.int .i64 s.gap) := hB ▸ hO1.cells.2.1
  clear hB
  obtain ⟨gs, hgs⟩ : ∃ gs, gs = strB (gapT g) := ⟨_, rfl⟩
  have hgsz : gs.size ≤ 2 := by rw [hgs, strB_size]; exact gapT_len g
  rw [← hgs] at cg
  have HGS := hide hgs
  have HG4 := hide hg4
  clear hw0 hw1 hO0 hO1 hgs
  go_enter Tryz.func16, Tryz.ntmps16
  go_wp2_with fail
  refine (nothing_any w1).mono ?_
  rintro e w2 ⟨n1, rfl, hn1, hb1⟩
  have HO2 := hide (HO1.out.step hb1)
  clear hn1 hb1 cg ew0 ew1 x1 HO1
  unfold PT
  go_wp2_with fail
  refine (nothing_any w2).mono ?_
  rintro e w3 ⟨n2, rfl, hn2, hb2⟩
  have HO3 := hide (HO2.out.step hb2)
  clear hn2 hb2 HO2
  unfold PT
  rw [← HB.out]
  obtain ⟨x0, x1, x2, x3, x4⟩ := HO3.out.cells
  have hop := pop_any s cs w3 (HC.out.keep (HB.out ▸ HO3.out.below))
  rw [HV0.out, hk] at hop
  have HOP := hide hop
  clear hop
  go_wp2_with fail
  refine HOP.out.mono ?_
  rintro e w4 ⟨rfl, hb⟩
  have HO4 := hide (HO3.out.step hb)
  clear hb HO3 HOP x0 x1 x2 x3 x4
  obtain ⟨x0, x1, x2, x3, x4⟩ := HO4.out.cells
  have hop := pop_any s cs w4 (HC.out.keep (HB.out ▸ HO4.out.below))
  rw [HV0.out, hk] at hop
  have HOP := hide hop
  clear hop
  go_wp2_with fail
  refine HOP.out.mono ?_
  rintro e w5 ⟨rfl, hb⟩
  have HO5 := hide (HO4.out.step hb)
  clear hb HO4 HOP x0 x1 x2 x3 x4
  obtain ⟨x0, x1, x2, x3, x4⟩ := HO5.out.cells
  have hop := pop_any s cs w5 (HC.out.keep (HB.out ▸ HO5.out.below))
  rw [HV0.out, hk] at hop
  have HOP := hide hop
  clear hop
  go_wp2_with fail
  refine HOP.out.mono ?_
  rintro e w6 ⟨rfl, hb⟩
  have HO6 := hide (HO5.out.step hb)
  clear hb HO5 HOP x0 x1 x2 x3 x4
  obtain ⟨lo, hlo⟩ : ∃ lo : Nat, lo = 97 + s.a % 8 := ⟨_, rfl⟩
  have HLO : Hid ((97 : Int) + (s.a : Int) % 8 = (lo : Int)) := by show _ = _; omega
  have HL6 : Hid (lo < 256) := by show _ < _; omega
  obtain ⟨hi, hhi⟩ : ∃ hi : Nat, hi = 97 + s.a % 8 + s.b % 4 := ⟨_, rfl⟩
  have HHI : Hid ((97 : Int) + (s.a : Int) % 8 + (s.b : Int) % 4 = (hi : Int)) := by show _ = _; omega
  have HH6 : Hid (hi < 256) := by show _ < _; omega
  rw [← hhi, ← hlo] at HWR
  clear hlo hhi
  go_wp2_with fail
  refine flowB [.val (.string gs), .val (.int .u8 ((97 : Int) + (s.a : Int) % 8)), .blk #[.int .u8 ((97 : Int) + (s.a : Int) % 8)] 5, .val (.string (strB [lo])), .val (.string (gs ++ strB [lo])), .val (.int .u8 ((97 : Int) + (s.a : Int) % 8)), .blk #[.int .u8 ((97 : Int) + (s.a : Int) % 8)] 5, .val (SV (setOf [lo])), .re (rOne (setOf [lo])), .val (.string (gs ++ strB [lo])), .re (rOne (setOf [lo]))] (by kernel_rfl) (by kernel_rfl) (by kernel_rfl) (by kernel_rfl) ?_ ?_
  · refine ⟨?_, ?_, ?_, ?_, ?_, ?_, ?_, ?_, ?_, ?_, ?_, trivial⟩
    · intro a w hb hk hd
      have e4 : a.eval (.tmp 4) = .string gs := ev ((hk 4 (by kernel_rfl)).trans rfl)
      refine ⟨rfl, fun kk hK => ?_⟩
      exact wp_val (x_move _ _ _ _ _ _ _ _ e4 w) (hK _ _ rfl (Below.refl _ _))
    · intro a w hb hk hd
      have e9 : a.eval (.tmp 9) = .int .u8 ((97 : Int) + (s.a : Int) % 8) := ev ((hk 9 (by kernel_rfl)).trans rfl)
      refine ⟨rfl, fun kk hK => ?_⟩
      exact wp_val (x_move _ _ _ _ _ _ _ _ e9 w) (hK _ _ rfl (Below.refl _ _))
    · intro a w hb hk hd
      obtain ⟨u147, s147, d147⟩ := hd 1 (by kernel_rfl)
      have s147 : u147 = .int .u8 ((97 : Int) + (s.a : Int) % 8) := s147
      subst s147
      have e147 := ev (d147 _ _ rfl rfl)
      refine ⟨rfl, fun kk hK => ?_⟩
      exact wp_val (x_buildZ _ _ _ _ _ _ _ _ w e147) (hK _ _ ⟨w.heap.size, rfl, Blk.new w _ _⟩ (ab w _))
    · intro a w hb hk hd
      obtain ⟨u148, s148, d148⟩ := hd 2 (by kernel_rfl)
      obtain ⟨b148, q148, r148⟩ : ∃ b, u148 = .slice (some ⟨b, 0, none⟩) (#[.int .u8 ((97 : Int) + (s.a : Int) % 8)]).size (#[.int .u8 ((97 : Int) + (s.a : Int) % 8)]).size ∧ Blk w b #[.int .u8 ((97 : Int) + (s.a : Int) % 8)] 5 := s148
      subst q148
      have e148 := ev (d148 _ _ rfl rfl)
      refine ⟨rfl, fun kk hK => ?_⟩
      exact wp_val (x_strZ _ _ _ _ _ _ _ _ _ lo HLO.out e148 w r148) (hK _ _ rfl (Below.refl _ _))
    · intro a w hb hk hd
      obtain ⟨u146, s146, d146⟩ := hd 0 (by kernel_rfl)
      have s146 : u146 = .string gs := s146
      subst s146
      have e146 := ev (d146 _ _ rfl rfl)
      obtain ⟨u149, s149, d149⟩ := hd 3 (by kernel_rfl)
      have s149 : u149 = .string (strB [lo]) := s149
      subst s149
      have e149 := ev (d149 _ _ rfl rfl)
      refine ⟨rfl, fun kk hK => ?_⟩
      exact wp_val (x_addZ _ _ _ _ _ _ _ _ _ _ e146 e149 (by rw [strB_size]; simp; omega) w) (hK _ _ rfl (Below.refl _ _))
    · intro a w hb hk hd
      have e9 : a.eval (.tmp 9) = .int .u8 ((97 : Int) + (s.a : Int) % 8) := ev ((hk 9 (by kernel_rfl)).trans rfl)
      refine ⟨rfl, fun kk hK => ?_⟩
      exact wp_val (x_move _ _ _ _ _ _ _ _ e9 w) (hK _ _ rfl (Below.refl _ _))
    · intro a w hb hk hd
      obtain ⟨u151, s151, d151⟩ := hd 5 (by kernel_rfl)
      have s151 : u151 = .int .u8 ((97 : Int) + (s.a : Int) % 8) := s151
      subst s151
      have e151 := ev (d151 _ _ rfl rfl)
      refine ⟨rfl, fun kk hK => ?_⟩
      exact wp_val (x_buildZ _ _ _ _ _ _ _ _ w e151) (hK _ _ ⟨w.heap.size, rfl, Blk.new w _ _⟩ (ab w _))
    · intro a w hb hk hd
      obtain ⟨u152, s152, d152⟩ := hd 6 (by kernel_rfl)
      obtain ⟨b152, q152, r152⟩ : ∃ b, u152 = .slice (some ⟨b, 0, none⟩) (#[.int .u8 ((97 : Int) + (s.a : Int) % 8)]).size (#[.int .u8 ((97 : Int) + (s.a : Int) % 8)]).size ∧ Blk w b #[.int .u8 ((97 : Int) + (s.a : Int) % 8)] 5 := s152
      subst q152
      have e152 := ev (d152 _ _ rfl rfl)
      refine ⟨rfl, fun kk hK => ?_⟩
      exact wp_ent (x_call1 _ _ _ _ _ _ _ _ _ _ e152 rfl (enters_of Tryz.func19 (by kernel_rfl) rfl) w) ((of_any [lo] (by intro x hx; rw [List.mem_singleton] at hx; have := HL6.out; omega) w _ 1 (row_Z HLO.out r152) (by simp)).mono fun e w' ⟨h1, h3⟩ => ⟨_, h1, hK _ _ rfl h3⟩)
    · intro a w hb hk hd
      obtain ⟨u153, s153, d153⟩ := hd 7 (by kernel_rfl)
      have s153 : u153 = SV (setOf [lo]) := s153
      subst s153
      have e153 := ev (d153 _ _ rfl rfl)
      refine ⟨rfl, fun kk hK => ?_⟩
      exact wp_ent (x_call1 _ _ _ _ _ _ _ _ _ _ e153 rfl (enters_of Tryz.func18 (by kernel_rfl) rfl) w) ((one_any (setOf [lo]) w).mono fun e w' ⟨b, h1, h2, h3⟩ => ⟨_, h1, hK _ _ ⟨b, rfl, h2⟩ h3⟩)
    · intro a w hb hk hd
      obtain ⟨u150, s150, d150⟩ := hd 4 (by kernel_rfl)
      have s150 : u150 = .string (gs ++ strB [lo]) := s150
      subst s150
      have e150 := ev (d150 _ _ rfl rfl)
      refine ⟨rfl, fun kk hK => ?_⟩
      exact wp_val (x_assign _ _ _ _ _ _ _ _ e150 w) (hK _ _ rfl (Below.refl _ _))
    · intro a w hb hk hd
      obtain ⟨u154, s154, d154⟩ := hd 8 (by kernel_rfl)
      obtain ⟨b154, q154, r154⟩ : ∃ b, u154 = PT b ∧ ReAt w b (rOne (setOf [lo])) := s154
      subst q154
      have e154 := ev (d154 _ _ rfl rfl)
      refine ⟨rfl, fun kk hK => ?_⟩
      exact wp_val (x_assign _ _ _ _ _ _ _ _ e154 w) (hK _ _ ⟨b154, rfl, r154⟩ (Below.refl _ _))
  · intro vs wz hlz hbz hRz
    match vs, hlz with
    | [z0, z1, z2, z3, z4, z5, z6, z7, z8, z9, z10], _ =>
      obtain rfl : z0 = .string gs := hRz 0 _ rfl
      obtain rfl : z1 = .int .u8 ((97 : Int) + (s.a : Int) % 8) := hRz 1 _ rfl
      obtain rfl : z3 = .string (strB [lo]) := hRz 3 _ rfl
      obtain rfl : z4 = .string (gs ++ strB [lo]) := hRz 4 _ rfl
      obtain rfl : z5 = .int .u8 ((97 : Int) + (s.a : Int) % 8) := hRz 5 _ rfl
      obtain rfl : z7 = SV (setOf [lo]) := hRz 7 _ rfl
      obtain ⟨y8, x8, hz8⟩ : ∃ b, z8 = PT b ∧ ReAt wz b (rOne (setOf [lo])) := hRz 8 _ rfl
      obtain rfl : z9 = .string (gs ++ strB [lo]) := hRz 9 _ rfl
      obtain ⟨y10, x10, hz10⟩ : ∃ b, z10 = PT b ∧ ReAt wz b (rOne (setOf [lo])) := hRz 10 _ rfl
      simp only [lay, List.map_cons, List.map_nil, Act.put, List.setIfInBounds_toArray, List.set_cons_succ, List.set_cons_zero]
      have HO7 := hide (HO6.out.step hbz)
      subst x8 x10
      unfold PT
      go_wp2
      go_ret2
      have hs : gs ++ strB [lo] = strB s.wr.t := by
        rw [HWR.out, HGS.out, ← strB_append]
        exact congrArg strB (by simp [pcW])
      rw [← hs]
      exact ⟨y10, rfl, by rw [HWR.out]; exact hz10, HB.out ▸ HO7.out.below⟩
set_option maxHeartbeats 4000000 in
theorem pwrite_8 (s : PC) (hk : s.k = 8) : WrOk s := by
  intro cs w h hT
  have HC := hide h
  have HT := hide hT
  obtain ⟨v, hcs, hr, ho, hgb, ha, hb⟩ := h.open
  obtain ⟨hn, a, cap, rfl, -⟩ := hr.at
  have hv0 : PcVal cs = .agg #[.int .i64 s.op, .int .i64 s.gap, .int .u8 s.a, .int .u8 s.b, .slice a s.kids.length cap] := by rw [hcs]; rfl
  have HV0 := hide hv0
  rw [hv0]
  clear h hT hr hv0 hcs
  obtain ⟨g, hg4, hgap⟩ : ∃ g : Nat, g < 4 ∧ bits .and .i64 s.gap 3 = (g : Int) := ⟨s.g, s.g_lt, by rw [i64_and3P]; unfold PC.g; omega⟩
  have HG : Hid (g = s.g) := by
    have h2 : bits .and .i64 s.gap 3 = (s.g : Int) := by rw [i64_and3P]; unfold PC.g; omega
    show g = s.g; omega
  have hA7 := u8_and7 s.a ha
  have hB3 := u8_and3P s.b hb
  have hLo : IntKind.u8.wrap (97 + ((s.a % 8 : Nat) : Int)) = ((97 + s.a % 8 : Nat) : Int) := by simp [IntKind.wrap, IntKind.signed, IntKind.bits]; omega
  have hHi : IntKind.u8.wrap (((97 + s.a % 8 : Nat) : Int) + ((s.b % 4 : Nat) : Int)) = ((97 + s.a % 8 + s.b % 4 : Nat) : Int) := by simp [IntKind.wrap, IntKind.signed, IntKind.bits]; omega
  have HWR : Hid (s.wr = pcW 8 g (97 + s.a % 8) (97 + s.a % 8 + s.b % 4) (s.kid 0).wr (s.kid 1).wr) := by rw [s.wr_kid, hk, HG.out]; rfl
  obtain ⟨B, hB⟩ : ∃ B, B = w.heap.size := ⟨_, rfl⟩
  obtain ⟨w0, hw0⟩ : ∃ w0, w0 = w.alloc (.cells (pcC s a cap) 35) := ⟨_, rfl⟩
  have hO0 : OneP w B s a cap w0 := by rw [hw0]; exact ⟨(Below.refl _ _).alloc (Nat.le_of_eq hB) _, Blk.newAt hB _ _⟩
  have ew0 := hw0.symm
  unfold pcC at ew0
  obtain ⟨w1, hw1⟩ : ∃ w1, w1 = w0.alloc (.cells gapC 9) := ⟨_, rfl⟩
  have hO1 : OneP w B s a cap w1 := by rw [hw1]; exact hO0.step ((Below.refl _ _).alloc (Nat.le_refl _) _)
  have cg : w1.cell? ⟨w0.heap.size, g, none⟩ = some (.string (strB (gapT g))) := by rw [hw1]; exact ((Blk.new w0 gapC 9).cell g).trans (gapC_at g hg4)
  have ew1 := hw1.symm
  unfold gapC at ew1
  have HO1 := hide hO1
  have HB := hide hB
  have x1 : w1.cell? ⟨w.heap.size, 1, none⟩ = some (.int .i64 s.gap) := hB ▸ hO1.cells.2.1
  clear hB
  obtain ⟨gs, hgs⟩ : ∃ gs, gs = strB (gapT g) := ⟨_, rfl⟩
  have hgsz : gs.size ≤ 2 := by rw [hgs, strB_size]; exact gapT_len g
  rw [← hgs] at cg
  have HGS := hide hgs
  have HG4 := hide hg4
  clear hw0 hw1 hO0 hO1 hgs
  go_enter Tryz.func16, Tryz.ntmps16
  go_wp2_with fail
  refine (nothing_any w1).mono ?_
  rintro e w2 ⟨n1, rfl, hn1, hb1⟩
  have HO2 := hide (HO1.out.step hb1)
  clear hn1 hb1 cg ew0 ew1 x1 HO1
  unfold PT
  go_wp2_with fail
  refine (nothing_any w2).mono ?_
  rintro e w3 ⟨n2, rfl, hn2, hb2⟩
  have HO3 := hide (HO2.out.step hb2)
  clear hn2 hb2 HO2
  unfold PT
  rw [← HB.out]
  obtain ⟨x0, x1, x2, x3, x4⟩ := HO3.out.cells
  have hop := pop_any s cs w3 (HC.out.keep (HB.out ▸ HO3.out.below))
  rw [HV0.out, hk] at hop
  have HOP := hide hop
  clear hop
  go_wp2_with fail
  refine HOP.out.mono ?_
  rintro e w4 ⟨rfl, hb⟩
  have HO4 := hide (HO3.out.step hb)
  clear hb HO3 HOP x0 x1 x2 x3 x4
  obtain ⟨x0, x1, x2, x3, x4⟩ := HO4.out.cells
  have hop := pop_any s cs w4 (HC.out.keep (HB.out ▸ HO4.out.below))
  rw [HV0.out, hk] at hop
  have HOP := hide hop
  clear hop
  go_wp2_with fail
  refine HOP.out.mono ?_
  rintro e w5 ⟨rfl, hb⟩
  have HO5 := hide (HO4.out.step hb)
  clear hb HO4 HOP x0 x1 x2 x3 x4
  obtain ⟨x0, x1, x2, x3, x4⟩ := HO5.out.cells
  have hop := pop_any s cs w5 (HC.out.keep (HB.out ▸ HO5.out.below))
  rw [HV0.out, hk] at hop
  have HOP := hide hop
  clear hop
  go_wp2_with fail
  refine HOP.out.mono ?_
  rintro e w6 ⟨rfl, hb⟩
  have HO6 := hide (HO5.out.step hb)
  clear hb HO5 HOP x0 x1 x2 x3 x4
  obtain ⟨lo, hlo⟩ : ∃ lo : Nat, lo = 97 + s.a % 8 := ⟨_, rfl⟩
  have HLO : Hid ((97 : Int) + (s.a : Int) % 8 = (lo : Int)) := by show _ = _; omega
  have HL6 : Hid (lo < 256) := by show _ < _; omega
  obtain ⟨hi, hhi⟩ : ∃ hi : Nat, hi = 97 + s.a % 8 + s.b % 4 := ⟨_, rfl⟩
  have HHI : Hid ((97 : Int) + (s.a : Int) % 8 + (s.b : Int) % 4 = (hi : Int)) := by show _ = _; omega
  have HH6 : Hid (hi < 256) := by show _ < _; omega
  rw [← hhi, ← hlo] at HWR
  clear hlo hhi
  have HFR : Hid (∀ w, Calls Tryz.prog 47 #[.int .u8 ((97 : Int) + (s.a : Int) % 8), .int .u8 ((97 : Int) + (s.a : Int) % 8 + (s.b : Int) % 4)] w fun e w' => e = .returned (SV (span lo (hi + 1))) ∧ Below w.heap.size w w') := by
    show ∀ w, Calls _ _ _ _ _
    intro w
    rw [HHI.out, HLO.out]
    exact from_any lo hi HL6.out HH6.out w
  go_wp2_with fail
  refine flowB [.val (.string gs), .val (.string (gs ++ ⟨#[91]⟩)), .val (.int .u8 ((97 : Int) + (s.a : Int) % 8)), .blk #[.int .u8 ((97 : Int) + (s.a : Int) % 8)] 5, .val (.string (strB [lo])), .val (.string (gs ++ ⟨#[91]⟩ ++ strB [lo])), .val (.string (gs ++ ⟨#[91]⟩ ++ strB [lo] ++ ⟨#[45]⟩)), .val (.int .u8 ((97 : Int) + (s.a : Int) % 8 + (s.b : Int) % 4)), .blk #[.int .u8 ((97 : Int) + (s.a : Int) % 8 + (s.b : Int) % 4)] 5, .val (.string (strB [hi])), .val (.string (gs ++ ⟨#[91]⟩ ++ strB [lo] ++ ⟨#[45]⟩ ++ strB [hi])), .val (.string (gs ++ ⟨#[91]⟩ ++ strB [lo] ++ ⟨#[45]⟩ ++ strB [hi] ++ ⟨#[93]⟩)), .val (.int .u8 ((97 : Int) + (s.a : Int) % 8)), .val (.int .u8 ((97 : Int) + (s.a : Int) % 8 + (s.b : Int) % 4)), .val (SV (span lo (hi + 1))), .re (rOne (span lo (hi + 1))), .val (.string (gs ++ ⟨#[91]⟩ ++ strB [lo] ++ ⟨#[45]⟩ ++ strB [hi] ++ ⟨#[93]⟩)), .re (rOne (span lo (hi + 1)))] (by kernel_rfl) (by kernel_rfl) (by kernel_rfl) (by kernel_rfl) ?_ ?_
  · refine ⟨?_, ?_, ?_, ?_, ?_, ?_, ?_, ?_, ?_, ?_, ?_, ?_, ?_, ?_, ?_, ?_, ?_, ?_, trivial⟩
    · intro a w hb hk hd
      have e4 : a.eval (.tmp 4) = .string gs := ev ((hk 4 (by kernel_rfl)).trans rfl)
      refine ⟨rfl, fun kk hK => ?_⟩
      exact wp_val (x_move _ _ _ _ _ _ _ _ e4 w) (hK _ _ rfl (Below.refl _ _))
    · intro a w hb hk hd
      obtain ⟨u157, s157, d157⟩ := hd 0 (by kernel_rfl)
      have s157 : u157 = .string gs := s157
      subst s157
      have e157 := ev (d157 _ _ rfl rfl)
      refine ⟨rfl, fun kk hK => ?_⟩
      exact wp_val (x_addZ _ _ _ _ _ _ _ _ _ _ e157 rfl (by (try simp only [ByteArray.size_append, strB_size, List.length_singleton]); (try simp only [show (⟨#[91]⟩ : ByteArray).size = 1 from rfl, show (⟨#[45]⟩ : ByteArray).size = 1 from rfl, show (⟨#[93]⟩ : ByteArray).size = 1 from rfl]); omega) w) (hK _ _ rfl (Below.refl _ _))
    · intro a w hb hk hd
      have e9 : a.eval (.tmp 9) = .int .u8 ((97 : Int) + (s.a : Int) % 8) := ev ((hk 9 (by kernel_rfl)).trans rfl)
      refine ⟨rfl, fun kk hK => ?_⟩
      exact wp_val (x_move _ _ _ _ _ _ _ _ e9 w) (hK _ _ rfl (Below.refl _ _))
    · intro a w hb hk hd
      obtain ⟨u159, s159, d159⟩ := hd 2 (by kernel_rfl)
      have s159 : u159 = .int .u8 ((97 : Int) + (s.a : Int) % 8) := s159
      subst s159
      have e159 := ev (d159 _ _ rfl rfl)
      refine ⟨rfl, fun kk hK => ?_⟩
      exact wp_val (x_buildZ _ _ _ _ _ _ _ _ w e159) (hK _ _ ⟨w.heap.size, rfl, Blk.new w _ _⟩ (ab w _))
    · intro a w hb hk hd
      obtain ⟨u160, s160, d160⟩ := hd 3 (by kernel_rfl)
      obtain ⟨b160, q160, r160⟩ : ∃ b, u160 = .slice (some ⟨b, 0, none⟩) (#[.int .u8 ((97 : Int) + (s.a : Int) % 8)]).size (#[.int .u8 ((97 : Int) + (s.a : Int) % 8)]).size ∧ Blk w b #[.int .u8 ((97 : Int) + (s.a : Int) % 8)] 5 := s160
      subst q160
      have e160 := ev (d160 _ _ rfl rfl)
      refine ⟨rfl, fun kk hK => ?_⟩
      exact wp_val (x_strZ _ _ _ _ _ _ _ _ _ lo HLO.out e160 w r160) (hK _ _ rfl (Below.refl _ _))
    · intro a w hb hk hd
      obtain ⟨u158, s158, d158⟩ := hd 1 (by kernel_rfl)
      have s158 : u158 = .string (gs ++ ⟨#[91]⟩) := s158
      subst s158
      have e158 := ev (d158 _ _ rfl rfl)
      obtain ⟨u161, s161, d161⟩ := hd 4 (by kernel_rfl)
      have s161 : u161 = .string (strB [lo]) := s161
      subst s161
      have e161 := ev (d161 _ _ rfl rfl)
      refine ⟨rfl, fun kk hK => ?_⟩
      exact wp_val (x_addZ _ _ _ _ _ _ _ _ _ _ e158 e161 (by (try simp only [ByteArray.size_append, strB_size, List.length_singleton]); (try simp only [show (⟨#[91]⟩ : ByteArray).size = 1 from rfl, show (⟨#[45]⟩ : ByteArray).size = 1 from rfl, show (⟨#[93]⟩ : ByteArray).size = 1 from rfl]); omega) w) (hK _ _ rfl (Below.refl _ _))
    · intro a w hb hk hd
      obtain ⟨u162, s162, d162⟩ := hd 5 (by kernel_rfl)
      have s162 : u162 = .string (gs ++ ⟨#[91]⟩ ++ strB [lo]) := s162
      subst s162
      have e162 := ev (d162 _ _ rfl rfl)
      refine ⟨rfl, fun kk hK => ?_⟩
      exact wp_val (x_addZ _ _ _ _ _ _ _ _ _ _ e162 rfl (by (try simp only [ByteArray.size_append, strB_size, List.length_singleton]); (try simp only [show (⟨#[91]⟩ : ByteArray).size = 1 from rfl, show (⟨#[45]⟩ : ByteArray).size = 1 from rfl, show (⟨#[93]⟩ : ByteArray).size = 1 from rfl]); omega) w) (hK _ _ rfl (Below.refl _ _))
    · intro a w hb hk hd
      have e10 : a.eval (.tmp 10) = .int .u8 ((97 : Int) + (s.a : Int) % 8 + (s.b : Int) % 4) := ev ((hk 10 (by kernel_rfl)).trans rfl)
      refine ⟨rfl, fun kk hK => ?_⟩
      exact wp_val (x_move _ _ _ _ _ _ _ _ e10 w) (hK _ _ rfl (Below.refl _ _))
    · intro a w hb hk hd
      obtain ⟨u164, s164, d164⟩ := hd 7 (by kernel_rfl)
      have s164 : u164 = .int .u8 ((97 : Int) + (s.a : Int) % 8 + (s.b : Int) % 4) := s164
      subst s164
      have e164 := ev (d164 _ _ rfl rfl)
      refine ⟨rfl, fun kk hK => ?_⟩
      exact wp_val (x_buildZ _ _ _ _ _ _ _ _ w e164) (hK _ _ ⟨w.heap.size, rfl, Blk.new w _ _⟩ (ab w _))
    · intro a w hb hk hd
      obtain ⟨u165, s165, d165⟩ := hd 8 (by kernel_rfl)
      obtain ⟨b165, q165, r165⟩ : ∃ b, u165 = .slice (some ⟨b, 0, none⟩) (#[.int .u8 ((97 : Int) + (s.a : Int) % 8 + (s.b : Int) % 4)]).size (#[.int .u8 ((97 : Int) + (s.a : Int) % 8 + (s.b : Int) % 4)]).size ∧ Blk w b #[.int .u8 ((97 : Int) + (s.a : Int) % 8 + (s.b : Int) % 4)] 5 := s165
      subst q165
      have e165 := ev (d165 _ _ rfl rfl)
      refine ⟨rfl, fun kk hK => ?_⟩
      exact wp_val (x_strZ _ _ _ _ _ _ _ _ _ hi HHI.out e165 w r165) (hK _ _ rfl (Below.refl _ _))
    · intro a w hb hk hd
      obtain ⟨u163, s163, d163⟩ := hd 6 (by kernel_rfl)
      have s163 : u163 = .string (gs ++ ⟨#[91]⟩ ++ strB [lo] ++ ⟨#[45]⟩) := s163
      subst s163
      have e163 := ev (d163 _ _ rfl rfl)
      obtain ⟨u166, s166, d166⟩ := hd 9 (by kernel_rfl)
      have s166 : u166 = .string (strB [hi]) := s166
      subst s166
      have e166 := ev (d166 _ _ rfl rfl)
      refine ⟨rfl, fun kk hK => ?_⟩
      exact wp_val (x_addZ _ _ _ _ _ _ _ _ _ _ e163 e166 (by (try simp only [ByteArray.size_append, strB_size, List.length_singleton]); (try simp only [show (⟨#[91]⟩ : ByteArray).size = 1 from rfl, show (⟨#[45]⟩ : ByteArray).size = 1 from rfl, show (⟨#[93]⟩ : ByteArray).size = 1 from rfl]); omega) w) (hK _ _ rfl (Below.refl _ _))
    · intro a w hb hk hd
      obtain ⟨u167, s167, d167⟩ := hd 10 (by kernel_rfl)
      have s167 : u167 = .string (gs ++ ⟨#[91]⟩ ++ strB [lo] ++ ⟨#[45]⟩ ++ strB [hi]) := s167
      subst s167
      have e167 := ev (d167 _ _ rfl rfl)
      refine ⟨rfl, fun kk hK => ?_⟩
      exact wp_val (x_addZ _ _ _ _ _ _ _ _ _ _ e167 rfl (by (try simp only [ByteArray.size_append, strB_size, List.length_singleton]); (try simp only [show (⟨#[91]⟩ : ByteArray).size = 1 from rfl, show (⟨#[45]⟩ : ByteArray).size = 1 from rfl, show (⟨#[93]⟩ : ByteArray).size = 1 from rfl]); omega) w) (hK _ _ rfl (Below.refl _ _))
    · intro a w hb hk hd
      have e9 : a.eval (.tmp 9) = .int .u8 ((97 : Int) + (s.a : Int) % 8) := ev ((hk 9 (by kernel_rfl)).trans rfl)
      refine ⟨rfl, fun kk hK => ?_⟩
      exact wp_val (x_move _ _ _ _ _ _ _ _ e9 w) (hK _ _ rfl (Below.refl _ _))
    · intro a w hb hk hd
      have e10 : a.eval (.tmp 10) = .int .u8 ((97 : Int) + (s.a : Int) % 8 + (s.b : Int) % 4) := ev ((hk 10 (by kernel_rfl)).trans rfl)
      refine ⟨rfl, fun kk hK => ?_⟩
      exact wp_val (x_move _ _ _ _ _ _ _ _ e10 w) (hK _ _ rfl (Below.refl _ _))
    · intro a w hb hk hd
      obtain ⟨u169, s169, d169⟩ := hd 12 (by kernel_rfl)
      have s169 : u169 = .int .u8 ((97 : Int) + (s.a : Int) % 8) := s169
      subst s169
      have e169 := ev (d169 _ _ rfl rfl)
      obtain ⟨u170, s170, d170⟩ := hd 13 (by kernel_rfl)
      have s170 : u170 = .int .u8 ((97 : Int) + (s.a : Int) % 8 + (s.b : Int) % 4) := s170
      subst s170
      have e170 := ev (d170 _ _ rfl rfl)
      refine ⟨rfl, fun kk hK => ?_⟩
      exact wp_ent (x_call2 _ _ _ _ _ _ _ _ _ _ _ _ _ e169 e170 rfl (enters_of Tryz.func47 (by kernel_rfl) rfl) w) ((HFR.out w).mono fun e w' ⟨h1, h3⟩ => ⟨_, h1, hK _ _ rfl h3⟩)
    · intro a w hb hk hd
      obtain ⟨u171, s171, d171⟩ := hd 14 (by kernel_rfl)
      have s171 : u171 = SV (span lo (hi + 1)) := s171
      subst s171
      have e171 := ev (d171 _ _ rfl rfl)
      refine ⟨rfl, fun kk hK => ?_⟩
      exact wp_ent (x_call1 _ _ _ _ _ _ _ _ _ _ e171 rfl (enters_of Tryz.func18 (by kernel_rfl) rfl) w) ((one_any (span lo (hi + 1)) w).mono fun e w' ⟨b, h1, h2, h3⟩ => ⟨_, h1, hK _ _ ⟨b, rfl, h2⟩ h3⟩)
    · intro a w hb hk hd
      obtain ⟨u168, s168, d168⟩ := hd 11 (by kernel_rfl)
      have s168 : u168 = .string (gs ++ ⟨#[91]⟩ ++ strB [lo] ++ ⟨#[45]⟩ ++ strB [hi] ++ ⟨#[93]⟩) := s168
      subst s168
      have e168 := ev (d168 _ _ rfl rfl)
      refine ⟨rfl, fun kk hK => ?_⟩
      exact wp_val (x_assign _ _ _ _ _ _ _ _ e168 w) (hK _ _ rfl (Below.refl _ _))
    · intro a w hb hk hd
      obtain ⟨u172, s172, d172⟩ := hd 15 (by kernel_rfl)
      obtain ⟨b172, q172, r172⟩ : ∃ b, u172 = PT b ∧ ReAt w b (rOne (span lo (hi + 1))) := s172
      subst q172
      have e172 := ev (d172 _ _ rfl rfl)
      refine ⟨rfl, fun kk hK => ?_⟩
      exact wp_val (x_assign _ _ _ _ _ _ _ _ e172 w) (hK _ _ ⟨b172, rfl, r172⟩ (Below.refl _ _))
  · intro vs wz hlz hbz hRz
    match vs, hlz with
    | [z0, z1, z2, z3, z4, z5, z6, z7, z8, z9, z10, z11, z12, z13, z14, z15, z16, z17], _ =>
      obtain rfl : z0 = .string gs := hRz 0 _ rfl
      obtain rfl : z1 = .string (gs ++ ⟨#[91]⟩) := hRz 1 _ rfl
      obtain rfl : z2 = .int .u8 ((97 : Int) + (s.a : Int) % 8) := hRz 2 _ rfl
      obtain rfl : z4 = .string (strB [lo]) := hRz 4 _ rfl
      obtain rfl : z5 = .string (gs ++ ⟨#[91]⟩ ++ strB [lo]) := hRz 5 _ rfl
      obtain rfl : z6 = .string (gs ++ ⟨#[91]⟩ ++ strB [lo] ++ ⟨#[45]⟩) := hRz 6 _ rfl
      obtain rfl : z7 = .int .u8 ((97 : Int) + (s.a : Int) % 8 + (s.b : Int) % 4) := hRz 7 _ rfl
      obtain rfl : z9 = .string (strB [hi]) := hRz 9 _ rfl
      obtain rfl : z10 = .string (gs ++ ⟨#[91]⟩ ++ strB [lo] ++ ⟨#[45]⟩ ++ strB [hi]) := hRz 10 _ rfl
      obtain rfl : z11 = .string (gs ++ ⟨#[91]⟩ ++ strB [lo] ++ ⟨#[45]⟩ ++ strB [hi] ++ ⟨#[93]⟩) := hRz 11 _ rfl
      obtain rfl : z12 = .int .u8 ((97 : Int) + (s.a : Int) % 8) := hRz 12 _ rfl
      obtain rfl : z13 = .int .u8 ((97 : Int) + (s.a : Int) % 8 + (s.b : Int) % 4) := hRz 13 _ rfl
      obtain rfl : z14 = SV (span lo (hi + 1)) := hRz 14 _ rfl
      obtain ⟨y15, x15, hz15⟩ : ∃ b, z15 = PT b ∧ ReAt wz b (rOne (span lo (hi + 1))) := hRz 15 _ rfl
      obtain rfl : z16 = .string (gs ++ ⟨#[91]⟩ ++ strB [lo] ++ ⟨#[45]⟩ ++ strB [hi] ++ ⟨#[93]⟩) := hRz 16 _ rfl
      obtain ⟨y17, x17, hz17⟩ : ∃ b, z17 = PT b ∧ ReAt wz b (rOne (span lo (hi + 1))) := hRz 17 _ rfl
      simp only [lay, List.map_cons, List.map_nil, Act.put, List.setIfInBounds_toArray, List.set_cons_succ, List.set_cons_zero]
      have HO7 := hide (HO6.out.step hbz)
      subst x15 x17
      unfold PT
      go_wp2
      go_ret2
      have hs : gs ++ ⟨#[91]⟩ ++ strB [lo] ++ ⟨#[45]⟩ ++ strB [hi] ++ ⟨#[93]⟩ = strB s.wr.t := by
        rw [HWR.out, HGS.out]
        show strB (gapT g) ++ strB [91] ++ strB [lo] ++ strB [45] ++ strB [hi] ++ strB [93] = strB _
        simp only [← strB_append]
        exact congrArg strB (by simp [pcW])
      rw [← hs]
      exact ⟨y17, rfl, by rw [HWR.out]; exact hz17, HB.out ▸ HO7.out.below⟩
end Go.Proofs.YtdbdjjjmomociaaGreatDoor
