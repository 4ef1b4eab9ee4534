/- Texts of this claim put together: LxW4, LxW5. -/
import Derived.Test.YtjlgepahgmkamaaGreatDoorJoinLxW0
/- token: a text between quotes. -/
namespace Go.Proofs.YtjlgepahgmkamaaGreatDoor
set_option maxRecDepth 100000
set_option linter.unusedSimpArgs false
set_option linter.unusedVariables false
open Go.RowKit Go.Shelf

set_option maxHeartbeats 3000000 in
theorem lxTok_text (p : Nat) (s : ByteArray) (a x0 b c : Nat) (w : World) (h : LxAt w p s a 0 x0) (hT : TabAt w) (ha : a ≤ s.size) (hb : b = a + skN false ((bytesN s).drop a)) (hcb : (bytesN s)[b]? = some c) (hl : letB c true = false) (hs : sgL.contains c = false) (h34 : c = 34) :
    Calls Tryz.prog 18 #[PT p] w fun r w' => TokPost s p x0 w (tokF s a) r w' := by
  have hres : tokF s a = tokB s b c := by
    unfold tokF
    rw [← hb, hcb]
  rw [hres]
  clear hres
  have hbig := h.big
  obtain ⟨w0, hw0⟩ : ∃ w0, w0 = w.alloc (.cells #[.int .i64 0, .string ⟨#[]⟩, .pointer none, .int .i64 0] 35) := ⟨_, rfl⟩
  have hB0 : Below w.heap.size w w0 := by rw [hw0]; exact (Below.refl _ _).alloc (Nat.le_refl _) _
  have HTC : Hid (Blk w0 w.heap.size #[.int .i64 0, .string ⟨#[]⟩, .pointer none, .int .i64 0] 35) := by rw [hw0]; exact Blk.newAt rfl _ _
  have HSK : Hid (Calls Tryz.prog 36 #[PT p] (w.alloc (.cells #[.int .i64 0, .string ⟨#[]⟩, .pointer none, .int .i64 0] 35)) fun r w' => r = .returned (.tuple #[]) ∧ LxAt w' p s b 0 x0 ∧ Aside p w0 w') := by
    rw [← hw0, hb]; exact lxSkip p s a 0 x0 _ w0 (h.keep hB0) ha rfl
  have hbs : b ≤ s.size := by
    have := skN_le ((bytesN s).drop a) false
    rw [List.length_drop, bN_len] at this
    omega
  have HA00 : Hid (Aside p w w0) := Aside.of_below hB0
  have HH := hide h
  have HT := hide hT
  clear hw0 hB0 hb h hT
  unfold PT at HSK ⊢
  go_enter Tryz.func18, Tryz.ntmps18
  go_wp2_with fail
  refine HSK.out.mono ?_
  rintro r w2 ⟨rfl, h2, hA2⟩
  have HL2 := hide h2
  have HA2 := hide hA2
  have c1 := h2.c1
  clear h2 hA2 HSK
  obtain ⟨T, hT⟩ : ∃ T, T = w2.heap.size := ⟨_, rfl⟩
  obtain ⟨w3, hw3⟩ : ∃ w3, w3 = w2.alloc (.cells #[.int .i64 0, .string ⟨#[]⟩, .pointer none, .int .i64 b] 35) := ⟨_, rfl⟩
  have hB3 : Below w2.heap.size w2 w3 := by rw [hw3]; exact (Below.refl _ _).alloc (Nat.le_refl _) _
  have HTT : Hid (Blk w3 T #[.int .i64 0, .string ⟨#[]⟩, .pointer none, .int .i64 b] 35) := by rw [hw3, hT]; exact Blk.newAt rfl _ _
  have HL3 : Hid (LxAt w3 p s b 0 x0) := HL2.out.keep hB3
  have HA30 : Hid (Aside p w0 w3) := HA2.out.trans (Aside.of_below hB3)
  have HA3 : Hid (Aside p w w3) := HA00.out.trans HA30.out
  have hpT : p < w.heap.size := HH.out.blk.lt
  have HTC3 : Hid (Blk w3 w.heap.size #[.int .i64 0, .string ⟨#[]⟩, .pointer none, .int .i64 0] 35) := (HA30.out.block _ HTC.out.lt (by omega)).trans HTC.out
  have HTN : Hid (w.heap.size < T) := by show _ < _; rw [hT]; exact Nat.lt_of_lt_of_le HTC.out.lt HA2.out.size
  have HPT := hide hpT
  obtain ⟨N, hN⟩ : ∃ N, N = w.heap.size := ⟨_, rfl⟩
  have HN := hide hN
  rw [← hN] at HTC3 HTN HPT
  go_wp2
  rw [← hw3, ← hT, ← hN]
  clear hw3 hB3 hT c1 hpT hN HTC HL2 HA2 HA30 HA00
  try rw [show Value.pointer (some ⟨p, 0, none⟩) = PT p from rfl]
  obtain ⟨C, hC⟩ : ∃ C : World → Prop, C = fun V => Below w3.heap.size w3 V := ⟨_, rfl⟩
  have HCD : Hid (C { w3 with drawn := w3.drawn + 1 }) := by rw [hC]; exact ⟨rfl, rfl, rfl, Nat.le_refl _, fun _ _ => rfl⟩
  have HCB : Hid (∀ V, C V → Below w3.heap.size w3 V) := by rw [hC]; exact fun V h => h
  clear hC
  have y0 : ∀ V, C V → V.cell? ⟨p, 0, none⟩ = some (.string s) := fun V hV => (HL3.out.keep (HCB.out V hV)).c0
  have y1 : ∀ V, C V → V.cell? ⟨p, 1, none⟩ = some (.int .i64 b) := fun V hV => (HL3.out.keep (HCB.out V hV)).c1
  have hbl : b < s.size := by have := (List.getElem?_eq_some_iff.1 hcb).1; rwa [bN_len] at this
  have heq : ((b : Int) == (s.size : Int)) = false := by simp; omega
  have hc256 : c < 256 := bN_lt s c (List.mem_of_getElem? hcb)
  refine w_lit (C := C) (by kernel_rfl) (by kernel_rfl) HCD.out ?_
  refine w_value (PT p) (by kernel_rfl) (fun w hw => x_move _ _ _ _ _ _ _ _ rfl w) ?_
  simp only [Act.put, List.setIfInBounds_toArray, List.set_cons_succ, List.set_cons_zero]
  refine w_value (PT p) (by kernel_rfl) (fun w hw => x_nilCheck _ _ _ _ _ _ _ _ rfl w) ?_
  simp only [Act.put, List.setIfInBounds_toArray, List.set_cons_succ, List.set_cons_zero]
  refine w_value (.pointer (some ⟨p, 1, none⟩)) (by kernel_rfl) (fun w hw => x_lxF1 _ _ _ _ _ _ _ _ rfl w) ?_
  simp only [Act.put, List.setIfInBounds_toArray, List.set_cons_succ, List.set_cons_zero]
  refine w_value (.int .i64 b) (by kernel_rfl) (fun w hw => x_ldN _ _ _ _ _ _ _ p 1 _ rfl w (y1 w hw)) ?_
  simp only [Act.put, List.setIfInBounds_toArray, List.set_cons_succ, List.set_cons_zero]
  refine w_value (PT p) (by kernel_rfl) (fun w hw => x_move _ _ _ _ _ _ _ _ rfl w) ?_
  simp only [Act.put, List.setIfInBounds_toArray, List.set_cons_succ, List.set_cons_zero]
  refine w_value (PT p) (by kernel_rfl) (fun w hw => x_nilCheck _ _ _ _ _ _ _ _ rfl w) ?_
  simp only [Act.put, List.setIfInBounds_toArray, List.set_cons_succ, List.set_cons_zero]
  refine w_value (PT p) (by kernel_rfl) (fun w hw => x_lxF0 _ _ _ _ _ _ _ _ rfl w) ?_
  simp only [Act.put, List.setIfInBounds_toArray, List.set_cons_succ, List.set_cons_zero]
  refine w_value (.string s) (by kernel_rfl) (fun w hw => x_ldS _ _ _ _ _ _ _ p _ rfl w (y0 w hw)) ?_
  simp only [Act.put, List.setIfInBounds_toArray, List.set_cons_succ, List.set_cons_zero]
  refine w_value (.int .i64 s.size) (by kernel_rfl) (fun w hw => x_lenS _ _ _ _ _ _ _ s rfl w) ?_
  simp only [Act.put, List.setIfInBounds_toArray, List.set_cons_succ, List.set_cons_zero]
  refine w_value (.bool false) (by kernel_rfl) (fun w hw => x_eqN _ _ _ _ _ _ _ _ b s.size false heq rfl rfl w) ?_
  simp only [Act.put, List.setIfInBounds_toArray, List.set_cons_succ, List.set_cons_zero]
  refine w_nil ?_
  intro W0 hCW
  have HL5 := hide (HL3.out.keep (HCB.out W0 hCW))
  have HA5 := hide (HA3.out.trans (Aside.of_below (HCB.out W0 hCW)))
  have HT5 := hide (HTT.out.below (HCB.out W0 hCW) HTT.out.lt)
  have HC5 := hide (HTC3.out.below (HCB.out W0 hCW) HTC3.out.lt)
  clear hCW y0 y1
  go_wp2
  try rw [show Value.pointer (some ⟨p, 0, none⟩) = PT p from rfl]
  obtain ⟨D, hD⟩ : ∃ D : World → Prop, D = fun V => Below W0.heap.size W0 V := ⟨_, rfl⟩
  have HDD : Hid (D { W0 with drawn := W0.drawn + 1 }) := by rw [hD]; exact ⟨rfl, rfl, rfl, Nat.le_refl _, fun _ _ => rfl⟩
  have HDB : Hid (∀ V, D V → Below W0.heap.size W0 V) := by rw [hD]; exact fun V h => h
  clear hD
  have z0 : ∀ V, D V → V.cell? ⟨p, 0, none⟩ = some (.string s) := fun V hV => (HL5.out.keep (HDB.out V hV)).c0
  have z1 : ∀ V, D V → V.cell? ⟨p, 1, none⟩ = some (.int .i64 b) := fun V hV => (HL5.out.keep (HDB.out V hV)).c1
  refine w_lit (C := D) (by kernel_rfl) (by kernel_rfl) HDD.out ?_
  refine w_value (PT p) (by kernel_rfl) (fun w hw => x_move _ _ _ _ _ _ _ _ rfl w) ?_
  simp only [Act.put, List.setIfInBounds_toArray, List.set_cons_succ, List.set_cons_zero]
  refine w_value (PT p) (by kernel_rfl) (fun w hw => x_nilCheck _ _ _ _ _ _ _ _ rfl w) ?_
  simp only [Act.put, List.setIfInBounds_toArray, List.set_cons_succ, List.set_cons_zero]
  refine w_value (PT p) (by kernel_rfl) (fun w hw => x_lxF0 _ _ _ _ _ _ _ _ rfl w) ?_
  simp only [Act.put, List.setIfInBounds_toArray, List.set_cons_succ, List.set_cons_zero]
  refine w_value (.string s) (by kernel_rfl) (fun w hw => x_ldS _ _ _ _ _ _ _ p _ rfl w (z0 w hw)) ?_
  simp only [Act.put, List.setIfInBounds_toArray, List.set_cons_succ, List.set_cons_zero]
  refine w_value (PT p) (by kernel_rfl) (fun w hw => x_move _ _ _ _ _ _ _ _ rfl w) ?_
  simp only [Act.put, List.setIfInBounds_toArray, List.set_cons_succ, List.set_cons_zero]
  refine w_value (PT p) (by kernel_rfl) (fun w hw => x_nilCheck _ _ _ _ _ _ _ _ rfl w) ?_
  simp only [Act.put, List.setIfInBounds_toArray, List.set_cons_succ, List.set_cons_zero]
  refine w_value (.pointer (some ⟨p, 1, none⟩)) (by kernel_rfl) (fun w hw => x_lxF1 _ _ _ _ _ _ _ _ rfl w) ?_
  simp only [Act.put, List.setIfInBounds_toArray, List.set_cons_succ, List.set_cons_zero]
  refine w_value (.int .i64 b) (by kernel_rfl) (fun w hw => x_ldN _ _ _ _ _ _ _ p 1 _ rfl w (z1 w hw)) ?_
  simp only [Act.put, List.setIfInBounds_toArray, List.set_cons_succ, List.set_cons_zero]
  refine w_value (.int .u8 c) (by kernel_rfl) (fun w hw => x_sIdx _ _ _ _ _ _ _ _ s b c hcb rfl rfl w) ?_
  simp only [Act.put, List.setIfInBounds_toArray, List.set_cons_succ, List.set_cons_zero]
  refine w_value (.int .u8 c) (by kernel_rfl) (fun w hw => x_assign _ _ _ _ _ _ _ _ rfl w) ?_
  simp only [Act.put, List.setIfInBounds_toArray, List.set_cons_succ, List.set_cons_zero]
  refine w_nil ?_
  intro W hCW
  have HL4 := hide (HL5.out.keep (HDB.out W hCW))
  have HA4 := hide (HA5.out.trans (Aside.of_below (HDB.out W hCW)))
  have HT4 := hide (HT5.out.below (HDB.out W hCW) HT5.out.lt)
  have HC4 := hide (HC5.out.below (HDB.out W hCW) HC5.out.lt)
  clear hCW z0 z1
  clear HL3 HA3 HTT HTC3 HL5 HA5 HT5 HC5
  have HLET := hide (lexLetter_any c hc256 true W)
  rw [hl] at HLET
  obtain ⟨z, hz⟩ : ∃ z, z = idxI (bytesN ⟨#[40, 41, 44, 46, 59, 124, 42, 61]⟩) c := ⟨_, rfl⟩
  have esg : bytesN ⟨#[40, 41, 44, 46, 59, 124, 42, 61]⟩ = sgL := by decide +kernel
  have hzq : decide (0 ≤ z) = false := by rw [hz, esg, idxI_pos]; exact hs
  have HIX := hide (indexByte_any ⟨#[40, 41, 44, 46, 59, 124, 42, 61]⟩ c hc256 W)
  rw [← hz] at HIX
  have HLB := hide hl
  have HSB := hide hs
  clear hz esg hl hs
  obtain ⟨⟨L, K, F⟩, hq⟩ : ∃ q, txN (s.size + 1) ((bytesN s).drop (b + 1)) = q := ⟨_, rfl⟩
  have HTW : Hid (TabAt W) := HT.out.asideL HH.out.blk HA4.out
  have HTX := hide (lxText_any p s b x0 L K F W HL4.out HTW.out hbl hq)
  have HQ := hide hq
  have h34b : ((c : Int) == 34) = true := by rw [h34]; rfl
  have H34 := hide h34
  clear hq hcb h34
  unfold PT at HTX
  try unfold PT
  go_wp2_with fail
  refine HLET.out.mono ?_
  rintro r w5 ⟨rfl, rfl⟩
  go_wp2_with fail
  refine HIX.out.mono ?_
  rintro r w5 ⟨rfl, rfl⟩
  go_wp2_with fail
  refine HTX.out.mono ?_
  rintro r w6 ⟨h6a, h6b, hA6⟩
  have HT6 : Hid (Blk w6 T #[.int .i64 0, .string ⟨#[]⟩, .pointer none, .int .i64 b] 35) := (hA6.block _ HT4.out.lt (by have := HTN.out; have := HPT.out; omega)).trans HT4.out
  have HC6 : Hid (Blk w6 N #[.int .i64 0, .string ⟨#[]⟩, .pointer none, .int .i64 0] 35) := (hA6.block _ HC4.out.lt (by have := HPT.out; omega)).trans HC4.out
  have HA6 : Hid (Aside p w w6) := HA4.out.trans hA6
  by_cases hE : F = true ∨ b + 1 + K = s.size
  · obtain ⟨tx, at6, rfl, h6⟩ := h6a hE
    have HL6 := hide h6
    have HE := hide hE
    clear h6a h6b h6 hA6 hE HTX HLET HIX
    have t0 := HT6.out.cell 0; have t1 := HT6.out.cell 1; have t2 := HT6.out.cell 2; have t3 := HT6.out.cell 3
    have f0 := HT6.out.frozen 0; have f1 := HT6.out.frozen 1; have f2 := HT6.out.frozen 2; have f3 := HT6.out.frozen 3
    have q0 := HC6.out.cell 0; have q1 := HC6.out.cell 1; have q2 := HC6.out.cell 2; have q3 := HC6.out.cell 3
    have g0 := HC6.out.frozen 0; have g1 := HC6.out.frozen 1; have g2 := HC6.out.frozen 2; have g3 := HC6.out.frozen 3
    simp only [List.getElem?_toArray, List.getElem?_cons_zero, List.getElem?_cons_succ] at t0 t1 t2 t3 q0 q1 q2 q3
    have hNT : N ≠ T := by have := HTN.out; omega
    have hTN : T ≠ N := by have := HTN.out; omega
    go_wp2
    clear t0 t1 t2 t3 f0 f1 f2 f3 q0 q1 q2 q3 g0 g1 g2 g3 hNT hTN
    have HF := hide ((((((HC6.out.setOther ⟨T, 0, none⟩ (.int .i64 3) (by have := HTN.out; show N ≠ T; omega)).setOther ⟨T, 1, none⟩ (.string tx) (by have := HTN.out; show N ≠ T; omega)).set 0 (.int .i64 3)).set 1 (.string tx)).set 2 (.pointer none)).set 3 (.int .i64 b))
    have HLF := hide ((((((HL6.out.other T 0 (.int .i64 3) (by have := HTN.out; have := HPT.out; omega)).other T 1 (.string tx) (by have := HTN.out; have := HPT.out; omega)).other N 0 (.int .i64 3) (by have := HPT.out; omega)).other N 1 (.string tx) (by have := HPT.out; omega)).other N 2 (.pointer none) (by have := HPT.out; omega)).other N 3 (.int .i64 b) (by have := HPT.out; omega))
    have HAF := hide ((((((HA6.out.other T 0 (.int .i64 3) (by have := HTN.out; have := HN.out; omega)).other T 1 (.string tx) (by have := HTN.out; have := HN.out; omega)).other N 0 (.int .i64 3) (by have := HN.out; omega)).other N 1 (.string tx) (by have := HN.out; omega)).other N 2 (.pointer none) (by have := HN.out; omega)).other N 3 (.int .i64 b) (by have := HN.out; omega))
    have z0 := HF.out.cell 0; have z1 := HF.out.cell 1; have z2 := HF.out.cell 2; have z3 := HF.out.cell 3
    simp only [List.setIfInBounds_toArray, List.set_cons_zero, List.set_cons_succ, List.getElem?_toArray, List.getElem?_cons_zero, List.getElem?_cons_succ] at z0 z1 z2 z3
    refine bodyPost_ret (v := .agg #[(.int .i64 3), (.string tx), (.pointer none), (.int .i64 b)]) (by simp [results, Tryz.results18, go_sem, z0, z1, z2, z3]) rfl ?_
    unfold tokB
    rw [if_neg (by rw [HLB.out]; decide), if_neg (by rw [HSB.out]; decide), if_pos H34.out, HQ.out, if_pos HE.out]
    refine ⟨fun e x h => ?_, fun t n h => (by cases h), HAF.out⟩
    injection h with h; injection h with h1 h2; subst h1 h2
    exact ⟨⟨3, tx, none, b⟩, _, rfl, HLF.out, by decide⟩
  · obtain ⟨rfl, h6⟩ := h6b hE
    have HL6 := hide h6
    have HE := hide hE
    clear h6a h6b h6 hA6 hE HTX HLET HIX
    obtain ⟨tx, htx⟩ : ∃ tx, tx = strB L := ⟨_, rfl⟩
    rw [← htx]
    have HX := hide htx
    clear htx
    have t0 := HT6.out.cell 0; have t1 := HT6.out.cell 1; have t2 := HT6.out.cell 2; have t3 := HT6.out.cell 3
    have f0 := HT6.out.frozen 0; have f1 := HT6.out.frozen 1; have f2 := HT6.out.frozen 2; have f3 := HT6.out.frozen 3
    have q0 := HC6.out.cell 0; have q1 := HC6.out.cell 1; have q2 := HC6.out.cell 2; have q3 := HC6.out.cell 3
    have g0 := HC6.out.frozen 0; have g1 := HC6.out.frozen 1; have g2 := HC6.out.frozen 2; have g3 := HC6.out.frozen 3
    simp only [List.getElem?_toArray, List.getElem?_cons_zero, List.getElem?_cons_succ] at t0 t1 t2 t3 q0 q1 q2 q3
    have hNT : N ≠ T := by have := HTN.out; omega
    have hTN : T ≠ N := by have := HTN.out; omega
    go_wp2
    clear t0 t1 t2 t3 f0 f1 f2 f3 q0 q1 q2 q3 g0 g1 g2 g3 hNT hTN
    have HF := hide ((((((HC6.out.setOther ⟨T, 0, none⟩ (.int .i64 3) (by have := HTN.out; show N ≠ T; omega)).setOther ⟨T, 1, none⟩ (.string tx) (by have := HTN.out; show N ≠ T; omega)).set 0 (.int .i64 3)).set 1 (.string tx)).set 2 (.pointer none)).set 3 (.int .i64 b))
    have HLF := hide ((((((HL6.out.other T 0 (.int .i64 3) (by have := HTN.out; have := HPT.out; omega)).other T 1 (.string tx) (by have := HTN.out; have := HPT.out; omega)).other N 0 (.int .i64 3) (by have := HPT.out; omega)).other N 1 (.string tx) (by have := HPT.out; omega)).other N 2 (.pointer none) (by have := HPT.out; omega)).other N 3 (.int .i64 b) (by have := HPT.out; omega))
    have HAF := hide ((((((HA6.out.other T 0 (.int .i64 3) (by have := HTN.out; have := HN.out; omega)).other T 1 (.string tx) (by have := HTN.out; have := HN.out; omega)).other N 0 (.int .i64 3) (by have := HN.out; omega)).other N 1 (.string tx) (by have := HN.out; omega)).other N 2 (.pointer none) (by have := HN.out; omega)).other N 3 (.int .i64 b) (by have := HN.out; omega))
    have z0 := HF.out.cell 0; have z1 := HF.out.cell 1; have z2 := HF.out.cell 2; have z3 := HF.out.cell 3
    simp only [List.setIfInBounds_toArray, List.set_cons_zero, List.set_cons_succ, List.getElem?_toArray, List.getElem?_cons_zero, List.getElem?_cons_succ] at z0 z1 z2 z3
    refine bodyPost_ret (v := .agg #[(.int .i64 3), (.string tx), (.pointer none), (.int .i64 b)]) (by simp [results, Tryz.results18, go_sem, z0, z1, z2, z3]) rfl ?_
    have hx := HX.out
    unfold tokB
    rw [if_neg (by rw [HLB.out]; decide), if_neg (by rw [HSB.out]; decide), if_pos H34.out, HQ.out, if_neg HE.out]
    refine ⟨fun e x h => (by cases h), fun t n h => ?_, HAF.out⟩
    injection h with h; injection h with h1 h2; subst h1 h2
    exact ⟨_, by rw [← hx]; rfl, rfl, HLF.out⟩
end Go.Proofs.YtjlgepahgmkamaaGreatDoor
/- token: an expression. -/
namespace Go.Proofs.YtjlgepahgmkamaaGreatDoor
set_option maxRecDepth 100000
set_option linter.unusedSimpArgs false
set_option linter.unusedVariables false
open Go.RowKit Go.Shelf

set_option maxHeartbeats 6000000 in
theorem lxTok_re (p : Nat) (s : ByteArray) (a x0 b c : Nat) (w : World) (h : LxAt w p s a 0 x0) (hT : TabAt w) (ha : a ≤ s.size) (hb : b = a + skN false ((bytesN s).drop a)) (hcb : (bytesN s)[b]? = some c) (hl : letB c true = false) (hs : sgL.contains c = false) (h47 : c = 47) :
    Calls Tryz.prog 18 #[PT p] w fun r w' => TokPost s p x0 w (tokF s a) r w' := by
  have hres : tokF s a = tokB s b c := by
    unfold tokF
    rw [← hb, hcb]
  rw [hres]
  clear hres
  have hbig := h.big
  obtain ⟨w0, hw0⟩ : ∃ w0, w0 = w.alloc (.cells #[.int .i64 0, .string ⟨#[]⟩, .pointer none, .int .i64 0] 35) := ⟨_, rfl⟩
  have hB0 : Below w.heap.size w w0 := by rw [hw0]; exact (Below.refl _ _).alloc (Nat.le_refl _) _
  have HTC : Hid (Blk w0 w.heap.size #[.int .i64 0, .string ⟨#[]⟩, .pointer none, .int .i64 0] 35) := by rw [hw0]; exact Blk.newAt rfl _ _
  have HSK : Hid (Calls Tryz.prog 36 #[PT p] (w.alloc (.cells #[.int .i64 0, .string ⟨#[]⟩, .pointer none, .int .i64 0] 35)) fun r w' => r = .returned (.tuple #[]) ∧ LxAt w' p s b 0 x0 ∧ Aside p w0 w') := by
    rw [← hw0, hb]; exact lxSkip p s a 0 x0 _ w0 (h.keep hB0) ha rfl
  have hbs : b ≤ s.size := by
    have := skN_le ((bytesN s).drop a) false
    rw [List.length_drop, bN_len] at this
    omega
  have HA00 : Hid (Aside p w w0) := Aside.of_below hB0
  have HH := hide h
  have HT := hide hT
  clear hw0 hB0 hb h hT
  unfold PT at HSK ⊢
  go_enter Tryz.func18, Tryz.ntmps18
  go_wp2_with fail
  refine HSK.out.mono ?_
  rintro r w2 ⟨rfl, h2, hA2⟩
  have HL2 := hide h2
  have HA2 := hide hA2
  have c1 := h2.c1
  clear h2 hA2 HSK
  obtain ⟨T, hT⟩ : ∃ T, T = w2.heap.size := ⟨_, rfl⟩
  obtain ⟨w3, hw3⟩ : ∃ w3, w3 = w2.alloc (.cells #[.int .i64 0, .string ⟨#[]⟩, .pointer none, .int .i64 b] 35) := ⟨_, rfl⟩
  have hB3 : Below w2.heap.size w2 w3 := by rw [hw3]; exact (Below.refl _ _).alloc (Nat.le_refl _) _
  have HTT : Hid (Blk w3 T #[.int .i64 0, .string ⟨#[]⟩, .pointer none, .int .i64 b] 35) := by rw [hw3, hT]; exact Blk.newAt rfl _ _
  have HL3 : Hid (LxAt w3 p s b 0 x0) := HL2.out.keep hB3
  have HA30 : Hid (Aside p w0 w3) := HA2.out.trans (Aside.of_below hB3)
  have HA3 : Hid (Aside p w w3) := HA00.out.trans HA30.out
  have hpT : p < w.heap.size := HH.out.blk.lt
  have HTC3 : Hid (Blk w3 w.heap.size #[.int .i64 0, .string ⟨#[]⟩, .pointer none, .int .i64 0] 35) := (HA30.out.block _ HTC.out.lt (by omega)).trans HTC.out
  have HTN : Hid (w.heap.size < T) := by show _ < _; rw [hT]; exact Nat.lt_of_lt_of_le HTC.out.lt HA2.out.size
  have HPT := hide hpT
  obtain ⟨N, hN⟩ : ∃ N, N = w.heap.size := ⟨_, rfl⟩
  have HN := hide hN
  rw [← hN] at HTC3 HTN HPT
  go_wp2
  rw [← hw3, ← hT, ← hN]
  clear hw3 hB3 hT c1 hpT hN HTC HL2 HA2 HA30 HA00
  try rw [show Value.pointer (some ⟨p, 0, none⟩) = PT p from rfl]
  obtain ⟨C, hC⟩ : ∃ C : World → Prop, C = fun V => Below w3.heap.size w3 V := ⟨_, rfl⟩
  have HCD : Hid (C { w3 with drawn := w3.drawn + 1 }) := by rw [hC]; exact ⟨rfl, rfl, rfl, Nat.le_refl _, fun _ _ => rfl⟩
  have HCB : Hid (∀ V, C V → Below w3.heap.size w3 V) := by rw [hC]; exact fun V h => h
  clear hC
  have y0 : ∀ V, C V → V.cell? ⟨p, 0, none⟩ = some (.string s) := fun V hV => (HL3.out.keep (HCB.out V hV)).c0
  have y1 : ∀ V, C V → V.cell? ⟨p, 1, none⟩ = some (.int .i64 b) := fun V hV => (HL3.out.keep (HCB.out V hV)).c1
  have hbl : b < s.size := by have := (List.getElem?_eq_some_iff.1 hcb).1; rwa [bN_len] at this
  have heq : ((b : Int) == (s.size : Int)) = false := by simp; omega
  have hc256 : c < 256 := bN_lt s c (List.mem_of_getElem? hcb)
  refine w_lit (C := C) (by kernel_rfl) (by kernel_rfl) HCD.out ?_
  refine w_value (PT p) (by kernel_rfl) (fun w hw => x_move _ _ _ _ _ _ _ _ rfl w) ?_
  simp only [Act.put, List.setIfInBounds_toArray, List.set_cons_succ, List.set_cons_zero]
  refine w_value (PT p) (by kernel_rfl) (fun w hw => x_nilCheck _ _ _ _ _ _ _ _ rfl w) ?_
  simp only [Act.put, List.setIfInBounds_toArray, List.set_cons_succ, List.set_cons_zero]
  refine w_value (.pointer (some ⟨p, 1, none⟩)) (by kernel_rfl) (fun w hw => x_lxF1 _ _ _ _ _ _ _ _ rfl w) ?_
  simp only [Act.put, List.setIfInBounds_toArray, List.set_cons_succ, List.set_cons_zero]
  refine w_value (.int .i64 b) (by kernel_rfl) (fun w hw => x_ldN _ _ _ _ _ _ _ p 1 _ rfl w (y1 w hw)) ?_
  simp only [Act.put, List.setIfInBounds_toArray, List.set_cons_succ, List.set_cons_zero]
  refine w_value (PT p) (by kernel_rfl) (fun w hw => x_move _ _ _ _ _ _ _ _ rfl w) ?_
  simp only [Act.put, List.setIfInBounds_toArray, List.set_cons_succ, List.set_cons_zero]
  refine w_value (PT p) (by kernel_rfl) (fun w hw => x_nilCheck _ _ _ _ _ _ _ _ rfl w) ?_
  simp only [Act.put, List.setIfInBounds_toArray, List.set_cons_succ, List.set_cons_zero]
  refine w_value (PT p) (by kernel_rfl) (fun w hw => x_lxF0 _ _ _ _ _ _ _ _ rfl w) ?_
  simp only [Act.put, List.setIfInBounds_toArray, List.set_cons_succ, List.set_cons_zero]
  refine w_value (.string s) (by kernel_rfl) (fun w hw => x_ldS _ _ _ _ _ _ _ p _ rfl w (y0 w hw)) ?_
  simp only [Act.put, List.setIfInBounds_toArray, List.set_cons_succ, List.set_cons_zero]
  refine w_value (.int .i64 s.size) (by kernel_rfl) (fun w hw => x_lenS _ _ _ _ _ _ _ s rfl w) ?_
  simp only [Act.put, List.setIfInBounds_toArray, List.set_cons_succ, List.set_cons_zero]
  refine w_value (.bool false) (by kernel_rfl) (fun w hw => x_eqN _ _ _ _ _ _ _ _ b s.size false heq rfl rfl w) ?_
  simp only [Act.put, List.setIfInBounds_toArray, List.set_cons_succ, List.set_cons_zero]
  refine w_nil ?_
  intro W0 hCW
  have HL5 := hide (HL3.out.keep (HCB.out W0 hCW))
  have HA5 := hide (HA3.out.trans (Aside.of_below (HCB.out W0 hCW)))
  have HT5 := hide (HTT.out.below (HCB.out W0 hCW) HTT.out.lt)
  have HC5 := hide (HTC3.out.below (HCB.out W0 hCW) HTC3.out.lt)
  clear hCW y0 y1
  go_wp2
  try rw [show Value.pointer (some ⟨p, 0, none⟩) = PT p from rfl]
  obtain ⟨D, hD⟩ : ∃ D : World → Prop, D = fun V => Below W0.heap.size W0 V := ⟨_, rfl⟩
  have HDD : Hid (D { W0 with drawn := W0.drawn + 1 }) := by rw [hD]; exact ⟨rfl, rfl, rfl, Nat.le_refl _, fun _ _ => rfl⟩
  have HDB : Hid (∀ V, D V → Below W0.heap.size W0 V) := by rw [hD]; exact fun V h => h
  clear hD
  have z0 : ∀ V, D V → V.cell? ⟨p, 0, none⟩ = some (.string s) := fun V hV => (HL5.out.keep (HDB.out V hV)).c0
  have z1 : ∀ V, D V → V.cell? ⟨p, 1, none⟩ = some (.int .i64 b) := fun V hV => (HL5.out.keep (HDB.out V hV)).c1
  refine w_lit (C := D) (by kernel_rfl) (by kernel_rfl) HDD.out ?_
  refine w_value (PT p) (by kernel_rfl) (fun w hw => x_move _ _ _ _ _ _ _ _ rfl w) ?_
  simp only [Act.put, List.setIfInBounds_toArray, List.set_cons_succ, List.set_cons_zero]
  refine w_value (PT p) (by kernel_rfl) (fun w hw => x_nilCheck _ _ _ _ _ _ _ _ rfl w) ?_
  simp only [Act.put, List.setIfInBounds_toArray, List.set_cons_succ, List.set_cons_zero]
  refine w_value (PT p) (by kernel_rfl) (fun w hw => x_lxF0 _ _ _ _ _ _ _ _ rfl w) ?_
  simp only [Act.put, List.setIfInBounds_toArray, List.set_cons_succ, List.set_cons_zero]
  refine w_value (.string s) (by kernel_rfl) (fun w hw => x_ldS _ _ _ _ _ _ _ p _ rfl w (z0 w hw)) ?_
  simp only [Act.put, List.setIfInBounds_toArray, List.set_cons_succ, List.set_cons_zero]
  refine w_value (PT p) (by kernel_rfl) (fun w hw => x_move _ _ _ _ _ _ _ _ rfl w) ?_
  simp only [Act.put, List.setIfInBounds_toArray, List.set_cons_succ, List.set_cons_zero]
  refine w_value (PT p) (by kernel_rfl) (fun w hw => x_nilCheck _ _ _ _ _ _ _ _ rfl w) ?_
  simp only [Act.put, List.setIfInBounds_toArray, List.set_cons_succ, List.set_cons_zero]
  refine w_value (.pointer (some ⟨p, 1, none⟩)) (by kernel_rfl) (fun w hw => x_lxF1 _ _ _ _ _ _ _ _ rfl w) ?_
  simp only [Act.put, List.setIfInBounds_toArray, List.set_cons_succ, List.set_cons_zero]
  refine w_value (.int .i64 b) (by kernel_rfl) (fun w hw => x_ldN _ _ _ _ _ _ _ p 1 _ rfl w (z1 w hw)) ?_
  simp only [Act.put, List.setIfInBounds_toArray, List.set_cons_succ, List.set_cons_zero]
  refine w_value (.int .u8 c) (by kernel_rfl) (fun w hw => x_sIdx _ _ _ _ _ _ _ _ s b c hcb rfl rfl w) ?_
  simp only [Act.put, List.setIfInBounds_toArray, List.set_cons_succ, List.set_cons_zero]
  refine w_value (.int .u8 c) (by kernel_rfl) (fun w hw => x_assign _ _ _ _ _ _ _ _ rfl w) ?_
  simp only [Act.put, List.setIfInBounds_toArray, List.set_cons_succ, List.set_cons_zero]
  refine w_nil ?_
  intro W hCW
  have HL4 := hide (HL5.out.keep (HDB.out W hCW))
  have HA4 := hide (HA5.out.trans (Aside.of_below (HDB.out W hCW)))
  have HT4 := hide (HT5.out.below (HDB.out W hCW) HT5.out.lt)
  have HC4 := hide (HC5.out.below (HDB.out W hCW) HC5.out.lt)
  clear hCW z0 z1
  clear HL3 HA3 HTT HTC3 HL5 HA5 HT5 HC5
  have HLET := hide (lexLetter_any c hc256 true W)
  rw [hl] at HLET
  obtain ⟨z, hz⟩ : ∃ z, z = idxI (bytesN ⟨#[40, 41, 44, 46, 59, 124, 42, 61]⟩) c := ⟨_, rfl⟩
  have esg : bytesN ⟨#[40, 41, 44, 46, 59, 124, 42, 61]⟩ = sgL := by decide +kernel
  have hzq : decide (0 ≤ z) = false := by rw [hz, esg, idxI_pos]; exact hs
  have HIX := hide (indexByte_any ⟨#[40, 41, 44, 46, 59, 124, 42, 61]⟩ c hc256 W)
  rw [← hz] at HIX
  have HLB := hide hl
  have HSB := hide hs
  clear hz esg hl hs
  obtain ⟨n, hn⟩ : ∃ n, n = reN ((bytesN s).drop (b + 1)) := ⟨_, rfl⟩
  have HTW : Hid (TabAt W) := HT.out.asideL HH.out.blk HA4.out
  have HRE := hide (lxRe_any p s b x0 n W HL4.out HTW.out hbl hn)
  have HQ := hide hn
  have h34b : ((c : Int) == 34) = false := by rw [h47]; rfl
  have h47b : ((c : Int) == 47) = true := by rw [h47]; rfl
  have H47 := hide h47
  have h34 : c ≠ 34 := by omega
  have H34 := hide h34
  clear hn hcb h47 h34
  unfold PT at HRE
  try unfold PT
  go_wp2_with fail
  refine HLET.out.mono ?_
  rintro r w5 ⟨rfl, rfl⟩
  go_wp2_with fail
  refine HIX.out.mono ?_
  rintro r w5 ⟨rfl, rfl⟩
  go_wp2_with fail
  refine HRE.out.mono ?_
  rintro r w6 ⟨h6a, h6b, h6c, hA6⟩
  have HT6 : Hid (Blk w6 T #[.int .i64 0, .string ⟨#[]⟩, .pointer none, .int .i64 b] 35) := (hA6.block _ HT4.out.lt (by have := HTN.out; have := HPT.out; omega)).trans HT4.out
  have HC6 : Hid (Blk w6 N #[.int .i64 0, .string ⟨#[]⟩, .pointer none, .int .i64 0] 35) := (hA6.block _ HC4.out.lt (by have := HPT.out; omega)).trans HC4.out
  have HA6 : Hid (Aside p w w6) := HA4.out.trans hA6
  by_cases hE : s.size ≤ b + 1 + n
  · obtain ⟨at6, rfl, h6⟩ := h6a hE
    have HL6 := hide h6
    have HE := hide hE
    clear h6a h6b h6c h6 hA6 hE HRE HLET HIX
    have t0 := HT6.out.cell 0; have t1 := HT6.out.cell 1; have t2 := HT6.out.cell 2; have t3 := HT6.out.cell 3
    have f0 := HT6.out.frozen 0; have f1 := HT6.out.frozen 1; have f2 := HT6.out.frozen 2; have f3 := HT6.out.frozen 3
    have q0 := HC6.out.cell 0; have q1 := HC6.out.cell 1; have q2 := HC6.out.cell 2; have q3 := HC6.out.cell 3
    have g0 := HC6.out.frozen 0; have g1 := HC6.out.frozen 1; have g2 := HC6.out.frozen 2; have g3 := HC6.out.frozen 3
    simp only [List.getElem?_toArray, List.getElem?_cons_zero, List.getElem?_cons_succ] at t0 t1 t2 t3 q0 q1 q2 q3
    have hNT : N ≠ T := by have := HTN.out; omega
    have hTN : T ≠ N := by have := HTN.out; omega
    go_wp2
    clear t0 t1 t2 t3 f0 f1 f2 f3 q0 q1 q2 q3 g0 g1 g2 g3 hNT hTN
    have HF := hide ((((((HC6.out.setOther ⟨T, 0, none⟩ (.int .i64 4) (by have := HTN.out; show N ≠ T; omega)).setOther ⟨T, 2, none⟩ (.pointer none) (by have := HTN.out; show N ≠ T; omega)).set 0 (.int .i64 4)).set 1 (.string ⟨#[]⟩)).set 2 (.pointer none)).set 3 (.int .i64 b))
    have HLF := hide ((((((HL6.out.other T 0 (.int .i64 4) (by have := HTN.out; have := HPT.out; omega)).other T 2 (.pointer none) (by have := HTN.out; have := HPT.out; omega)).other N 0 (.int .i64 4) (by have := HPT.out; omega)).other N 1 (.string ⟨#[]⟩) (by have := HPT.out; omega)).other N 2 (.pointer none) (by have := HPT.out; omega)).other N 3 (.int .i64 b) (by have := HPT.out; omega))
    have HAF := hide ((((((HA6.out.other T 0 (.int .i64 4) (by have := HTN.out; have := HN.out; omega)).other T 2 (.pointer none) (by have := HTN.out; have := HN.out; omega)).other N 0 (.int .i64 4) (by have := HN.out; omega)).other N 1 (.string ⟨#[]⟩) (by have := HN.out; omega)).other N 2 (.pointer none) (by have := HN.out; omega)).other N 3 (.int .i64 b) (by have := HN.out; omega))
    have z0 := HF.out.cell 0; have z1 := HF.out.cell 1; have z2 := HF.out.cell 2; have z3 := HF.out.cell 3
    simp only [List.setIfInBounds_toArray, List.set_cons_zero, List.set_cons_succ, List.getElem?_toArray, List.getElem?_cons_zero, List.getElem?_cons_succ] at z0 z1 z2 z3
    refine bodyPost_ret (v := .agg #[(.int .i64 4), (.string ⟨#[]⟩), (.pointer none), (.int .i64 b)]) (by simp [results, Tryz.results18, go_sem, z0, z1, z2, z3]) rfl ?_
    unfold tokB
    rw [if_neg (by rw [HLB.out]; decide), if_neg (by rw [HSB.out]; decide), if_neg H34.out, if_pos H47.out, ← HQ.out, if_pos HE.out]
    refine ⟨fun e x h => ?_, fun t n h => (by cases h), HAF.out⟩
    injection h with h; injection h with h1 h2; subst h1 h2
    exact ⟨⟨4, ⟨#[]⟩, none, b⟩, _, rfl, HLF.out, by decide⟩
  · by_cases hR : (rdEnd (bytesN (s.extract (b + 1) (b + 1 + n)))).err = 0
    · obtain ⟨q, rfl, hq6, h6⟩ := h6b (by omega) hR
      have HL6 := hide h6
      have HE := hide hE
      have HR := hide hR
      have HQ6 := hide hq6
      clear h6a h6b h6c h6 hA6 hE hR hq6 HRE HLET HIX
      unfold PT
      have t0 := HT6.out.cell 0; have t1 := HT6.out.cell 1; have t2 := HT6.out.cell 2; have t3 := HT6.out.cell 3
      have f0 := HT6.out.frozen 0; have f1 := HT6.out.frozen 1; have f2 := HT6.out.frozen 2; have f3 := HT6.out.frozen 3
      have q0 := HC6.out.cell 0; have q1 := HC6.out.cell 1; have q2 := HC6.out.cell 2; have q3 := HC6.out.cell 3
      have g0 := HC6.out.frozen 0; have g1 := HC6.out.frozen 1; have g2 := HC6.out.frozen 2; have g3 := HC6.out.frozen 3
      simp only [List.getElem?_toArray, List.getElem?_cons_zero, List.getElem?_cons_succ] at t0 t1 t2 t3 q0 q1 q2 q3
      have hNT : N ≠ T := by have := HTN.out; omega
      have hTN : T ≠ N := by have := HTN.out; omega
      go_wp2
      clear t0 t1 t2 t3 f0 f1 f2 f3 q0 q1 q2 q3 g0 g1 g2 g3 hNT hTN
      have HF := hide ((((((HC6.out.setOther ⟨T, 0, none⟩ (.int .i64 4) (by have := HTN.out; show N ≠ T; omega)).setOther ⟨T, 2, none⟩ (.pointer (some ⟨q, 0, none⟩)) (by have := HTN.out; show N ≠ T; omega)).set 0 (.int .i64 4)).set 1 (.string ⟨#[]⟩)).set 2 (.pointer (some ⟨q, 0, none⟩))).set 3 (.int .i64 b))
      have HLF := hide ((((((HL6.out.other T 0 (.int .i64 4) (by have := HTN.out; have := HPT.out; omega)).other T 2 (.pointer (some ⟨q, 0, none⟩)) (by have := HTN.out; have := HPT.out; omega)).other N 0 (.int .i64 4) (by have := HPT.out; omega)).other N 1 (.string ⟨#[]⟩) (by have := HPT.out; omega)).other N 2 (.pointer (some ⟨q, 0, none⟩)) (by have := HPT.out; omega)).other N 3 (.int .i64 b) (by have := HPT.out; omega))
      have HAF := hide ((((((HA6.out.other T 0 (.int .i64 4) (by have := HTN.out; have := HN.out; omega)).other T 2 (.pointer (some ⟨q, 0, none⟩)) (by have := HTN.out; have := HN.out; omega)).other N 0 (.int .i64 4) (by have := HN.out; omega)).other N 1 (.string ⟨#[]⟩) (by have := HN.out; omega)).other N 2 (.pointer (some ⟨q, 0, none⟩)) (by have := HN.out; omega)).other N 3 (.int .i64 b) (by have := HN.out; omega))
      have z0 := HF.out.cell 0; have z1 := HF.out.cell 1; have z2 := HF.out.cell 2; have z3 := HF.out.cell 3
      simp only [List.setIfInBounds_toArray, List.set_cons_zero, List.set_cons_succ, List.getElem?_toArray, List.getElem?_cons_zero, List.getElem?_cons_succ] at z0 z1 z2 z3
      refine bodyPost_ret (v := .agg #[(.int .i64 4), (.string ⟨#[]⟩), (.pointer (some ⟨q, 0, none⟩)), (.int .i64 b)]) (by simp [results, Tryz.results18, go_sem, z0, z1, z2, z3]) rfl ?_
      have hnt : N ≠ T := by have := HTN.out; omega
      have e1 := HQ6.out.stT (i := 0) (v := .int .i64 4) (old := .int .i64 0) HT6.out rfl (by intro p; simp [PT])
      have b1 := HT6.out.set 0 (.int .i64 4)
      have e2 := e1.stT (i := 2) (v := .pointer (some ⟨q, 0, none⟩)) (old := .pointer none) b1 rfl (by intro p; simp [PT])
      have d1 := (HC6.out.setOther ⟨T, 0, none⟩ (.int .i64 4) hnt).setOther ⟨T, 2, none⟩ (.pointer (some ⟨q, 0, none⟩)) hnt
      have e3 := e2.stT (i := 0) (v := .int .i64 4) (old := .int .i64 0) d1 rfl (by intro p; simp [PT])
      have d2 := d1.set 0 (.int .i64 4)
      have e4 := e3.stT (i := 1) (v := .string ⟨#[]⟩) (old := .string ⟨#[]⟩) d2 rfl (by intro p; simp [PT])
      have d3 := d2.set 1 (.string ⟨#[]⟩)
      have e5 := e4.stT (i := 2) (v := .pointer (some ⟨q, 0, none⟩)) (old := .pointer none) d3 rfl (by intro p; simp [PT])
      have d4 := d3.set 2 (.pointer (some ⟨q, 0, none⟩))
      have e6 := e5.stT (i := 3) (v := .int .i64 b) (old := .int .i64 0) d4 rfl (by intro p; simp [PT])
      unfold tokB
      rw [if_neg (by rw [HLB.out]; decide), if_neg (by rw [HSB.out]; decide), if_neg H34.out, if_pos H47.out, ← HQ.out, if_neg HE.out, if_pos HR.out]
      refine ⟨fun e x h => (by cases h), fun t n h => ?_, HAF.out⟩
      injection h with h; injection h with h1 h2; subst h1 h2
      exact ⟨_, rfl, ⟨q, rfl, e6⟩, HLF.out⟩
    · obtain ⟨at6, rfl, h6⟩ := h6c (by omega) hR
      have HL6 := hide h6
      have HE := hide hE
      have HR := hide hR
      clear h6a h6b h6c h6 hA6 hE hR HRE HLET HIX
      have t0 := HT6.out.cell 0; have t1 := HT6.out.cell 1; have t2 := HT6.out.cell 2; have t3 := HT6.out.cell 3
      have f0 := HT6.out.frozen 0; have f1 := HT6.out.frozen 1; have f2 := HT6.out.frozen 2; have f3 := HT6.out.frozen 3
      have q0 := HC6.out.cell 0; have q1 := HC6.out.cell 1; have q2 := HC6.out.cell 2; have q3 := HC6.out.cell 3
      have g0 := HC6.out.frozen 0; have g1 := HC6.out.frozen 1; have g2 := HC6.out.frozen 2; have g3 := HC6.out.frozen 3
      simp only [List.getElem?_toArray, List.getElem?_cons_zero, List.getElem?_cons_succ] at t0 t1 t2 t3 q0 q1 q2 q3
      have hNT : N ≠ T := by have := HTN.out; omega
      have hTN : T ≠ N := by have := HTN.out; omega
      go_wp2
      clear t0 t1 t2 t3 f0 f1 f2 f3 q0 q1 q2 q3 g0 g1 g2 g3 hNT hTN
      have HF := hide ((((((HC6.out.setOther ⟨T, 0, none⟩ (.int .i64 4) (by have := HTN.out; show N ≠ T; omega)).setOther ⟨T, 2, none⟩ (.pointer none) (by have := HTN.out; show N ≠ T; omega)).set 0 (.int .i64 4)).set 1 (.string ⟨#[]⟩)).set 2 (.pointer none)).set 3 (.int .i64 b))
      have HLF := hide ((((((HL6.out.other T 0 (.int .i64 4) (by have := HTN.out; have := HPT.out; omega)).other T 2 (.pointer none) (by have := HTN.out; have := HPT.out; omega)).other N 0 (.int .i64 4) (by have := HPT.out; omega)).other N 1 (.string ⟨#[]⟩) (by have := HPT.out; omega)).other N 2 (.pointer none) (by have := HPT.out; omega)).other N 3 (.int .i64 b) (by have := HPT.out; omega))
      have HAF := hide ((((((HA6.out.other T 0 (.int .i64 4) (by have := HTN.out; have := HN.out; omega)).other T 2 (.pointer none) (by have := HTN.out; have := HN.out; omega)).other N 0 (.int .i64 4) (by have := HN.out; omega)).other N 1 (.string ⟨#[]⟩) (by have := HN.out; omega)).other N 2 (.pointer none) (by have := HN.out; omega)).other N 3 (.int .i64 b) (by have := HN.out; omega))
      have z0 := HF.out.cell 0; have z1 := HF.out.cell 1; have z2 := HF.out.cell 2; have z3 := HF.out.cell 3
      simp only [List.setIfInBounds_toArray, List.set_cons_zero, List.set_cons_succ, List.getElem?_toArray, List.getElem?_cons_zero, List.getElem?_cons_succ] at z0 z1 z2 z3
      refine bodyPost_ret (v := .agg #[(.int .i64 4), (.string ⟨#[]⟩), (.pointer none), (.int .i64 b)]) (by simp [results, Tryz.results18, go_sem, z0, z1, z2, z3]) rfl ?_
      unfold tokB
      rw [if_neg (by rw [HLB.out]; decide), if_neg (by rw [HSB.out]; decide), if_neg H34.out, if_pos H47.out, ← HQ.out, if_neg HE.out, if_neg HR.out]
      refine ⟨fun e x h => ?_, fun t n h => (by cases h), HAF.out⟩
      injection h with h; injection h with h1 h2; subst h1 h2
      exact ⟨⟨4, ⟨#[]⟩, none, b⟩, _, rfl, HLF.out, HR.out⟩
end Go.Proofs.YtjlgepahgmkamaaGreatDoor
