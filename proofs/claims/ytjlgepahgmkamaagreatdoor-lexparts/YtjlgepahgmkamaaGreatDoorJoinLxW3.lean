/- Texts of this claim put together: LxW1, LxW2, LxW3. -/
import Derived.Test.YtjlgepahgmkamaaGreatDoorJoinLxW0
/- token at the end. -/
namespace Go.Proofs.YtjlgepahgmkamaaGreatDoor
set_option maxRecDepth 100000
set_option linter.unusedSimpArgs false
set_option linter.unusedVariables false
open Go.RowKit Go.Shelf

set_option maxHeartbeats 3000000 in
theorem lxTok_end (p : Nat) (s : ByteArray) (a x0 b : Nat) (w : World) (h : LxAt w p s a 0 x0) (hT : TabAt w) (ha : a ≤ s.size) (hb : b = a + skN false ((bytesN s).drop a)) (hcb : (bytesN s)[b]? = none) :
    Calls Tryz.prog 18 #[PT p] w fun r w' => TokPost s p x0 w (tokF s a) r w' := by
  have hres : tokF s a = .inr (⟨0, ⟨#[]⟩, none, b⟩, b) := by
    unfold tokF
    rw [← hb, hcb]
  rw [hres]
  clear hres
  have hbig := h.big
  obtain ⟨w0, hw0⟩ : ∃ w0, w0 = w.alloc (.cells #[.int .i64 0, .string ⟨#[]⟩, .pointer none, .int .i64 0] 35) := ⟨_, rfl⟩
  have hB0 : Below w.heap.size w w0 := by rw [hw0]; exact (Below.refl _ _).alloc (Nat.le_refl _) _
  have HTC : Hid (Blk w0 w.heap.size #[.int .i64 0, .string ⟨#[]⟩, .pointer none, .int .i64 0] 35) := by rw [hw0]; exact Blk.newAt rfl _ _
  have HSK : Hid (Calls Tryz.prog 36 #[PT p] (w.alloc (.cells #[.int .i64 0, .string ⟨#[]⟩, .pointer none, .int .i64 0] 35)) fun r w' => r = .returned (.tuple #[]) ∧ LxAt w' p s b 0 x0 ∧ Aside p w0 w') := by
    rw [← hw0, hb]; exact lxSkip p s a 0 x0 _ w0 (h.keep hB0) ha rfl
  have hbs : b ≤ s.size := by
    have := skN_le ((bytesN s).drop a) false
    rw [List.length_drop, bN_len] at this
    omega
  have HA00 : Hid (Aside p w w0) := Aside.of_below hB0
  have HH := hide h
  have HT := hide hT
  clear hw0 hB0 hb h hT
  unfold PT at HSK ⊢
  go_enter Tryz.func18, Tryz.ntmps18
  go_wp2_with fail
  refine HSK.out.mono ?_
  rintro r w2 ⟨rfl, h2, hA2⟩
  have HL2 := hide h2
  have HA2 := hide hA2
  have c1 := h2.c1
  clear h2 hA2 HSK
  obtain ⟨T, hT⟩ : ∃ T, T = w2.heap.size := ⟨_, rfl⟩
  obtain ⟨w3, hw3⟩ : ∃ w3, w3 = w2.alloc (.cells #[.int .i64 0, .string ⟨#[]⟩, .pointer none, .int .i64 b] 35) := ⟨_, rfl⟩
  have hB3 : Below w2.heap.size w2 w3 := by rw [hw3]; exact (Below.refl _ _).alloc (Nat.le_refl _) _
  have HTT : Hid (Blk w3 T #[.int .i64 0, .string ⟨#[]⟩, .pointer none, .int .i64 b] 35) := by rw [hw3, hT]; exact Blk.newAt rfl _ _
  have HL3 : Hid (LxAt w3 p s b 0 x0) := HL2.out.keep hB3
  have HA30 : Hid (Aside p w0 w3) := HA2.out.trans (Aside.of_below hB3)
  have HA3 : Hid (Aside p w w3) := HA00.out.trans HA30.out
  have hpT : p < w.heap.size := HH.out.blk.lt
  have HTC3 : Hid (Blk w3 w.heap.size #[.int .i64 0, .string ⟨#[]⟩, .pointer none, .int .i64 0] 35) := (HA30.out.block _ HTC.out.lt (by omega)).trans HTC.out
  have HTN : Hid (w.heap.size < T) := by show _ < _; rw [hT]; exact Nat.lt_of_lt_of_le HTC.out.lt HA2.out.size
  have HPT := hide hpT
  obtain ⟨N, hN⟩ : ∃ N, N = w.heap.size := ⟨_, rfl⟩
  have HN := hide hN
  rw [← hN] at HTC3 HTN HPT
  go_wp2
  rw [← hw3, ← hT, ← hN]
  clear hw3 hB3 hT c1 hpT hN HTC HL2 HA2 HA30 HA00
  try rw [show Value.pointer (some ⟨p, 0, none⟩) = PT p from rfl]
  obtain ⟨C, hC⟩ : ∃ C : World → Prop, C = fun V => Below w3.heap.size w3 V := ⟨_, rfl⟩
  have HCD : Hid (C { w3 with drawn := w3.drawn + 1 }) := by rw [hC]; exact ⟨rfl, rfl, rfl, Nat.le_refl _, fun _ _ => rfl⟩
  have HCB : Hid (∀ V, C V → Below w3.heap.size w3 V) := by rw [hC]; exact fun V h => h
  clear hC
  have y0 : ∀ V, C V → V.cell? ⟨p, 0, none⟩ = some (.string s) := fun V hV => (HL3.out.keep (HCB.out V hV)).c0
  have y1 : ∀ V, C V → V.cell? ⟨p, 1, none⟩ = some (.int .i64 b) := fun V hV => (HL3.out.keep (HCB.out V hV)).c1
  have heq : ((b : Int) == (s.size : Int)) = true := by
    rw [List.getElem?_eq_none_iff, bN_len] at hcb
    simp; omega
  refine w_lit (C := C) (by kernel_rfl) (by kernel_rfl) HCD.out ?_
  refine w_value (PT p) (by kernel_rfl) (fun w hw => x_move _ _ _ _ _ _ _ _ rfl w) ?_
  simp only [Act.put, List.setIfInBounds_toArray, List.set_cons_succ, List.set_cons_zero]
  refine w_value (PT p) (by kernel_rfl) (fun w hw => x_nilCheck _ _ _ _ _ _ _ _ rfl w) ?_
  simp only [Act.put, List.setIfInBounds_toArray, List.set_cons_succ, List.set_cons_zero]
  refine w_value (.pointer (some ⟨p, 1, none⟩)) (by kernel_rfl) (fun w hw => x_lxF1 _ _ _ _ _ _ _ _ rfl w) ?_
  simp only [Act.put, List.setIfInBounds_toArray, List.set_cons_succ, List.set_cons_zero]
  refine w_value (.int .i64 b) (by kernel_rfl) (fun w hw => x_ldN _ _ _ _ _ _ _ p 1 _ rfl w (y1 w hw)) ?_
  simp only [Act.put, List.setIfInBounds_toArray, List.set_cons_succ, List.set_cons_zero]
  refine w_value (PT p) (by kernel_rfl) (fun w hw => x_move _ _ _ _ _ _ _ _ rfl w) ?_
  simp only [Act.put, List.setIfInBounds_toArray, List.set_cons_succ, List.set_cons_zero]
  refine w_value (PT p) (by kernel_rfl) (fun w hw => x_nilCheck _ _ _ _ _ _ _ _ rfl w) ?_
  simp only [Act.put, List.setIfInBounds_toArray, List.set_cons_succ, List.set_cons_zero]
  refine w_value (PT p) (by kernel_rfl) (fun w hw => x_lxF0 _ _ _ _ _ _ _ _ rfl w) ?_
  simp only [Act.put, List.setIfInBounds_toArray, List.set_cons_succ, List.set_cons_zero]
  refine w_value (.string s) (by kernel_rfl) (fun w hw => x_ldS _ _ _ _ _ _ _ p _ rfl w (y0 w hw)) ?_
  simp only [Act.put, List.setIfInBounds_toArray, List.set_cons_succ, List.set_cons_zero]
  refine w_value (.int .i64 s.size) (by kernel_rfl) (fun w hw => x_lenS _ _ _ _ _ _ _ s rfl w) ?_
  simp only [Act.put, List.setIfInBounds_toArray, List.set_cons_succ, List.set_cons_zero]
  refine w_value (.bool true) (by kernel_rfl) (fun w hw => x_eqN _ _ _ _ _ _ _ _ b s.size true heq rfl rfl w) ?_
  simp only [Act.put, List.setIfInBounds_toArray, List.set_cons_succ, List.set_cons_zero]
  refine w_nil ?_
  intro W hCW
  have HL4 := hide (HL3.out.keep (HCB.out W hCW))
  have HA4 := hide (HA3.out.trans (Aside.of_below (HCB.out W hCW)))
  have HT4 := hide (HTT.out.below (HCB.out W hCW) HTT.out.lt)
  have HC4 := hide (HTC3.out.below (HCB.out W hCW) HTC3.out.lt)
  clear hCW y0 y1
  have HT6 := HT4; have HC6 := HC4; have HA6 := HA4; have HL6 := HL4
  have t0 := HT6.out.cell 0; have t1 := HT6.out.cell 1; have t2 := HT6.out.cell 2; have t3 := HT6.out.cell 3
  have f0 := HT6.out.frozen 0; have f1 := HT6.out.frozen 1; have f2 := HT6.out.frozen 2; have f3 := HT6.out.frozen 3
  have q0 := HC6.out.cell 0; have q1 := HC6.out.cell 1; have q2 := HC6.out.cell 2; have q3 := HC6.out.cell 3
  have g0 := HC6.out.frozen 0; have g1 := HC6.out.frozen 1; have g2 := HC6.out.frozen 2; have g3 := HC6.out.frozen 3
  simp only [List.getElem?_toArray, List.getElem?_cons_zero, List.getElem?_cons_succ] at t0 t1 t2 t3 q0 q1 q2 q3
  have hNT : N ≠ T := by have := HTN.out; omega
  have hTN : T ≠ N := by have := HTN.out; omega
  go_wp2
  clear t0 t1 t2 t3 f0 f1 f2 f3 q0 q1 q2 q3 g0 g1 g2 g3 hNT hTN
  have HF := hide ((((HC6.out.set 0 (.int .i64 0)).set 1 (.string ⟨#[]⟩)).set 2 (.pointer none)).set 3 (.int .i64 b))
  have HLF := hide ((((HL6.out.other N 0 (.int .i64 0) (by have := HPT.out; omega)).other N 1 (.string ⟨#[]⟩) (by have := HPT.out; omega)).other N 2 (.pointer none) (by have := HPT.out; omega)).other N 3 (.int .i64 b) (by have := HPT.out; omega))
  have HAF := hide ((((HA6.out.other N 0 (.int .i64 0) (by have := HN.out; omega)).other N 1 (.string ⟨#[]⟩) (by have := HN.out; omega)).other N 2 (.pointer none) (by have := HN.out; omega)).other N 3 (.int .i64 b) (by have := HN.out; omega))
  have z0 := HF.out.cell 0; have z1 := HF.out.cell 1; have z2 := HF.out.cell 2; have z3 := HF.out.cell 3
  simp only [List.setIfInBounds_toArray, List.set_cons_zero, List.set_cons_succ, List.getElem?_toArray, List.getElem?_cons_zero, List.getElem?_cons_succ] at z0 z1 z2 z3
  refine bodyPost_ret (v := .agg #[(.int .i64 0), (.string ⟨#[]⟩), (.pointer none), (.int .i64 b)]) (by simp [results, Tryz.results18, go_sem, z0, z1, z2, z3]) rfl ⟨fun e x h => (by cases h), fun t n h => ?_, HAF.out⟩
  injection h with h; injection h with h1 h2; subst h1 h2
  exact ⟨_, rfl, rfl, HLF.out⟩
end Go.Proofs.YtjlgepahgmkamaaGreatDoor
/- token: a word. -/
namespace Go.Proofs.YtjlgepahgmkamaaGreatDoor
set_option maxRecDepth 100000
set_option linter.unusedSimpArgs false
set_option linter.unusedVariables false
open Go.RowKit Go.Shelf

set_option maxHeartbeats 3000000 in
theorem lxTok_word (p : Nat) (s : ByteArray) (a x0 b c : Nat) (w : World) (h : LxAt w p s a 0 x0) (hT : TabAt w) (ha : a ≤ s.size) (hb : b = a + skN false ((bytesN s).drop a)) (hcb : (bytesN s)[b]? = some c) (hl : letB c true = true) :
    Calls Tryz.prog 18 #[PT p] w fun r w' => TokPost s p x0 w (tokF s a) r w' := by
  have hres : tokF s a = tokB s b c := by
    unfold tokF
    rw [← hb, hcb]
  rw [hres]
  clear hres
  have hbig := h.big
  obtain ⟨w0, hw0⟩ : ∃ w0, w0 = w.alloc (.cells #[.int .i64 0, .string ⟨#[]⟩, .pointer none, .int .i64 0] 35) := ⟨_, rfl⟩
  have hB0 : Below w.heap.size w w0 := by rw [hw0]; exact (Below.refl _ _).alloc (Nat.le_refl _) _
  have HTC : Hid (Blk w0 w.heap.size #[.int .i64 0, .string ⟨#[]⟩, .pointer none, .int .i64 0] 35) := by rw [hw0]; exact Blk.newAt rfl _ _
  have HSK : Hid (Calls Tryz.prog 36 #[PT p] (w.alloc (.cells #[.int .i64 0, .string ⟨#[]⟩, .pointer none, .int .i64 0] 35)) fun r w' => r = .returned (.tuple #[]) ∧ LxAt w' p s b 0 x0 ∧ Aside p w0 w') := by
    rw [← hw0, hb]; exact lxSkip p s a 0 x0 _ w0 (h.keep hB0) ha rfl
  have hbs : b ≤ s.size := by
    have := skN_le ((bytesN s).drop a) false
    rw [List.length_drop, bN_len] at this
    omega
  have HA00 : Hid (Aside p w w0) := Aside.of_below hB0
  have HH := hide h
  have HT := hide hT
  clear hw0 hB0 hb h hT
  unfold PT at HSK ⊢
  go_enter Tryz.func18, Tryz.ntmps18
  go_wp2_with fail
  refine HSK.out.mono ?_
  rintro r w2 ⟨rfl, h2, hA2⟩
  have HL2 := hide h2
  have HA2 := hide hA2
  have c1 := h2.c1
  clear h2 hA2 HSK
  obtain ⟨T, hT⟩ : ∃ T, T = w2.heap.size := ⟨_, rfl⟩
  obtain ⟨w3, hw3⟩ : ∃ w3, w3 = w2.alloc (.cells #[.int .i64 0, .string ⟨#[]⟩, .pointer none, .int .i64 b] 35) := ⟨_, rfl⟩
  have hB3 : Below w2.heap.size w2 w3 := by rw [hw3]; exact (Below.refl _ _).alloc (Nat.le_refl _) _
  have HTT : Hid (Blk w3 T #[.int .i64 0, .string ⟨#[]⟩, .pointer none, .int .i64 b] 35) := by rw [hw3, hT]; exact Blk.newAt rfl _ _
  have HL3 : Hid (LxAt w3 p s b 0 x0) := HL2.out.keep hB3
  have HA30 : Hid (Aside p w0 w3) := HA2.out.trans (Aside.of_below hB3)
  have HA3 : Hid (Aside p w w3) := HA00.out.trans HA30.out
  have hpT : p < w.heap.size := HH.out.blk.lt
  have HTC3 : Hid (Blk w3 w.heap.size #[.int .i64 0, .string ⟨#[]⟩, .pointer none, .int .i64 0] 35) := (HA30.out.block _ HTC.out.lt (by omega)).trans HTC.out
  have HTN : Hid (w.heap.size < T) := by show _ < _; rw [hT]; exact Nat.lt_of_lt_of_le HTC.out.lt HA2.out.size
  have HPT := hide hpT
  obtain ⟨N, hN⟩ : ∃ N, N = w.heap.size := ⟨_, rfl⟩
  have HN := hide hN
  rw [← hN] at HTC3 HTN HPT
  go_wp2
  rw [← hw3, ← hT, ← hN]
  clear hw3 hB3 hT c1 hpT hN HTC HL2 HA2 HA30 HA00
  try rw [show Value.pointer (some ⟨p, 0, none⟩) = PT p from rfl]
  obtain ⟨C, hC⟩ : ∃ C : World → Prop, C = fun V => Below w3.heap.size w3 V := ⟨_, rfl⟩
  have HCD : Hid (C { w3 with drawn := w3.drawn + 1 }) := by rw [hC]; exact ⟨rfl, rfl, rfl, Nat.le_refl _, fun _ _ => rfl⟩
  have HCB : Hid (∀ V, C V → Below w3.heap.size w3 V) := by rw [hC]; exact fun V h => h
  clear hC
  have y0 : ∀ V, C V → V.cell? ⟨p, 0, none⟩ = some (.string s) := fun V hV => (HL3.out.keep (HCB.out V hV)).c0
  have y1 : ∀ V, C V → V.cell? ⟨p, 1, none⟩ = some (.int .i64 b) := fun V hV => (HL3.out.keep (HCB.out V hV)).c1
  have hbl : b < s.size := by have := (List.getElem?_eq_some_iff.1 hcb).1; rwa [bN_len] at this
  have heq : ((b : Int) == (s.size : Int)) = false := by simp; omega
  have hc256 : c < 256 := bN_lt s c (List.mem_of_getElem? hcb)
  refine w_lit (C := C) (by kernel_rfl) (by kernel_rfl) HCD.out ?_
  refine w_value (PT p) (by kernel_rfl) (fun w hw => x_move _ _ _ _ _ _ _ _ rfl w) ?_
  simp only [Act.put, List.setIfInBounds_toArray, List.set_cons_succ, List.set_cons_zero]
  refine w_value (PT p) (by kernel_rfl) (fun w hw => x_nilCheck _ _ _ _ _ _ _ _ rfl w) ?_
  simp only [Act.put, List.setIfInBounds_toArray, List.set_cons_succ, List.set_cons_zero]
  refine w_value (.pointer (some ⟨p, 1, none⟩)) (by kernel_rfl) (fun w hw => x_lxF1 _ _ _ _ _ _ _ _ rfl w) ?_
  simp only [Act.put, List.setIfInBounds_toArray, List.set_cons_succ, List.set_cons_zero]
  refine w_value (.int .i64 b) (by kernel_rfl) (fun w hw => x_ldN _ _ _ _ _ _ _ p 1 _ rfl w (y1 w hw)) ?_
  simp only [Act.put, List.setIfInBounds_toArray, List.set_cons_succ, List.set_cons_zero]
  refine w_value (PT p) (by kernel_rfl) (fun w hw => x_move _ _ _ _ _ _ _ _ rfl w) ?_
  simp only [Act.put, List.setIfInBounds_toArray, List.set_cons_succ, List.set_cons_zero]
  refine w_value (PT p) (by kernel_rfl) (fun w hw => x_nilCheck _ _ _ _ _ _ _ _ rfl w) ?_
  simp only [Act.put, List.setIfInBounds_toArray, List.set_cons_succ, List.set_cons_zero]
  refine w_value (PT p) (by kernel_rfl) (fun w hw => x_lxF0 _ _ _ _ _ _ _ _ rfl w) ?_
  simp only [Act.put, List.setIfInBounds_toArray, List.set_cons_succ, List.set_cons_zero]
  refine w_value (.string s) (by kernel_rfl) (fun w hw => x_ldS _ _ _ _ _ _ _ p _ rfl w (y0 w hw)) ?_
  simp only [Act.put, List.setIfInBounds_toArray, List.set_cons_succ, List.set_cons_zero]
  refine w_value (.int .i64 s.size) (by kernel_rfl) (fun w hw => x_lenS _ _ _ _ _ _ _ s rfl w) ?_
  simp only [Act.put, List.setIfInBounds_toArray, List.set_cons_succ, List.set_cons_zero]
  refine w_value (.bool false) (by kernel_rfl) (fun w hw => x_eqN _ _ _ _ _ _ _ _ b s.size false heq rfl rfl w) ?_
  simp only [Act.put, List.setIfInBounds_toArray, List.set_cons_succ, List.set_cons_zero]
  refine w_nil ?_
  intro W0 hCW
  have HL5 := hide (HL3.out.keep (HCB.out W0 hCW))
  have HA5 := hide (HA3.out.trans (Aside.of_below (HCB.out W0 hCW)))
  have HT5 := hide (HTT.out.below (HCB.out W0 hCW) HTT.out.lt)
  have HC5 := hide (HTC3.out.below (HCB.out W0 hCW) HTC3.out.lt)
  clear hCW y0 y1
  go_wp2
  try rw [show Value.pointer (some ⟨p, 0, none⟩) = PT p from rfl]
  obtain ⟨D, hD⟩ : ∃ D : World → Prop, D = fun V => Below W0.heap.size W0 V := ⟨_, rfl⟩
  have HDD : Hid (D { W0 with drawn := W0.drawn + 1 }) := by rw [hD]; exact ⟨rfl, rfl, rfl, Nat.le_refl _, fun _ _ => rfl⟩
  have HDB : Hid (∀ V, D V → Below W0.heap.size W0 V) := by rw [hD]; exact fun V h => h
  clear hD
  have z0 : ∀ V, D V → V.cell? ⟨p, 0, none⟩ = some (.string s) := fun V hV => (HL5.out.keep (HDB.out V hV)).c0
  have z1 : ∀ V, D V → V.cell? ⟨p, 1, none⟩ = some (.int .i64 b) := fun V hV => (HL5.out.keep (HDB.out V hV)).c1
  refine w_lit (C := D) (by kernel_rfl) (by kernel_rfl) HDD.out ?_
  refine w_value (PT p) (by kernel_rfl) (fun w hw => x_move _ _ _ _ _ _ _ _ rfl w) ?_
  simp only [Act.put, List.setIfInBounds_toArray, List.set_cons_succ, List.set_cons_zero]
  refine w_value (PT p) (by kernel_rfl) (fun w hw => x_nilCheck _ _ _ _ _ _ _ _ rfl w) ?_
  simp only [Act.put, List.setIfInBounds_toArray, List.set_cons_succ, List.set_cons_zero]
  refine w_value (PT p) (by kernel_rfl) (fun w hw => x_lxF0 _ _ _ _ _ _ _ _ rfl w) ?_
  simp only [Act.put, List.setIfInBounds_toArray, List.set_cons_succ, List.set_cons_zero]
  refine w_value (.string s) (by kernel_rfl) (fun w hw => x_ldS _ _ _ _ _ _ _ p _ rfl w (z0 w hw)) ?_
  simp only [Act.put, List.setIfInBounds_toArray, List.set_cons_succ, List.set_cons_zero]
  refine w_value (PT p) (by kernel_rfl) (fun w hw => x_move _ _ _ _ _ _ _ _ rfl w) ?_
  simp only [Act.put, List.setIfInBounds_toArray, List.set_cons_succ, List.set_cons_zero]
  refine w_value (PT p) (by kernel_rfl) (fun w hw => x_nilCheck _ _ _ _ _ _ _ _ rfl w) ?_
  simp only [Act.put, List.setIfInBounds_toArray, List.set_cons_succ, List.set_cons_zero]
  refine w_value (.pointer (some ⟨p, 1, none⟩)) (by kernel_rfl) (fun w hw => x_lxF1 _ _ _ _ _ _ _ _ rfl w) ?_
  simp only [Act.put, List.setIfInBounds_toArray, List.set_cons_succ, List.set_cons_zero]
  refine w_value (.int .i64 b) (by kernel_rfl) (fun w hw => x_ldN _ _ _ _ _ _ _ p 1 _ rfl w (z1 w hw)) ?_
  simp only [Act.put, List.setIfInBounds_toArray, List.set_cons_succ, List.set_cons_zero]
  refine w_value (.int .u8 c) (by kernel_rfl) (fun w hw => x_sIdx _ _ _ _ _ _ _ _ s b c hcb rfl rfl w) ?_
  simp only [Act.put, List.setIfInBounds_toArray, List.set_cons_succ, List.set_cons_zero]
  refine w_value (.int .u8 c) (by kernel_rfl) (fun w hw => x_assign _ _ _ _ _ _ _ _ rfl w) ?_
  simp only [Act.put, List.setIfInBounds_toArray, List.set_cons_succ, List.set_cons_zero]
  refine w_nil ?_
  intro W hCW
  have HL4 := hide (HL5.out.keep (HDB.out W hCW))
  have HA4 := hide (HA5.out.trans (Aside.of_below (HDB.out W hCW)))
  have HT4 := hide (HT5.out.below (HDB.out W hCW) HT5.out.lt)
  have HC4 := hide (HC5.out.below (HDB.out W hCW) HC5.out.lt)
  clear hCW z0 z1
  clear HL3 HA3 HTT HTC3 HL5 HA5 HT5 HC5
  have HLET := hide (lexLetter_any c hc256 true W)
  rw [hl] at HLET
  obtain ⟨k, hk⟩ : ∃ k, k = lettN ((bytesN s).drop b) := ⟨_, rfl⟩
  have HK := hide hk
  have HWD := hide (lxWord_any p s b 0 x0 k W HL4.out (by omega) hk)
  obtain ⟨tx, htx⟩ : ∃ tx, tx = s.extract b (b + k) := ⟨_, rfl⟩
  rw [← htx] at HWD
  have HX := hide htx
  have HLB := hide hl
  clear hk htx hl hcb
  unfold PT at HWD
  try unfold PT
  go_wp2_with fail
  refine HLET.out.mono ?_
  rintro r w5 ⟨rfl, rfl⟩
  go_wp2_with fail
  refine HWD.out.mono ?_
  rintro r w6 ⟨rfl, h6, hA6⟩
  have HL6 := hide h6
  have HT6 : Hid (Blk w6 T #[.int .i64 0, .string ⟨#[]⟩, .pointer none, .int .i64 b] 35) := (hA6.block _ HT4.out.lt (by have := HTN.out; have := HPT.out; omega)).trans HT4.out
  have HC6 : Hid (Blk w6 N #[.int .i64 0, .string ⟨#[]⟩, .pointer none, .int .i64 0] 35) := (hA6.block _ HC4.out.lt (by have := HPT.out; omega)).trans HC4.out
  have HA6 : Hid (Aside p w w6) := HA4.out.trans hA6
  clear h6 hA6 HWD HLET
  have t0 := HT6.out.cell 0; have t1 := HT6.out.cell 1; have t2 := HT6.out.cell 2; have t3 := HT6.out.cell 3
  have f0 := HT6.out.frozen 0; have f1 := HT6.out.frozen 1; have f2 := HT6.out.frozen 2; have f3 := HT6.out.frozen 3
  have q0 := HC6.out.cell 0; have q1 := HC6.out.cell 1; have q2 := HC6.out.cell 2; have q3 := HC6.out.cell 3
  have g0 := HC6.out.frozen 0; have g1 := HC6.out.frozen 1; have g2 := HC6.out.frozen 2; have g3 := HC6.out.frozen 3
  simp only [List.getElem?_toArray, List.getElem?_cons_zero, List.getElem?_cons_succ] at t0 t1 t2 t3 q0 q1 q2 q3
  have hNT : N ≠ T := by have := HTN.out; omega
  have hTN : T ≠ N := by have := HTN.out; omega
  go_wp2
  clear t0 t1 t2 t3 f0 f1 f2 f3 q0 q1 q2 q3 g0 g1 g2 g3 hNT hTN
  have HF := hide ((((((HC6.out.setOther ⟨T, 0, none⟩ (.int .i64 1) (by have := HTN.out; show N ≠ T; omega)).setOther ⟨T, 1, none⟩ (.string tx) (by have := HTN.out; show N ≠ T; omega)).set 0 (.int .i64 1)).set 1 (.string tx)).set 2 (.pointer none)).set 3 (.int .i64 b))
  have HLF := hide ((((((HL6.out.other T 0 (.int .i64 1) (by have := HTN.out; have := HPT.out; omega)).other T 1 (.string tx) (by have := HTN.out; have := HPT.out; omega)).other N 0 (.int .i64 1) (by have := HPT.out; omega)).other N 1 (.string tx) (by have := HPT.out; omega)).other N 2 (.pointer none) (by have := HPT.out; omega)).other N 3 (.int .i64 b) (by have := HPT.out; omega))
  have HAF := hide ((((((HA6.out.other T 0 (.int .i64 1) (by have := HTN.out; have := HN.out; omega)).other T 1 (.string tx) (by have := HTN.out; have := HN.out; omega)).other N 0 (.int .i64 1) (by have := HN.out; omega)).other N 1 (.string tx) (by have := HN.out; omega)).other N 2 (.pointer none) (by have := HN.out; omega)).other N 3 (.int .i64 b) (by have := HN.out; omega))
  have z0 := HF.out.cell 0; have z1 := HF.out.cell 1; have z2 := HF.out.cell 2; have z3 := HF.out.cell 3
  simp only [List.setIfInBounds_toArray, List.set_cons_zero, List.set_cons_succ, List.getElem?_toArray, List.getElem?_cons_zero, List.getElem?_cons_succ] at z0 z1 z2 z3
  refine bodyPost_ret (v := .agg #[(.int .i64 1), (.string tx), (.pointer none), (.int .i64 b)]) (by simp [results, Tryz.results18, go_sem, z0, z1, z2, z3]) rfl ?_
  have hlf := HLF.out
  have hk := HK.out
  have hx := HX.out
  unfold tokB
  rw [if_pos HLB.out, ← hk]
  by_cases h30 : 30 < k
  · rw [if_pos h30, if_pos h30] at hlf
    rw [if_pos h30]
    refine ⟨fun e x h => ?_, fun t n h => (by cases h), HAF.out⟩
    injection h with h; injection h with h1 h2; subst h1 h2
    exact ⟨⟨1, tx, none, b⟩, _, rfl, hlf, by decide⟩
  · rw [if_neg h30, if_neg h30] at hlf
    rw [if_neg h30]
    refine ⟨fun e x h => (by cases h), fun t n h => ?_, HAF.out⟩
    injection h with h; injection h with h1 h2; subst h1 h2
    exact ⟨_, by rw [← hx]; rfl, rfl, hlf⟩
end Go.Proofs.YtjlgepahgmkamaaGreatDoor
/- token: a sign. -/
namespace Go.Proofs.YtjlgepahgmkamaaGreatDoor
set_option maxRecDepth 100000
set_option linter.unusedSimpArgs false
set_option linter.unusedVariables false
open Go.RowKit Go.Shelf

set_option maxHeartbeats 3000000 in
theorem lxTok_sign (p : Nat) (s : ByteArray) (a x0 b c : Nat) (w : World) (h : LxAt w p s a 0 x0) (hT : TabAt w) (ha : a ≤ s.size) (hb : b = a + skN false ((bytesN s).drop a)) (hcb : (bytesN s)[b]? = some c) (hl : letB c true = false) (hs : sgL.contains c = true) :
    Calls Tryz.prog 18 #[PT p] w fun r w' => TokPost s p x0 w (tokF s a) r w' := by
  have hres : tokF s a = tokB s b c := by
    unfold tokF
    rw [← hb, hcb]
  rw [hres]
  clear hres
  have hbig := h.big
  obtain ⟨w0, hw0⟩ : ∃ w0, w0 = w.alloc (.cells #[.int .i64 0, .string ⟨#[]⟩, .pointer none, .int .i64 0] 35) := ⟨_, rfl⟩
  have hB0 : Below w.heap.size w w0 := by rw [hw0]; exact (Below.refl _ _).alloc (Nat.le_refl _) _
  have HTC : Hid (Blk w0 w.heap.size #[.int .i64 0, .string ⟨#[]⟩, .pointer none, .int .i64 0] 35) := by rw [hw0]; exact Blk.newAt rfl _ _
  have HSK : Hid (Calls Tryz.prog 36 #[PT p] (w.alloc (.cells #[.int .i64 0, .string ⟨#[]⟩, .pointer none, .int .i64 0] 35)) fun r w' => r = .returned (.tuple #[]) ∧ LxAt w' p s b 0 x0 ∧ Aside p w0 w') := by
    rw [← hw0, hb]; exact lxSkip p s a 0 x0 _ w0 (h.keep hB0) ha rfl
  have hbs : b ≤ s.size := by
    have := skN_le ((bytesN s).drop a) false
    rw [List.length_drop, bN_len] at this
    omega
  have HA00 : Hid (Aside p w w0) := Aside.of_below hB0
  have HH := hide h
  have HT := hide hT
  clear hw0 hB0 hb h hT
  unfold PT at HSK ⊢
  go_enter Tryz.func18, Tryz.ntmps18
  go_wp2_with fail
  refine HSK.out.mono ?_
  rintro r w2 ⟨rfl, h2, hA2⟩
  have HL2 := hide h2
  have HA2 := hide hA2
  have c1 := h2.c1
  clear h2 hA2 HSK
  obtain ⟨T, hT⟩ : ∃ T, T = w2.heap.size := ⟨_, rfl⟩
  obtain ⟨w3, hw3⟩ : ∃ w3, w3 = w2.alloc (.cells #[.int .i64 0, .string ⟨#[]⟩, .pointer none, .int .i64 b] 35) := ⟨_, rfl⟩
  have hB3 : Below w2.heap.size w2 w3 := by rw [hw3]; exact (Below.refl _ _).alloc (Nat.le_refl _) _
  have HTT : Hid (Blk w3 T #[.int .i64 0, .string ⟨#[]⟩, .pointer none, .int .i64 b] 35) := by rw [hw3, hT]; exact Blk.newAt rfl _ _
  have HL3 : Hid (LxAt w3 p s b 0 x0) := HL2.out.keep hB3
  have HA30 : Hid (Aside p w0 w3) := HA2.out.trans (Aside.of_below hB3)
  have HA3 : Hid (Aside p w w3) := HA00.out.trans HA30.out
  have hpT : p < w.heap.size := HH.out.blk.lt
  have HTC3 : Hid (Blk w3 w.heap.size #[.int .i64 0, .string ⟨#[]⟩, .pointer none, .int .i64 0] 35) := (HA30.out.block _ HTC.out.lt (by omega)).trans HTC.out
  have HTN : Hid (w.heap.size < T) := by show _ < _; rw [hT]; exact Nat.lt_of_lt_of_le HTC.out.lt HA2.out.size
  have HPT := hide hpT
  obtain ⟨N, hN⟩ : ∃ N, N = w.heap.size := ⟨_, rfl⟩
  have HN := hide hN
  rw [← hN] at HTC3 HTN HPT
  go_wp2
  rw [← hw3, ← hT, ← hN]
  clear hw3 hB3 hT c1 hpT hN HTC HL2 HA2 HA30 HA00
  try rw [show Value.pointer (some ⟨p, 0, none⟩) = PT p from rfl]
  obtain ⟨C, hC⟩ : ∃ C : World → Prop, C = fun V => Below w3.heap.size w3 V := ⟨_, rfl⟩
  have HCD : Hid (C { w3 with drawn := w3.drawn + 1 }) := by rw [hC]; exact ⟨rfl, rfl, rfl, Nat.le_refl _, fun _ _ => rfl⟩
  have HCB : Hid (∀ V, C V → Below w3.heap.size w3 V) := by rw [hC]; exact fun V h => h
  clear hC
  have y0 : ∀ V, C V → V.cell? ⟨p, 0, none⟩ = some (.string s) := fun V hV => (HL3.out.keep (HCB.out V hV)).c0
  have y1 : ∀ V, C V → V.cell? ⟨p, 1, none⟩ = some (.int .i64 b) := fun V hV => (HL3.out.keep (HCB.out V hV)).c1
  have hbl : b < s.size := by have := (List.getElem?_eq_some_iff.1 hcb).1; rwa [bN_len] at this
  have heq : ((b : Int) == (s.size : Int)) = false := by simp; omega
  have hc256 : c < 256 := bN_lt s c (List.mem_of_getElem? hcb)
  refine w_lit (C := C) (by kernel_rfl) (by kernel_rfl) HCD.out ?_
  refine w_value (PT p) (by kernel_rfl) (fun w hw => x_move _ _ _ _ _ _ _ _ rfl w) ?_
  simp only [Act.put, List.setIfInBounds_toArray, List.set_cons_succ, List.set_cons_zero]
  refine w_value (PT p) (by kernel_rfl) (fun w hw => x_nilCheck _ _ _ _ _ _ _ _ rfl w) ?_
  simp only [Act.put, List.setIfInBounds_toArray, List.set_cons_succ, List.set_cons_zero]
  refine w_value (.pointer (some ⟨p, 1, none⟩)) (by kernel_rfl) (fun w hw => x_lxF1 _ _ _ _ _ _ _ _ rfl w) ?_
  simp only [Act.put, List.setIfInBounds_toArray, List.set_cons_succ, List.set_cons_zero]
  refine w_value (.int .i64 b) (by kernel_rfl) (fun w hw => x_ldN _ _ _ _ _ _ _ p 1 _ rfl w (y1 w hw)) ?_
  simp only [Act.put, List.setIfInBounds_toArray, List.set_cons_succ, List.set_cons_zero]
  refine w_value (PT p) (by kernel_rfl) (fun w hw => x_move _ _ _ _ _ _ _ _ rfl w) ?_
  simp only [Act.put, List.setIfInBounds_toArray, List.set_cons_succ, List.set_cons_zero]
  refine w_value (PT p) (by kernel_rfl) (fun w hw => x_nilCheck _ _ _ _ _ _ _ _ rfl w) ?_
  simp only [Act.put, List.setIfInBounds_toArray, List.set_cons_succ, List.set_cons_zero]
  refine w_value (PT p) (by kernel_rfl) (fun w hw => x_lxF0 _ _ _ _ _ _ _ _ rfl w) ?_
  simp only [Act.put, List.setIfInBounds_toArray, List.set_cons_succ, List.set_cons_zero]
  refine w_value (.string s) (by kernel_rfl) (fun w hw => x_ldS _ _ _ _ _ _ _ p _ rfl w (y0 w hw)) ?_
  simp only [Act.put, List.setIfInBounds_toArray, List.set_cons_succ, List.set_cons_zero]
  refine w_value (.int .i64 s.size) (by kernel_rfl) (fun w hw => x_lenS _ _ _ _ _ _ _ s rfl w) ?_
  simp only [Act.put, List.setIfInBounds_toArray, List.set_cons_succ, List.set_cons_zero]
  refine w_value (.bool false) (by kernel_rfl) (fun w hw => x_eqN _ _ _ _ _ _ _ _ b s.size false heq rfl rfl w) ?_
  simp only [Act.put, List.setIfInBounds_toArray, List.set_cons_succ, List.set_cons_zero]
  refine w_nil ?_
  intro W0 hCW
  have HL5 := hide (HL3.out.keep (HCB.out W0 hCW))
  have HA5 := hide (HA3.out.trans (Aside.of_below (HCB.out W0 hCW)))
  have HT5 := hide (HTT.out.below (HCB.out W0 hCW) HTT.out.lt)
  have HC5 := hide (HTC3.out.below (HCB.out W0 hCW) HTC3.out.lt)
  clear hCW y0 y1
  go_wp2
  try rw [show Value.pointer (some ⟨p, 0, none⟩) = PT p from rfl]
  obtain ⟨D, hD⟩ : ∃ D : World → Prop, D = fun V => Below W0.heap.size W0 V := ⟨_, rfl⟩
  have HDD : Hid (D { W0 with drawn := W0.drawn + 1 }) := by rw [hD]; exact ⟨rfl, rfl, rfl, Nat.le_refl _, fun _ _ => rfl⟩
  have HDB : Hid (∀ V, D V → Below W0.heap.size W0 V) := by rw [hD]; exact fun V h => h
  clear hD
  have z0 : ∀ V, D V → V.cell? ⟨p, 0, none⟩ = some (.string s) := fun V hV => (HL5.out.keep (HDB.out V hV)).c0
  have z1 : ∀ V, D V → V.cell? ⟨p, 1, none⟩ = some (.int .i64 b) := fun V hV => (HL5.out.keep (HDB.out V hV)).c1
  refine w_lit (C := D) (by kernel_rfl) (by kernel_rfl) HDD.out ?_
  refine w_value (PT p) (by kernel_rfl) (fun w hw => x_move _ _ _ _ _ _ _ _ rfl w) ?_
  simp only [Act.put, List.setIfInBounds_toArray, List.set_cons_succ, List.set_cons_zero]
  refine w_value (PT p) (by kernel_rfl) (fun w hw => x_nilCheck _ _ _ _ _ _ _ _ rfl w) ?_
  simp only [Act.put, List.setIfInBounds_toArray, List.set_cons_succ, List.set_cons_zero]
  refine w_value (PT p) (by kernel_rfl) (fun w hw => x_lxF0 _ _ _ _ _ _ _ _ rfl w) ?_
  simp only [Act.put, List.setIfInBounds_toArray, List.set_cons_succ, List.set_cons_zero]
  refine w_value (.string s) (by kernel_rfl) (fun w hw => x_ldS _ _ _ _ _ _ _ p _ rfl w (z0 w hw)) ?_
  simp only [Act.put, List.setIfInBounds_toArray, List.set_cons_succ, List.set_cons_zero]
  refine w_value (PT p) (by kernel_rfl) (fun w hw => x_move _ _ _ _ _ _ _ _ rfl w) ?_
  simp only [Act.put, List.setIfInBounds_toArray, List.set_cons_succ, List.set_cons_zero]
  refine w_value (PT p) (by kernel_rfl) (fun w hw => x_nilCheck _ _ _ _ _ _ _ _ rfl w) ?_
  simp only [Act.put, List.setIfInBounds_toArray, List.set_cons_succ, List.set_cons_zero]
  refine w_value (.pointer (some ⟨p, 1, none⟩)) (by kernel_rfl) (fun w hw => x_lxF1 _ _ _ _ _ _ _ _ rfl w) ?_
  simp only [Act.put, List.setIfInBounds_toArray, List.set_cons_succ, List.set_cons_zero]
  refine w_value (.int .i64 b) (by kernel_rfl) (fun w hw => x_ldN _ _ _ _ _ _ _ p 1 _ rfl w (z1 w hw)) ?_
  simp only [Act.put, List.setIfInBounds_toArray, List.set_cons_succ, List.set_cons_zero]
  refine w_value (.int .u8 c) (by kernel_rfl) (fun w hw => x_sIdx _ _ _ _ _ _ _ _ s b c hcb rfl rfl w) ?_
  simp only [Act.put, List.setIfInBounds_toArray, List.set_cons_succ, List.set_cons_zero]
  refine w_value (.int .u8 c) (by kernel_rfl) (fun w hw => x_assign _ _ _ _ _ _ _ _ rfl w) ?_
  simp only [Act.put, List.setIfInBounds_toArray, List.set_cons_succ, List.set_cons_zero]
  refine w_nil ?_
  intro W hCW
  have HL4 := hide (HL5.out.keep (HDB.out W hCW))
  have HA4 := hide (HA5.out.trans (Aside.of_below (HDB.out W hCW)))
  have HT4 := hide (HT5.out.below (HDB.out W hCW) HT5.out.lt)
  have HC4 := hide (HC5.out.below (HDB.out W hCW) HC5.out.lt)
  clear hCW z0 z1
  clear HL3 HA3 HTT HTC3 HL5 HA5 HT5 HC5
  have HLET := hide (lexLetter_any c hc256 true W)
  rw [hl] at HLET
  obtain ⟨z, hz⟩ : ∃ z, z = idxI (bytesN ⟨#[40, 41, 44, 46, 59, 124, 42, 61]⟩) c := ⟨_, rfl⟩
  have esg : bytesN ⟨#[40, 41, 44, 46, 59, 124, 42, 61]⟩ = sgL := by decide +kernel
  have hzq : decide (0 ≤ z) = true := by rw [hz, esg, idxI_pos]; exact hs
  have HIX := hide (indexByte_any ⟨#[40, 41, 44, 46, 59, 124, 42, 61]⟩ c hc256 W)
  rw [← hz] at HIX
  have HLB := hide hl
  have HSB := hide hs
  clear hz esg hl hs
  have HSG := hide (lxSign_any p s b 0 x0 W HL4.out hbl)
  obtain ⟨tx, htx⟩ : ∃ tx, tx = s.extract b (b + 1) := ⟨_, rfl⟩
  rw [← htx] at HSG
  have HX := hide htx
  clear htx hcb
  unfold PT at HSG
  try unfold PT
  go_wp2_with fail
  refine HLET.out.mono ?_
  rintro r w5 ⟨rfl, rfl⟩
  go_wp2_with fail
  refine HIX.out.mono ?_
  rintro r w5 ⟨rfl, rfl⟩
  go_wp2_with fail
  refine HSG.out.mono ?_
  rintro r w6 ⟨rfl, h6, hA6⟩
  have HL6 := hide h6
  have HT6 : Hid (Blk w6 T #[.int .i64 0, .string ⟨#[]⟩, .pointer none, .int .i64 b] 35) := (hA6.block _ HT4.out.lt (by have := HTN.out; have := HPT.out; omega)).trans HT4.out
  have HC6 : Hid (Blk w6 N #[.int .i64 0, .string ⟨#[]⟩, .pointer none, .int .i64 0] 35) := (hA6.block _ HC4.out.lt (by have := HPT.out; omega)).trans HC4.out
  have HA6 : Hid (Aside p w w6) := HA4.out.trans hA6
  clear h6 hA6 HSG HLET HIX
  have t0 := HT6.out.cell 0; have t1 := HT6.out.cell 1; have t2 := HT6.out.cell 2; have t3 := HT6.out.cell 3
  have f0 := HT6.out.frozen 0; have f1 := HT6.out.frozen 1; have f2 := HT6.out.frozen 2; have f3 := HT6.out.frozen 3
  have q0 := HC6.out.cell 0; have q1 := HC6.out.cell 1; have q2 := HC6.out.cell 2; have q3 := HC6.out.cell 3
  have g0 := HC6.out.frozen 0; have g1 := HC6.out.frozen 1; have g2 := HC6.out.frozen 2; have g3 := HC6.out.frozen 3
  simp only [List.getElem?_toArray, List.getElem?_cons_zero, List.getElem?_cons_succ] at t0 t1 t2 t3 q0 q1 q2 q3
  have hNT : N ≠ T := by have := HTN.out; omega
  have hTN : T ≠ N := by have := HTN.out; omega
  go_wp2
  clear t0 t1 t2 t3 f0 f1 f2 f3 q0 q1 q2 q3 g0 g1 g2 g3 hNT hTN
  have HF := hide ((((((HC6.out.setOther ⟨T, 0, none⟩ (.int .i64 2) (by have := HTN.out; show N ≠ T; omega)).setOther ⟨T, 1, none⟩ (.string tx) (by have := HTN.out; show N ≠ T; omega)).set 0 (.int .i64 2)).set 1 (.string tx)).set 2 (.pointer none)).set 3 (.int .i64 b))
  have HLF := hide ((((((HL6.out.other T 0 (.int .i64 2) (by have := HTN.out; have := HPT.out; omega)).other T 1 (.string tx) (by have := HTN.out; have := HPT.out; omega)).other N 0 (.int .i64 2) (by have := HPT.out; omega)).other N 1 (.string tx) (by have := HPT.out; omega)).other N 2 (.pointer none) (by have := HPT.out; omega)).other N 3 (.int .i64 b) (by have := HPT.out; omega))
  have HAF := hide ((((((HA6.out.other T 0 (.int .i64 2) (by have := HTN.out; have := HN.out; omega)).other T 1 (.string tx) (by have := HTN.out; have := HN.out; omega)).other N 0 (.int .i64 2) (by have := HN.out; omega)).other N 1 (.string tx) (by have := HN.out; omega)).other N 2 (.pointer none) (by have := HN.out; omega)).other N 3 (.int .i64 b) (by have := HN.out; omega))
  have z0 := HF.out.cell 0; have z1 := HF.out.cell 1; have z2 := HF.out.cell 2; have z3 := HF.out.cell 3
  simp only [List.setIfInBounds_toArray, List.set_cons_zero, List.set_cons_succ, List.getElem?_toArray, List.getElem?_cons_zero, List.getElem?_cons_succ] at z0 z1 z2 z3
  refine bodyPost_ret (v := .agg #[(.int .i64 2), (.string tx), (.pointer none), (.int .i64 b)]) (by simp [results, Tryz.results18, go_sem, z0, z1, z2, z3]) rfl ?_
  have hx := HX.out
  unfold tokB
  rw [if_neg (by rw [HLB.out]; decide), if_pos HSB.out]
  refine ⟨fun e x h => (by cases h), fun t n h => ?_, HAF.out⟩
  injection h with h; injection h with h1 h2; subst h1 h2
  exact ⟨_, by rw [← hx]; rfl, rfl, HLF.out⟩
end Go.Proofs.YtjlgepahgmkamaaGreatDoor
