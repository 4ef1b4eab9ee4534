/- Texts of this claim put together: LxW6, LxW, LxX. -/
import Derived.Test.YtjlgepahgmkamaaGreatDoorJoinLxW0
import Derived.Test.YtjlgepahgmkamaaGreatDoorJoinLxW3
import Derived.Test.YtjlgepahgmkamaaGreatDoorJoinLxW5
/- token: another byte. -/
namespace Go.Proofs.YtjlgepahgmkamaaGreatDoor
set_option maxRecDepth 100000
set_option linter.unusedSimpArgs false
set_option linter.unusedVariables false
open Go.RowKit Go.Shelf

set_option maxHeartbeats 3000000 in
theorem lxTok_bad (p : Nat) (s : ByteArray) (a x0 b c : Nat) (w : World) (h : LxAt w p s a 0 x0) (hT : TabAt w) (ha : a ≤ s.size) (hb : b = a + skN false ((bytesN s).drop a)) (hcb : (bytesN s)[b]? = some c) (hl : letB c true = false) (hs : sgL.contains c = false) (h34 : c ≠ 34) (h47 : c ≠ 47) :
    Calls Tryz.prog 18 #[PT p] w fun r w' => TokPost s p x0 w (tokF s a) r w' := by
  have hres : tokF s a = tokB s b c := by
    unfold tokF
    rw [← hb, hcb]
  rw [hres]
  clear hres
  have hbig := h.big
  obtain ⟨w0, hw0⟩ : ∃ w0, w0 = w.alloc (.cells #[.int .i64 0, .string ⟨#[]⟩, .pointer none, .int .i64 0] 35) := ⟨_, rfl⟩
  have hB0 : Below w.heap.size w w0 := by rw [hw0]; exact (Below.refl _ _).alloc (Nat.le_refl _) _
  have HTC : Hid (Blk w0 w.heap.size #[.int .i64 0, .string ⟨#[]⟩, .pointer none, .int .i64 0] 35) := by rw [hw0]; exact Blk.newAt rfl _ _
  have HSK : Hid (Calls Tryz.prog 36 #[PT p] (w.alloc (.cells #[.int .i64 0, .string ⟨#[]⟩, .pointer none, .int .i64 0] 35)) fun r w' => r = .returned (.tuple #[]) ∧ LxAt w' p s b 0 x0 ∧ Aside p w0 w') := by
    rw [← hw0, hb]; exact lxSkip p s a 0 x0 _ w0 (h.keep hB0) ha rfl
  have hbs : b ≤ s.size := by
    have := skN_le ((bytesN s).drop a) false
    rw [List.length_drop, bN_len] at this
    omega
  have HA00 : Hid (Aside p w w0) := Aside.of_below hB0
  have HH := hide h
  have HT := hide hT
  clear hw0 hB0 hb h hT
  unfold PT at HSK ⊢
  go_enter Tryz.func18, Tryz.ntmps18
  go_wp2_with fail
  refine HSK.out.mono ?_
  rintro r w2 ⟨rfl, h2, hA2⟩
  have HL2 := hide h2
  have HA2 := hide hA2
  have c1 := h2.c1
  clear h2 hA2 HSK
  obtain ⟨T, hT⟩ : ∃ T, T = w2.heap.size := ⟨_, rfl⟩
  obtain ⟨w3, hw3⟩ : ∃ w3, w3 = w2.alloc (.cells #[.int .i64 0, .string ⟨#[]⟩, .pointer none, .int .i64 b] 35) := ⟨_, rfl⟩
  have hB3 : Below w2.heap.size w2 w3 := by rw [hw3]; exact (Below.refl _ _).alloc (Nat.le_refl _) _
  have HTT : Hid (Blk w3 T #[.int .i64 0, .string ⟨#[]⟩, .pointer none, .int .i64 b] 35) := by rw [hw3, hT]; exact Blk.newAt rfl _ _
  have HL3 : Hid (LxAt w3 p s b 0 x0) := HL2.out.keep hB3
  have HA30 : Hid (Aside p w0 w3) := HA2.out.trans (Aside.of_below hB3)
  have HA3 : Hid (Aside p w w3) := HA00.out.trans HA30.out
  have hpT : p < w.heap.size := HH.out.blk.lt
  have HTC3 : Hid (Blk w3 w.heap.size #[.int .i64 0, .string ⟨#[]⟩, .pointer none, .int .i64 0] 35) := (HA30.out.block _ HTC.out.lt (by omega)).trans HTC.out
  have HTN : Hid (w.heap.size < T) := by show _ < _; rw [hT]; exact Nat.lt_of_lt_of_le HTC.out.lt HA2.out.size
  have HPT := hide hpT
  obtain ⟨N, hN⟩ : ∃ N, N = w.heap.size := ⟨_, rfl⟩
  have HN := hide hN
  rw [← hN] at HTC3 HTN HPT
  go_wp2
  rw [← hw3, ← hT, ← hN]
  clear hw3 hB3 hT c1 hpT hN HTC HL2 HA2 HA30 HA00
  try rw [show Value.pointer (some ⟨p, 0, none⟩) = PT p from rfl]
  obtain ⟨C, hC⟩ : ∃ C : World → Prop, C = fun V => Below w3.heap.size w3 V := ⟨_, rfl⟩
  have HCD : Hid (C { w3 with drawn := w3.drawn + 1 }) := by rw [hC]; exact ⟨rfl, rfl, rfl, Nat.le_refl _, fun _ _ => rfl⟩
  have HCB : Hid (∀ V, C V → Below w3.heap.size w3 V) := by rw [hC]; exact fun V h => h
  clear hC
  have y0 : ∀ V, C V → V.cell? ⟨p, 0, none⟩ = some (.string s) := fun V hV => (HL3.out.keep (HCB.out V hV)).c0
  have y1 : ∀ V, C V → V.cell? ⟨p, 1, none⟩ = some (.int .i64 b) := fun V hV => (HL3.out.keep (HCB.out V hV)).c1
  have hbl : b < s.size := by have := (List.getElem?_eq_some_iff.1 hcb).1; rwa [bN_len] at this
  have heq : ((b : Int) == (s.size : Int)) = false := by simp; omega
  have hc256 : c < 256 := bN_lt s c (List.mem_of_getElem? hcb)
  refine w_lit (C := C) (by kernel_rfl) (by kernel_rfl) HCD.out ?_
  refine w_value (PT p) (by kernel_rfl) (fun w hw => x_move _ _ _ _ _ _ _ _ rfl w) ?_
  simp only [Act.put, List.setIfInBounds_toArray, List.set_cons_succ, List.set_cons_zero]
  refine w_value (PT p) (by kernel_rfl) (fun w hw => x_nilCheck _ _ _ _ _ _ _ _ rfl w) ?_
  simp only [Act.put, List.setIfInBounds_toArray, List.set_cons_succ, List.set_cons_zero]
  refine w_value (.pointer (some ⟨p, 1, none⟩)) (by kernel_rfl) (fun w hw => x_lxF1 _ _ _ _ _ _ _ _ rfl w) ?_
  simp only [Act.put, List.setIfInBounds_toArray, List.set_cons_succ, List.set_cons_zero]
  refine w_value (.int .i64 b) (by kernel_rfl) (fun w hw => x_ldN _ _ _ _ _ _ _ p 1 _ rfl w (y1 w hw)) ?_
  simp only [Act.put, List.setIfInBounds_toArray, List.set_cons_succ, List.set_cons_zero]
  refine w_value (PT p) (by kernel_rfl) (fun w hw => x_move _ _ _ _ _ _ _ _ rfl w) ?_
  simp only [Act.put, List.setIfInBounds_toArray, List.set_cons_succ, List.set_cons_zero]
  refine w_value (PT p) (by kernel_rfl) (fun w hw => x_nilCheck _ _ _ _ _ _ _ _ rfl w) ?_
  simp only [Act.put, List.setIfInBounds_toArray, List.set_cons_succ, List.set_cons_zero]
  refine w_value (PT p) (by kernel_rfl) (fun w hw => x_lxF0 _ _ _ _ _ _ _ _ rfl w) ?_
  simp only [Act.put, List.setIfInBounds_toArray, List.set_cons_succ, List.set_cons_zero]
  refine w_value (.string s) (by kernel_rfl) (fun w hw => x_ldS _ _ _ _ _ _ _ p _ rfl w (y0 w hw)) ?_
  simp only [Act.put, List.setIfInBounds_toArray, List.set_cons_succ, List.set_cons_zero]
  refine w_value (.int .i64 s.size) (by kernel_rfl) (fun w hw => x_lenS _ _ _ _ _ _ _ s rfl w) ?_
  simp only [Act.put, List.setIfInBounds_toArray, List.set_cons_succ, List.set_cons_zero]
  refine w_value (.bool false) (by kernel_rfl) (fun w hw => x_eqN _ _ _ _ _ _ _ _ b s.size false heq rfl rfl w) ?_
  simp only [Act.put, List.setIfInBounds_toArray, List.set_cons_succ, List.set_cons_zero]
  refine w_nil ?_
  intro W0 hCW
  have HL5 := hide (HL3.out.keep (HCB.out W0 hCW))
  have HA5 := hide (HA3.out.trans (Aside.of_below (HCB.out W0 hCW)))
  have HT5 := hide (HTT.out.below (HCB.out W0 hCW) HTT.out.lt)
  have HC5 := hide (HTC3.out.below (HCB.out W0 hCW) HTC3.out.lt)
  clear hCW y0 y1
  go_wp2
  try rw [show Value.pointer (some ⟨p, 0, none⟩) = PT p from rfl]
  obtain ⟨D, hD⟩ : ∃ D : World → Prop, D = fun V => Below W0.heap.size W0 V := ⟨_, rfl⟩
  have HDD : Hid (D { W0 with drawn := W0.drawn + 1 }) := by rw [hD]; exact ⟨rfl, rfl, rfl, Nat.le_refl _, fun _ _ => rfl⟩
  have HDB : Hid (∀ V, D V → Below W0.heap.size W0 V) := by rw [hD]; exact fun V h => h
  clear hD
  have z0 : ∀ V, D V → V.cell? ⟨p, 0, none⟩ = some (.string s) := fun V hV => (HL5.out.keep (HDB.out V hV)).c0
  have z1 : ∀ V, D V → V.cell? ⟨p, 1, none⟩ = some (.int .i64 b) := fun V hV => (HL5.out.keep (HDB.out V hV)).c1
  refine w_lit (C := D) (by kernel_rfl) (by kernel_rfl) HDD.out ?_
  refine w_value (PT p) (by kernel_rfl) (fun w hw => x_move _ _ _ _ _ _ _ _ rfl w) ?_
  simp only [Act.put, List.setIfInBounds_toArray, List.set_cons_succ, List.set_cons_zero]
  refine w_value (PT p) (by kernel_rfl) (fun w hw => x_nilCheck _ _ _ _ _ _ _ _ rfl w) ?_
  simp only [Act.put, List.setIfInBounds_toArray, List.set_cons_succ, List.set_cons_zero]
  refine w_value (PT p) (by kernel_rfl) (fun w hw => x_lxF0 _ _ _ _ _ _ _ _ rfl w) ?_
  simp only [Act.put, List.setIfInBounds_toArray, List.set_cons_succ, List.set_cons_zero]
  refine w_value (.string s) (by kernel_rfl) (fun w hw => x_ldS _ _ _ _ _ _ _ p _ rfl w (z0 w hw)) ?_
  simp only [Act.put, List.setIfInBounds_toArray, List.set_cons_succ, List.set_cons_zero]
  refine w_value (PT p) (by kernel_rfl) (fun w hw => x_move _ _ _ _ _ _ _ _ rfl w) ?_
  simp only [Act.put, List.setIfInBounds_toArray, List.set_cons_succ, List.set_cons_zero]
  refine w_value (PT p) (by kernel_rfl) (fun w hw => x_nilCheck _ _ _ _ _ _ _ _ rfl w) ?_
  simp only [Act.put, List.setIfInBounds_toArray, List.set_cons_succ, List.set_cons_zero]
  refine w_value (.pointer (some ⟨p, 1, none⟩)) (by kernel_rfl) (fun w hw => x_lxF1 _ _ _ _ _ _ _ _ rfl w) ?_
  simp only [Act.put, List.setIfInBounds_toArray, List.set_cons_succ, List.set_cons_zero]
  refine w_value (.int .i64 b) (by kernel_rfl) (fun w hw => x_ldN _ _ _ _ _ _ _ p 1 _ rfl w (z1 w hw)) ?_
  simp only [Act.put, List.setIfInBounds_toArray, List.set_cons_succ, List.set_cons_zero]
  refine w_value (.int .u8 c) (by kernel_rfl) (fun w hw => x_sIdx _ _ _ _ _ _ _ _ s b c hcb rfl rfl w) ?_
  simp only [Act.put, List.setIfInBounds_toArray, List.set_cons_succ, List.set_cons_zero]
  refine w_value (.int .u8 c) (by kernel_rfl) (fun w hw => x_assign _ _ _ _ _ _ _ _ rfl w) ?_
  simp only [Act.put, List.setIfInBounds_toArray, List.set_cons_succ, List.set_cons_zero]
  refine w_nil ?_
  intro W hCW
  have HL4 := hide (HL5.out.keep (HDB.out W hCW))
  have HA4 := hide (HA5.out.trans (Aside.of_below (HDB.out W hCW)))
  have HT4 := hide (HT5.out.below (HDB.out W hCW) HT5.out.lt)
  have HC4 := hide (HC5.out.below (HDB.out W hCW) HC5.out.lt)
  clear hCW z0 z1
  clear HL3 HA3 HTT HTC3 HL5 HA5 HT5 HC5
  have HLET := hide (lexLetter_any c hc256 true W)
  rw [hl] at HLET
  obtain ⟨z, hz⟩ : ∃ z, z = idxI (bytesN ⟨#[40, 41, 44, 46, 59, 124, 42, 61]⟩) c := ⟨_, rfl⟩
  have esg : bytesN ⟨#[40, 41, 44, 46, 59, 124, 42, 61]⟩ = sgL := by decide +kernel
  have hzq : decide (0 ≤ z) = false := by rw [hz, esg, idxI_pos]; exact hs
  have HIX := hide (indexByte_any ⟨#[40, 41, 44, 46, 59, 124, 42, 61]⟩ c hc256 W)
  rw [← hz] at HIX
  have HLB := hide hl
  have HSB := hide hs
  clear hz esg hl hs
  have HFL := hide (lxFail_any p 2 b s b 0 x0 W HL4.out)
  rw [show ((2 : Nat) : Int) = 2 from rfl] at HFL
  have h34b : ((c : Int) == 34) = false := by simp; omega
  have h47b : ((c : Int) == 47) = false := by simp; omega
  have H34 := hide h34
  have H47 := hide h47
  have c1 := HL4.out.c1
  clear hcb h47 h34
  unfold PT at HFL
  try unfold PT
  go_wp2_with fail
  refine HLET.out.mono ?_
  rintro r w5 ⟨rfl, rfl⟩
  go_wp2_with fail
  refine HIX.out.mono ?_
  rintro r w5 ⟨rfl, rfl⟩
  go_wp2_with fail
  refine HFL.out.mono ?_
  rintro r w6 ⟨rfl, h6, hA6⟩
  have HL6 := hide h6
  have HT6 : Hid (Blk w6 T #[.int .i64 0, .string ⟨#[]⟩, .pointer none, .int .i64 b] 35) := (hA6.block _ HT4.out.lt (by have := HTN.out; have := HPT.out; omega)).trans HT4.out
  have HC6 : Hid (Blk w6 N #[.int .i64 0, .string ⟨#[]⟩, .pointer none, .int .i64 0] 35) := (hA6.block _ HC4.out.lt (by have := HPT.out; omega)).trans HC4.out
  have HA6 : Hid (Aside p w w6) := HA4.out.trans hA6
  clear h6 hA6 HFL HLET HIX c1
  have t0 := HT6.out.cell 0; have t1 := HT6.out.cell 1; have t2 := HT6.out.cell 2; have t3 := HT6.out.cell 3
  have f0 := HT6.out.frozen 0; have f1 := HT6.out.frozen 1; have f2 := HT6.out.frozen 2; have f3 := HT6.out.frozen 3
  have q0 := HC6.out.cell 0; have q1 := HC6.out.cell 1; have q2 := HC6.out.cell 2; have q3 := HC6.out.cell 3
  have g0 := HC6.out.frozen 0; have g1 := HC6.out.frozen 1; have g2 := HC6.out.frozen 2; have g3 := HC6.out.frozen 3
  simp only [List.getElem?_toArray, List.getElem?_cons_zero, List.getElem?_cons_succ] at t0 t1 t2 t3 q0 q1 q2 q3
  have hNT : N ≠ T := by have := HTN.out; omega
  have hTN : T ≠ N := by have := HTN.out; omega
  go_wp2
  clear t0 t1 t2 t3 f0 f1 f2 f3 q0 q1 q2 q3 g0 g1 g2 g3 hNT hTN
  have HF := hide ((((HC6.out.set 0 (.int .i64 0)).set 1 (.string ⟨#[]⟩)).set 2 (.pointer none)).set 3 (.int .i64 b))
  have HLF := hide ((((HL6.out.other N 0 (.int .i64 0) (by have := HPT.out; omega)).other N 1 (.string ⟨#[]⟩) (by have := HPT.out; omega)).other N 2 (.pointer none) (by have := HPT.out; omega)).other N 3 (.int .i64 b) (by have := HPT.out; omega))
  have HAF := hide ((((HA6.out.other N 0 (.int .i64 0) (by have := HN.out; omega)).other N 1 (.string ⟨#[]⟩) (by have := HN.out; omega)).other N 2 (.pointer none) (by have := HN.out; omega)).other N 3 (.int .i64 b) (by have := HN.out; omega))
  have z0 := HF.out.cell 0; have z1 := HF.out.cell 1; have z2 := HF.out.cell 2; have z3 := HF.out.cell 3
  simp only [List.setIfInBounds_toArray, List.set_cons_zero, List.set_cons_succ, List.getElem?_toArray, List.getElem?_cons_zero, List.getElem?_cons_succ] at z0 z1 z2 z3
  refine bodyPost_ret (v := .agg #[(.int .i64 0), (.string ⟨#[]⟩), (.pointer none), (.int .i64 b)]) (by simp [results, Tryz.results18, go_sem, z0, z1, z2, z3]) rfl ?_
  unfold tokB
  rw [if_neg (by rw [HLB.out]; decide), if_neg (by rw [HSB.out]; decide), if_neg H34.out, if_neg H47.out]
  refine ⟨fun e x h => ?_, fun t n h => (by cases h), HAF.out⟩
  injection h with h; injection h with h1 h2; subst h1 h2
  exact ⟨⟨0, ⟨#[]⟩, none, b⟩, _, rfl, HLF.out, by decide⟩
end Go.Proofs.YtjlgepahgmkamaaGreatDoor
/- token: the next token, whatever stands there. -/
namespace Go.Proofs.YtjlgepahgmkamaaGreatDoor
set_option maxRecDepth 100000
set_option linter.unusedSimpArgs false
set_option linter.unusedVariables false
open Go.RowKit Go.Shelf

theorem lxTok_any (p : Nat) (s : ByteArray) (a x0 : Nat) (w : World) (h : LxAt w p s a 0 x0) (hT : TabAt w) (ha : a ≤ s.size) :
    Calls Tryz.prog 18 #[PT p] w fun r w' => TokPost s p x0 w (tokF s a) r w' := by
  obtain ⟨b, hb⟩ : ∃ b, b = a + skN false ((bytesN s).drop a) := ⟨_, rfl⟩
  cases hc : (bytesN s)[b]? with
  | none => exact lxTok_end p s a x0 b w h hT ha hb hc
  | some c =>
    cases hl : letB c true with
    | true => exact lxTok_word p s a x0 b c w h hT ha hb hc hl
    | false =>
      cases hs : sgL.contains c with
      | true => exact lxTok_sign p s a x0 b c w h hT ha hb hc hl hs
      | false =>
        by_cases h34 : c = 34
        · exact lxTok_text p s a x0 b c w h hT ha hb hc hl hs h34
        · by_cases h47 : c = 47
          · exact lxTok_re p s a x0 b c w h hT ha hb hc hl hs h47
          · exact lxTok_bad p s a x0 b c w h hT ha hb hc hl hs h34 h47
end Go.Proofs.YtjlgepahgmkamaaGreatDoor
/- All: the tokens of a text. -/
namespace Go.Proofs.YtjlgepahgmkamaaGreatDoor
set_option maxRecDepth 100000
set_option linter.unusedSimpArgs false
set_option linter.unusedVariables false
open Go.RowKit Go.Shelf

theorem ReAt.asideLx {w w' : World} {p b : Nat} {s : ByteArray} {a e x : Nat} {r : RE} (h : ReAt w b r) (hp : LxAt w p s a e x) (ha : Aside p w w') : ReAt w' b r := by
  induction h with
  | mk b o s0 ks v bs blk row kid ih =>
    have hbp : b ≠ p := fun e => by
      subst e
      have := blk.of_cells.symm.trans hp.blk.of_cells
      injection this with this
      injection this with h1 h2
      simp [reC, lxC] at h1
    refine .mk b o s0 ks v bs ((ha.block b blk.lt hbp).trans blk) ?_ ih
    obtain ⟨h1, a, cap, rfl, h2⟩ := row
    refine ⟨⟨h1.1, h1.2.keep ha.size⟩, a, cap, rfl, fun k hk => ?_⟩
    obtain ⟨b', off, e, hlt, hcell⟩ := h2 k hk
    refine ⟨b', off, e, Nat.lt_of_lt_of_le hlt ha.size, ?_⟩
    rw [← hcell]
    refine World.cell?_of_block (w := w) (ha.block b' hlt fun e => ?_)
    subst e
    rw [hp.blk.cell] at hcell
    have hmem := Array.mem_of_getElem? hcell
    simp [lxC, PT] at hmem
theorem PtrOf.ptr {w : World} {r : Option RE} {v : Value} (h : PtrOf w r v) : ∃ o, v = .pointer o := by
  cases r with
  | none => exact ⟨none, h⟩
  | some r => obtain ⟨q, rfl, -⟩ := h; exact ⟨_, rfl⟩
theorem PtrOf.map {w w' : World} {r : Option RE} {v : Value} (h : PtrOf w r v) (hm : ∀ q r, ReAt w q r → ReAt w' q r) : PtrOf w' r v := by
  cases r with
  | none => exact h
  | some r => obtain ⟨q, rfl, hq⟩ := h; exact ⟨q, rfl, hm _ _ hq⟩
section
variable (ρ : Operand → Value) (d : Option Tmp) (x : Operand) (t : TypeId) (pos : String) (af : Array Edge) (g : Option (Nat × Bool))
theorem x_lxF2 (b : Nat) (hx : ρ x = PT b) (w : World) : (execOp ρ { dst := d, op := .fieldAddr 57 x 2, type := t, pos := pos, after := af, guard := g }).run Tryz.prog w = .ok (.value (.pointer (some ⟨b, 2, none⟩))) w := by
  simp [go_sem, hx, PT]
theorem x_lxF3 (b : Nat) (hx : ρ x = PT b) (w : World) : (execOp ρ { dst := d, op := .fieldAddr 57 x 3, type := t, pos := pos, after := af, guard := g }).run Tryz.prog w = .ok (.value (.pointer (some ⟨b, 3, none⟩))) w := by
  simp [go_sem, hx, PT]
theorem x_nilL (hx : ρ x = .slice none 0 0) (w : World) : (execOp ρ { dst := d, op := .assign x, type := t, pos := pos, after := af, guard := g }).run Tryz.prog w = .ok (.value (.slice none 0 0)) w := by
  simp [go_sem, hx]
end
/-- The tokens of a text, or its first error. -/
def lexT (s : ByteArray) : (Nat × Nat) ⊕ List LTok := lexF s (s.size + 1) 0
/-- What All answers. -/
def AllPost (s : ByteArray) (w : World) (r : Ending) (w' : World) : Prop :=
  (∀ e x, lexT s = .inl (e, x) → r = .returned (.tuple #[.slice none 0 0, .int .i64 e, .int .i64 x]) ∧ e ≠ 0) ∧
  (∀ m, lexT s = .inr m → ∃ V l, r = .returned (.tuple #[V, .int .i64 0, .int .i64 0]) ∧ l.map Prod.fst = m ∧ OwnT w' w.heap.size V l ∧ ∀ q ∈ l, PtrOf w' q.1.re q.2) ∧ Below w.heap.size w w'
/-- What comes behind what was read. -/
def goOn (l : List LTok) : (Nat × Nat) ⊕ List LTok → (Nat × Nat) ⊕ List LTok
  | .inl e => .inl e
  | .inr m => .inr (l ++ m)
set_option maxHeartbeats 4000000 in
theorem lexAll_any (s : ByteArray) (w : World) (hbig : s.size ≤ 65536) (hT : TabAt w) :
    Calls Tryz.prog 10 #[.string s] w (AllPost s w) := by
  obtain ⟨w0, hw0⟩ : ∃ w0, w.alloc (.cells #[.string s, .int .i64 0, .int .i64 0, .int .i64 0] 57) = w0 := ⟨_, rfl⟩
  have hB0 : Below w.heap.size w w0 := by rw [← hw0]; exact (Below.refl _ _).alloc (Nat.le_refl _) _
  have HL0 : Hid (LxAt w0 w.heap.size s 0 0 0) := ⟨by rw [← hw0]; exact Blk.newAt rfl _ _, by omega, hbig⟩
  have HB0 := hide hB0
  have HT := hide hT
  obtain ⟨p, hp⟩ : ∃ p, w.heap.size = p := ⟨_, rfl⟩
  have HP : Hid (p = w.heap.size) := hp.symm
  rw [hp] at HL0
  have hd : decide ((65536 : Int) < (s.size : Int)) = false := by simp; omega
  clear hB0 hT
  go_enter Tryz.func10, Tryz.ntmps10
  go_wp2
  try rw [hw0]
  try rw [hp]
  clear hw0 hp
  go_loopw [6] (fun lv wr => ∃ (a f : Nat) (l : List (LTok × Value)), Hid (LxAt wr p s a 0 0) ∧ Hid (a ≤ s.size) ∧ Hid (s.size < f + a) ∧ Hid (OwnT wr (p + 1) lv l) ∧ Hid (∀ q ∈ l, PtrOf wr q.1.re q.2) ∧ Hid (lexT s = goOn (l.map Prod.fst) (lexF s f a)) ∧ Hid (Below w.heap.size w wr) ∧ Hid (l.length ≤ a)) (fun _ wr => s.size - atOf wr p)
  case atStart =>
    refine ⟨0, s.size + 1, [], HL0.out, Nat.zero_le _, (by show _ < _; omega), .inl ⟨rfl, rfl⟩, fun q hq => absurd hq (by simp), ?_, HB0.out, Nat.le_refl _⟩
    show lexT s = _
    unfold lexT
    cases lexF s (s.size + 1) 0 <;> rfl
  case round =>
    obtain ⟨a, f, l, HLX, HAS, HFU, HOW, HTK, HRE, HBE, HLL⟩ := hrel
    have hat := HLX.out.atOf
    have HAT := hide hat
    have hll := HLL.out
    have has := HAS.out
    clear hat
    obtain ⟨f, rfl⟩ : ∃ f', f = f' + 1 := ⟨f - 1, by have := HFU.out; omega⟩
    have HTR : Hid (TabAt wr) := HT.out.agree (Agree.of_all (K := fun _ => True) HBE.out) trivial
    have HTOK := hide (lxTok_any p s a 0 wr HLX.out HTR.out has)
    obtain ⟨oa, oc, rfl, -⟩ := HOW.out.slice
    have hl1 : l.length ≤ 65536 := by omega
    unfold PT at HTOK
    go_wp2_with fail
    refine HTOK.out.mono ?_
    rintro r w6 ⟨hE, hO, hA6⟩
    have HA6 := hide hA6
    have HB6 : Hid (Below w.heap.size w w6) := HBE.out.trans (hA6.below HBE.out.size (by rw [HP.out]; exact Nat.le_refl _))
    have HTK6 : Hid (∀ q ∈ l, PtrOf w6 q.1.re q.2) := fun q hq => (HTK.out q hq).map fun _ _ h => h.asideLx HLX.out hA6
    have HOW6 : Hid (OwnT w6 (p + 1) (.slice oa l.length oc) l) := HOW.out.other fun g hg hlt _ => hA6.block g hlt (by omega)
    clear HTOK hA6
    cases hr : tokF s a with
    | inl ex =>
      obtain ⟨e, x⟩ := ex
      obtain ⟨t6, a6, rfl, h6, he⟩ := hE e x hr
      have HL6 := hide h6
      have HR := hide hr
      have hne : ((e : Int) != 0) = true := by simp; omega
      have HNE := hide he
      clear hE hO h6 hr he
      obtain ⟨w7, hw7⟩ : ∃ w7, w6.alloc (.cells #[.int .i64 t6.kind, .string t6.txt, .pointer none, .int .i64 t6.at'] 35) = w7 := ⟨_, rfl⟩
      have hB7 : Below w6.heap.size w6 w7 := by rw [← hw7]; exact (Below.refl _ _).alloc (Nat.le_refl _) _
      have HL7 : Hid (LxAt w7 p s a6 e x) := HL6.out.keep hB7
      have HB7 : Hid (Below w.heap.size w w7) := HB6.out.trans (hB7.mono HB6.out.size)
      have c2 := HL7.out.c2
      clear hB7
      unfold TokV
      go_wp2
      try rw [show Value.pointer (some ⟨p, 0, none⟩) = PT p from rfl]
      obtain ⟨C, hC⟩ : ∃ C : World → Prop, C = fun V => Below w7.heap.size w7 V := ⟨_, rfl⟩
      have HCD : Hid (C { w7 with drawn := w7.drawn + 1 }) := by rw [hC]; exact ⟨rfl, rfl, rfl, Nat.le_refl _, fun _ _ => rfl⟩
      have HCB : Hid (∀ V, C V → Below w7.heap.size w7 V) := by rw [hC]; exact fun V h => h
      clear hC
      have y2 : ∀ V, C V → V.cell? ⟨p, 2, none⟩ = some (.int .i64 e) := fun V hV => (HL7.out.keep (HCB.out V hV)).c2
      have y3 : ∀ V, C V → V.cell? ⟨p, 3, none⟩ = some (.int .i64 x) := fun V hV => (HL7.out.keep (HCB.out V hV)).c3
      refine w_lit (C := C) (by kernel_rfl) (by kernel_rfl) HCD.out ?_
      refine w_value (PT p) (by kernel_rfl) (fun w hw => x_move _ _ _ _ _ _ _ _ rfl w) ?_
      simp only [Act.put, List.setIfInBounds_toArray, List.set_cons_succ, List.set_cons_zero]
      refine w_value (PT p) (by kernel_rfl) (fun w hw => x_nilCheck _ _ _ _ _ _ _ _ rfl w) ?_
      simp only [Act.put, List.setIfInBounds_toArray, List.set_cons_succ, List.set_cons_zero]
      refine w_value (.pointer (some ⟨p, 2, none⟩)) (by kernel_rfl) (fun w hw => x_lxF2 _ _ _ _ _ _ _ _ rfl w) ?_
      simp only [Act.put, List.setIfInBounds_toArray, List.set_cons_succ, List.set_cons_zero]
      refine w_value (.int .i64 e) (by kernel_rfl) (fun w hw => x_loadErr _ _ _ _ _ _ _ p 2 _ rfl w (y2 w hw)) ?_
      simp only [Act.put, List.setIfInBounds_toArray, List.set_cons_succ, List.set_cons_zero]
      refine w_value (PT p) (by kernel_rfl) (fun w hw => x_move _ _ _ _ _ _ _ _ rfl w) ?_
      simp only [Act.put, List.setIfInBounds_toArray, List.set_cons_succ, List.set_cons_zero]
      refine w_value (PT p) (by kernel_rfl) (fun w hw => x_nilCheck _ _ _ _ _ _ _ _ rfl w) ?_
      simp only [Act.put, List.setIfInBounds_toArray, List.set_cons_succ, List.set_cons_zero]
      refine w_value (.pointer (some ⟨p, 3, none⟩)) (by kernel_rfl) (fun w hw => x_lxF3 _ _ _ _ _ _ _ _ rfl w) ?_
      simp only [Act.put, List.setIfInBounds_toArray, List.set_cons_succ, List.set_cons_zero]
      refine w_value (.int .i64 x) (by kernel_rfl) (fun w hw => x_ldN _ _ _ _ _ _ _ p 3 _ rfl w (y3 w hw)) ?_
      simp only [Act.put, List.setIfInBounds_toArray, List.set_cons_succ, List.set_cons_zero]
      refine w_value (.slice none 0 0) (by kernel_rfl) (fun w hw => x_nilL _ _ _ _ _ _ _ rfl w) ?_
      simp only [Act.put, List.setIfInBounds_toArray, List.set_cons_succ, List.set_cons_zero]
      refine w_value (.int .i64 e) (by kernel_rfl) (fun w hw => x_assign _ _ _ _ _ _ _ _ rfl w) ?_
      simp only [Act.put, List.setIfInBounds_toArray, List.set_cons_succ, List.set_cons_zero]
      refine w_value (.int .i64 x) (by kernel_rfl) (fun w hw => x_assign _ _ _ _ _ _ _ _ rfl w) ?_
      simp only [Act.put, List.setIfInBounds_toArray, List.set_cons_succ, List.set_cons_zero]
      refine w_nil ?_
      intro W hCW
      have HBW := hide (HB7.out.trans ((HCB.out W hCW).mono HB7.out.size))
      clear hCW y2 y3
      go_wp2
      refine bodyPost_ret (v := .tuple #[.slice none 0 0, .int .i64 e, .int .i64 x]) (by simp [results, Tryz.results10, go_sem]) rfl ⟨fun e' x' h => ?_, fun m h => ?_, HBW.out⟩
      · rw [HRE.out, lexF, HR.out] at h
        simp only [goOn] at h
        injection h with h; injection h with h1 h2; subst h1 h2
        exact ⟨rfl, HNE.out⟩
      · rw [HRE.out, lexF, HR.out] at h
        simp only [goOn] at h
        cases h
    | inr tn =>
      obtain ⟨t, n⟩ := tn
      obtain ⟨v, rfl, hv, h6⟩ := hO t n hr
      obtain ⟨o, rfl⟩ := hv.ptr
      have HL6 := hide h6
      have HR := hide hr
      have HV6 := hide hv
      have HST := hide (tokF_step has hr)
      clear hE hO h6 hr hv
      obtain ⟨K, hK⟩ : ∃ K, w6.heap.size = K := ⟨_, rfl⟩
      obtain ⟨w7, hw7⟩ : ∃ w7, w6.alloc (.cells #[.int .i64 t.kind, .string t.txt, .pointer o, .int .i64 t.at'] 35) = w7 := ⟨_, rfl⟩
      have hB7 : Below w6.heap.size w6 w7 := by rw [← hw7]; exact (Below.refl _ _).alloc (Nat.le_refl _) _
      have HK7 : Hid (Blk w7 K #[.int .i64 t.kind, .string t.txt, .pointer o, .int .i64 t.at'] 35) := by rw [← hw7, ← hK]; exact Blk.newAt rfl _ _
      have hs7 : w7.heap.size = K + 1 := by rw [← hw7, ← hK]; simp
      have HL7 : Hid (LxAt w7 p s n 0 0) := HL6.out.keep hB7
      have HB7 : Hid (Below w.heap.size w w7) := HB6.out.trans (hB7.mono HB6.out.size)
      have HTK7 : Hid (∀ q ∈ l, PtrOf w7 q.1.re q.2) := fun q hq => (HTK6.out q hq).map fun _ _ h => h.keep hB7
      have HV7 : Hid (PtrOf w7 t.re (.pointer o)) := HV6.out.map fun _ _ h => h.keep hB7
      have HOW7 : Hid (OwnT w7 (p + 1) (.slice oa l.length oc) l) := HOW6.out.keep hB7
      have HOWK : Hid (∀ g, (Value.slice oa l.length oc).ownBlock = some g → g < K) := fun g hg => by
        rcases HOW6.out with ⟨e, -⟩ | ⟨g', cap, cur, e, -, h2, -⟩
        · rw [e] at hg; cases hg
        · rw [e] at hg; injection hg with hg; subst hg; rw [← hK]; exact h2.lt
      have hp7 : p + 1 ≤ w7.heap.size := HL7.out.blk.lt
      have c2 := HL7.out.c2
      have k0 := HK7.out.cell 0; have k1 := HK7.out.cell 1; have k2 := HK7.out.cell 2; have k3 := HK7.out.cell 3
      simp only [List.getElem?_toArray, List.getElem?_cons_zero, List.getElem?_cons_succ] at k0 k1 k2 k3
      -- the row grows
      obtain ⟨w8, hw8⟩ : ∃ w8, w7.alloc (.cells #[.int .i64 t.kind, .string t.txt, .pointer o, .int .i64 t.at'] 35) = w8 := ⟨_, rfl⟩
      have hB8 : Below w7.heap.size w7 w8 := by rw [← hw8]; exact (Below.refl _ _).alloc (Nat.le_refl _) _
      have HK8 : Hid (Blk w8 w7.heap.size #[.int .i64 t.kind, .string t.txt, .pointer o, .int .i64 t.at'] 35) := by rw [← hw8]; exact Blk.newAt rfl _ _
      obtain ⟨v2, W2, hr2, hO2, hA2, hX2⟩ := run_appendT (W := w8) (base := p + 1) (v := .slice oa l.length oc) (l := l) 24 (HOW7.out.keep hB8) ⟨w7.heap.size, 0, none⟩ 1 (t, .pointer o) (fun j u hu => by
          rw [Go.WideShapes.add_plain, Nat.zero_add, HK8.out.cell, ← hu]; simp [encT]) rfl (by omega) (Nat.le_trans hp7 hB8.size)
      have HO2 := hide hO2
      have HB2 : Hid (Below w.heap.size w W2) := (HB7.out.trans (hB8.mono HB7.out.size)).trans (hA2.below.mono (by rw [HP.out]; exact Nat.le_succ _))
      have HL2 : Hid (LxAt W2 p s n 0 0) := ⟨hA2.block _ _ _ (HL7.out.keep hB8).blk (by decide), HL7.out.le, HL7.out.big⟩
      have HTK2 : Hid (∀ q ∈ l ++ [(t, .pointer o)], PtrOf W2 q.1.re q.2) := fun q hq => by
        rcases List.mem_append.1 hq with hq | hq
        · exact (HTK7.out q hq).map fun _ _ h => (h.keep hB8).appT hA2
        · obtain rfl : q = (t, .pointer o) := by simpa using hq
          exact HV7.out.map fun _ _ h => (h.keep hB8).appT hA2
      have HK2 : Hid (Blk W2 K #[.int .i64 t.kind, .string t.txt, .pointer o, .int .i64 t.at'] 35) :=
        (hX2 K (Nat.lt_of_lt_of_le HK7.out.lt hB8.size) (fun e => by have := HOWK.out K e; omega)).trans (HK7.out.below hB8 HK7.out.lt)
      have k20 := HK2.out.cell 0
      simp only [List.getElem?_toArray, List.getElem?_cons_zero] at k20
      obtain ⟨a2, cp2, rfl, -⟩ := hO2.slice
      rw [List.length_append] at hr2 HO2
      simp only [List.length_cons, List.length_nil, Nat.zero_add] at hr2 HO2
      have HN7 : Hid (w7.heap.size = K + 1) := hs7
      have hsp := HST.out
      clear hO2 hA2 hX2 hB8 hB7 hs7
      obtain ⟨kd, hkd⟩ : ∃ kd, ((t.kind : Int) == 0) = kd := ⟨_, rfl⟩
      have HKD : Hid (kd = decide (t.kind = 0)) := by
        show _ = _
        rw [← hkd, Bool.eq_iff_iff]
        simp
      have HMAP : Hid ((l ++ [(t, Value.pointer o)]).map Prod.fst = l.map Prod.fst ++ [t]) := by show _ = _; simp
      unfold TokV
      cases kd with
      | true =>
        have hk0 : t.kind = 0 := by have := HKD.out; simpa using this.symm
        have HK0 := hide hk0
        clear hk0 hsp HST
        go_wp2_with (refine wpList_append_run rfl _ _ _ rfl _ _ _ rfl rfl hr2 ?_)
        refine bodyPost_ret (v := .tuple #[.slice a2 (l.length + 1) cp2, .int .i64 0, .int .i64 0]) (by simp [results, Tryz.results10, go_sem]) rfl ⟨fun e' x' h => ?_, fun m h => ?_, HB2.out⟩
        · rw [HRE.out, lexF, HR.out] at h
          simp only [HK0.out, if_true, goOn] at h
          cases h
        · rw [HRE.out, lexF, HR.out] at h
          simp only [HK0.out, if_true, goOn] at h
          injection h with h
          refine ⟨_, l ++ [(t, .pointer o)], rfl, by rw [HMAP.out, h], ?_, HTK2.out⟩
          have ho := HO2.out
          rcases ho with ⟨e, e2⟩ | ⟨g, cap, cur, e, h1, h2⟩
          · simp at e2
          · exact .inr ⟨g, cap, cur, by rw [e, List.length_append], by rw [← HP.out]; omega, h2⟩
      | false =>
        have hk0 : t.kind ≠ 0 := by have := HKD.out; simpa using this.symm
        have hn1 := hsp.1 hk0
        have hn2 := hsp.2.1
        have HK0 := hide hk0
        have HN1 := hide hn1
        have HN2 := hide hn2
        clear hk0 hsp HST hn1 hn2
        go_wp2_with (refine wpList_append_run rfl _ _ _ rfl _ _ _ rfl rfl hr2 ?_)
        refine ⟨⟨n, f, l ++ [(t, .pointer o)], HL2, HN2, ?_, ?_, HTK2, ?_, HB2, ?_⟩, ?_⟩
        · show _ < _; have := HN1.out; have := HFU.out; omega
        · have ho := HO2.out
          rcases ho with ⟨e, e2⟩ | ⟨g, cap, cur, e, h1, h2⟩
          · simp at e2
          · exact .inr ⟨g, cap, cur, by rw [e, List.length_append], h1, h2⟩
        · show lexT s = _
          have hre := HRE.out
          rw [lexF, HR.out] at hre
          simp only [HK0.out, if_false] at hre
          rw [hre, HMAP.out]
          cases lexF s f n with
          | inl e => rfl
          | inr m => simp [goOn]
        · show _ ≤ _; have := HN1.out; rw [List.length_append]; simp; omega
        · rw [HL2.out.atOf, HAT.out]; have := HN1.out; have := HN2.out; omega
end Go.Proofs.YtjlgepahgmkamaaGreatDoor
