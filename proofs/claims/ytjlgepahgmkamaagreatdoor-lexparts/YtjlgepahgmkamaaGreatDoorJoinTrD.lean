/- Texts of this claim put together: LxD, LxE, TrD. -/
import Derived.Test.YtjlgepahgmkamaaGreatDoorJoinLxC
import Derived.Test.YtjlgepahgmkamaaGreatDoorJoinTrC
import Derived.Test.YtjlgepahgmkamaaGreatDoorJoinReK
import Derived.Deep.LoopGhost
/- The reader of programs: blanks. -/
namespace Go.Proofs.YtjlgepahgmkamaaGreatDoor
set_option maxRecDepth 100000
set_option linter.unusedSimpArgs false
set_option linter.unusedVariables false
open Go.RowKit Go.Shelf

def isBl (c : Nat) : Bool := c == 32 || c == 9 || c == 10 || c == 13
/-- How many blanks, tabs, newlines and carriage returns stand at a text's beginning. -/
def blkN : List Nat → Nat
  | [] => 0
  | c :: r => if isBl c = true then blkN r + 1 else 0
end Go.Proofs.YtjlgepahgmkamaaGreatDoor
/- The reader of programs: a sign. -/
namespace Go.Proofs.YtjlgepahgmkamaaGreatDoor
set_option maxRecDepth 100000
set_option linter.unusedSimpArgs false
set_option linter.unusedVariables false
open Go.RowKit Go.Shelf

section
variable (ρ : Operand → Value) (d : Option Tmp) (x y : Operand) (t : TypeId) (pos : String) (af : Array Edge) (g : Option (Nat × Bool))
theorem x_subN {s : ByteArray} (a : Nat) (hbig : s.size ≤ 65536) (ha : a < s.size) (hx : ρ x = .int .i64 ((a + 1 : Nat) : Int)) (hy : ρ y = .int .i64 1) (w : World) :
    (execOp ρ { dst := d, op := .binOp .sub 3 x y 3, type := t, pos := pos, after := af, guard := g }).run Tryz.prog w = .ok (.value (.int .i64 (a : Int))) w := by
  have h : IntKind.i64.wrap (a : Int) = (a : Int) := by
    rw [IntKind.wrap_i64]; omega
  simp [go_sem, hx, hy, h]
end
set_option maxHeartbeats 4000000 in
theorem lxSign_any (p : Nat) (s : ByteArray) (a e0 x0 : Nat) (w : World) (h : LxAt w p s a e0 x0) (ha : a < s.size) :
    Calls Tryz.prog 39 #[PT p] w fun r w' => r = .returned (.string (s.extract a (a + 1))) ∧ LxAt w' p s (a + 1) e0 x0 ∧ Aside p w w' := by
  have hbig := h.big
  have c1 := h.c1
  have f1 := h.blk.frozen 1
  have HM := hide (h.move (a + 1) (by omega))
  have HA := hide (Aside.put w p 1 (.int .i64 ((a + 1 : Nat) : Int)))
  have HE1 : Hid (((a + 1 : Nat) : Int) = (a : Int) + 1) := by show _ = _; omega
  clear h
  unfold PT
  go_enter Tryz.func39, Tryz.ntmps39
  go_wp2
  rw [← HE1.out]
  obtain ⟨wm, hwm⟩ : ∃ wm, wm = w.setCell ⟨p, 1, none⟩ (.int .i64 ((a + 1 : Nat) : Int)) := ⟨_, rfl⟩
  rw [← hwm] at HM HA
  try rw [← hwm]
  clear hwm c1 f1
  try rw [show Value.pointer (some ⟨p, 0, none⟩) = PT p from rfl]
  obtain ⟨C, hC⟩ : ∃ C : World → Prop, C = fun W => Below wm.heap.size wm W := ⟨_, rfl⟩
  have HCD : Hid (C { wm with drawn := wm.drawn + 1 }) := by rw [hC]; exact ⟨rfl, rfl, rfl, Nat.le_refl _, fun _ _ => rfl⟩
  have HCB : Hid (∀ W, C W → Below wm.heap.size wm W) := by rw [hC]; exact fun W h => h
  clear hC
  have y0 : ∀ W, C W → W.cell? ⟨p, 0, none⟩ = some (.string s) := fun W hW => (HM.out.keep (HCB.out W hW)).c0
  have y1 : ∀ W, C W → W.cell? ⟨p, 1, none⟩ = some (.int .i64 ((a + 1 : Nat) : Int)) := fun W hW => (HM.out.keep (HCB.out W hW)).c1
  refine w_lit (C := C) (by kernel_rfl) (by kernel_rfl) HCD.out ?_
  refine w_value (PT p) (by kernel_rfl) (fun w hw => x_move _ _ _ _ _ _ _ _ rfl w) ?_
  simp only [Act.put, List.setIfInBounds_toArray, List.set_cons_succ, List.set_cons_zero]
  refine w_value (PT p) (by kernel_rfl) (fun w hw => x_nilCheck _ _ _ _ _ _ _ _ rfl w) ?_
  simp only [Act.put, List.setIfInBounds_toArray, List.set_cons_succ, List.set_cons_zero]
  refine w_value (PT p) (by kernel_rfl) (fun w hw => x_lxF0 _ _ _ _ _ _ _ _ rfl w) ?_
  simp only [Act.put, List.setIfInBounds_toArray, List.set_cons_succ, List.set_cons_zero]
  refine w_value (.string s) (by kernel_rfl) (fun w hw => x_ldS _ _ _ _ _ _ _ p _ rfl w (y0 w hw)) ?_
  simp only [Act.put, List.setIfInBounds_toArray, List.set_cons_succ, List.set_cons_zero]
  refine w_value (PT p) (by kernel_rfl) (fun w hw => x_move _ _ _ _ _ _ _ _ rfl w) ?_
  simp only [Act.put, List.setIfInBounds_toArray, List.set_cons_succ, List.set_cons_zero]
  refine w_value (PT p) (by kernel_rfl) (fun w hw => x_nilCheck _ _ _ _ _ _ _ _ rfl w) ?_
  simp only [Act.put, List.setIfInBounds_toArray, List.set_cons_succ, List.set_cons_zero]
  refine w_value (.pointer (some ⟨p, 1, none⟩)) (by kernel_rfl) (fun w hw => x_lxF1 _ _ _ _ _ _ _ _ rfl w) ?_
  simp only [Act.put, List.setIfInBounds_toArray, List.set_cons_succ, List.set_cons_zero]
  refine w_value (.int .i64 ((a + 1 : Nat) : Int)) (by kernel_rfl) (fun w hw => x_ldN _ _ _ _ _ _ _ p 1 _ rfl w (y1 w hw)) ?_
  simp only [Act.put, List.setIfInBounds_toArray, List.set_cons_succ, List.set_cons_zero]
  refine w_value (.int .i64 (a : Int)) (by kernel_rfl) (fun w hw => x_subN _ _ _ _ _ _ _ _ a hbig ha rfl rfl w) ?_
  simp only [Act.put, List.setIfInBounds_toArray, List.set_cons_succ, List.set_cons_zero]
  refine w_value (PT p) (by kernel_rfl) (fun w hw => x_move _ _ _ _ _ _ _ _ rfl w) ?_
  simp only [Act.put, List.setIfInBounds_toArray, List.set_cons_succ, List.set_cons_zero]
  refine w_value (PT p) (by kernel_rfl) (fun w hw => x_nilCheck _ _ _ _ _ _ _ _ rfl w) ?_
  simp only [Act.put, List.setIfInBounds_toArray, List.set_cons_succ, List.set_cons_zero]
  refine w_value (.pointer (some ⟨p, 1, none⟩)) (by kernel_rfl) (fun w hw => x_lxF1 _ _ _ _ _ _ _ _ rfl w) ?_
  simp only [Act.put, List.setIfInBounds_toArray, List.set_cons_succ, List.set_cons_zero]
  refine w_value (.int .i64 ((a + 1 : Nat) : Int)) (by kernel_rfl) (fun w hw => x_ldN _ _ _ _ _ _ _ p 1 _ rfl w (y1 w hw)) ?_
  simp only [Act.put, List.setIfInBounds_toArray, List.set_cons_succ, List.set_cons_zero]
  refine w_value (.string (s.extract a (a + 1))) (by kernel_rfl) (fun w hw => x_sSub _ _ _ _ _ _ _ _ _ s a (a + 1) rfl rfl rfl (by omega) (by omega) w) ?_
  simp only [Act.put, List.setIfInBounds_toArray, List.set_cons_succ, List.set_cons_zero]
  refine w_value (.string (s.extract a (a + 1))) (by kernel_rfl) (fun w hw => x_assign _ _ _ _ _ _ _ _ rfl w) ?_
  simp only [Act.put, List.setIfInBounds_toArray, List.set_cons_succ, List.set_cons_zero]
  refine w_nil ?_
  intro W hCW
  have HLW := hide (HM.out.keep (HCB.out W hCW))
  have HAW := hide (HA.out.trans (Aside.of_below (HCB.out W hCW)))
  clear hCW y0 y1
  go_wp2
  go_ret
  exact ⟨rfl, HLW.out, HAW.out⟩
end Go.Proofs.YtjlgepahgmkamaaGreatDoor
/- class: what stands behind a [. -/
namespace Go.Proofs.YtjlgepahgmkamaaGreatDoor
set_option maxRecDepth 100000
set_option linter.unusedSimpArgs false
set_option linter.unusedVariables false
open Go.RowKit

section
variable {ops : Array Oper} {S : World → Prop} {Q : Exit → Act → World → Prop} {fuel : Nat} {listed : Array Bool} {a : Act} {w : World} {oi oj : Oper} {ri rj : List Oper}
/-- A load and a call that may come up in either order. -/
theorem h_load_call (i j : Nat) (v u : Value) (f : FuncId) (vs : Array Value) (R : World → Prop) (hi : ops.toList.drop i = oi :: ri) (hj : ops.toList.drop j = oj :: rj) (hr : Region.ready .any ops listed = [i, j])
    (hri : Region.ready .any ops (listed.setIfInBounds i true) = [j]) (hrj : Region.ready .any ops (listed.setIfInBounds j true) = [i])
    (hwi : Region.wanted oi (yielded ops a.tmps) = true) (hwj : Region.wanted oj (yielded ops a.tmps) = true) (hwi' : Region.wanted oi (yielded ops (a.put oj.dst u).tmps) = true) (hwj' : Region.wanted oj (yielded ops (a.put oi.dst v).tmps) = true)
    (hvi : ∀ w, R w → (execOp a.eval oi).run Tryz.prog w = .ok (.value v) w) (hvi' : ∀ w, R w → (execOp (a.put oj.dst u).eval oi).run Tryz.prog w = .ok (.value v) w)
    (hvj : ∀ w, (execOp a.eval oj).run Tryz.prog w = .ok (.enter f vs) w) (hvj' : ∀ w, (execOp (a.put oi.dst v).eval oj).run Tryz.prog w = .ok (.enter f vs) w)
    (hc : ∀ w, R w → Calls Tryz.prog f vs w fun e w' => e = .returned u ∧ R w') (hS : ∀ w, R w → S w) (hR : R w)
    (hcm : (a.put oj.dst u).put oi.dst v = (a.put oi.dst v).put oj.dst u) (hl : (listed.setIfInBounds j true).setIfInBounds i true = (listed.setIfInBounds i true).setIfInBounds j true)
    (h : ∀ w', R w' → wpAnyH Tryz.prog .any ops (NoPanic Q) S fuel ((listed.setIfInBounds i true).setIfInBounds j true) ((a.put oi.dst v).put oj.dst u) w') : wpAnyH Tryz.prog .any ops (NoPanic Q) S (fuel + 2) listed a w := by
  refine wpAnyH_all hr (by simp) ?_
  intro k hk
  rcases List.mem_cons.1 hk with rfl | hk
  · unfold wpOp
    simp only [at_drop hi, hwi, if_true]
    refine .inl ?_
    unfold Oper.wp
    rw [hvi w hR, Oper.upon_value]
    refine ⟨hS w hR, ?_⟩
    refine wpAnyH_all hri (by simp) ?_
    intro k' hk'
    obtain rfl : k' = j := by simpa using hk'
    unfold wpOp
    simp only [at_drop hj, hwj', if_true]
    refine .inl ?_
    unfold Oper.wp
    rw [hvj' w, Oper.upon_enter]
    refine (hc w hR).mono ?_
    rintro e w' ⟨rfl, hR'⟩
    exact ⟨hS w' hR', h w' hR'⟩
  · obtain rfl : k = j := by simpa using hk
    unfold wpOp
    simp only [at_drop hj, hwj, if_true]
    refine .inl ?_
    unfold Oper.wp
    rw [hvj w, Oper.upon_enter]
    refine (hc w hR).mono ?_
    rintro e w' ⟨rfl, hR'⟩
    refine ⟨hS w' hR', ?_⟩
    refine wpAnyH_all hrj (by simp) ?_
    intro k' hk'
    obtain rfl : k' = i := by simpa using hk'
    unfold wpOp
    simp only [at_drop hi, hwi', if_true]
    refine .inl ?_
    unfold Oper.wp
    rw [hvi' w' hR', Oper.upon_value]
    refine ⟨hS w' hR', ?_⟩
    rw [hcm, hl]
    exact h w' hR'
end

/-- What class keeps: the reader, the result's box R, the set's box C. -/
structure ClW (w : World) (p : Nat) (s : ByteArray) (st : St) (R C : Nat) (cs : BitVec 256) (W : World) : Prop where
  rd : RdAt W p s st
  res : Blk W R (WS 0#256) 62
  box : Blk W C (WS cs) 62
  aside : Aside p w W
  rp : R ≠ p ∧ C ≠ p ∧ R ≠ C
  new : w.heap.size ≤ R ∧ w.heap.size ≤ C
theorem ClW.step {w W W' : World} {p : Nat} {s : ByteArray} {st : St} {R C : Nat} {cs : BitVec 256} (h : ClW w p s st R C cs W) (hb : Below W.heap.size W W') : ClW w p s st R C cs W' :=
  ⟨h.rd.keep hb, h.res.below hb h.res.lt, h.box.below hb h.box.lt, h.aside.trans (Aside.of_below hb), h.rp, h.new⟩
theorem ClW.read {w W W' : World} {p : Nat} {s : ByteArray} {st st' : St} {R C : Nat} {cs : BitVec 256} (h : ClW w p s st R C cs W) (hr : RdAt W' p s st') (ha : Aside p W W') : ClW w p s st' R C cs W' :=
  ⟨hr, (ha.block R h.res.lt h.rp.1).trans h.res, (ha.block C h.box.lt h.rp.2.1).trans h.box, h.aside.trans ha, h.rp, h.new⟩
theorem put4_size (W : World) (b : Nat) (u : BitVec 256) : (put4 W b u).heap.size = W.heap.size := by simp [put4, World.setCell]
theorem aside_put4 {p B : Nat} {w W : World} (h : Aside p w W) (hB : w.heap.size ≤ B) (u : BitVec 256) : Aside p w (put4 W B u) :=
  ⟨h.os, h.tape, h.output, by rw [put4_size]; exact h.size, fun k hk hp => (put4_other (by omega) u).trans (h.block k hk hp)⟩
theorem ClW.store {w W : World} {p : Nat} {s : ByteArray} {st : St} {R C : Nat} {cs : BitVec 256} (h : ClW w p s st R C cs W) (u : BitVec 256) : ClW w p s st R C u (put4 W C u) :=
  ⟨⟨(put4_other (Ne.symm h.rp.2.1) u).trans h.rd.blk, h.rd.suf, h.rd.len, h.rd.big⟩, (put4_other h.rp.2.2 u).trans h.res, put4_blk h.box u, aside_put4 h.aside h.new.2 u, h.rp, h.new⟩
theorem RdAt.rest256 {w : World} {p : Nat} {s : ByteArray} {st : St} (h : RdAt w p s st) : ∀ x ∈ st.rest, x < 256 := fun x hx => by
  rw [h.suf] at hx; exact bN_lt s x (List.mem_of_mem_drop hx)
theorem RdAt.byte256 {w : World} {p : Nat} {s : ByteArray} {st : St} (h : RdAt w p s st) : st.byteV < 256 := scan_lt256 _ h.rest256

set_option maxHeartbeats 4000000 in
theorem class_any (f p : Nat) (s : ByteArray) (st stF : St) (q : BitVec 256) (w : World) (h : RdAt w p s st) (hc : st.clas s.size f = some (q, stF)) :
    Calls Tryz.prog 134 #[PT p] w fun r w' => r = .returned (SV q) ∧ RdAt w' p s stF ∧ Aside p w w' := by
  obtain ⟨nt, hnt⟩ : ∃ nt, nt = st.isAt 94 := ⟨_, rfl⟩
  obtain ⟨sF, hcl, hq⟩ : ∃ sF, St.classL s.size f 0#256 (st.here 94) = some (sF, stF) ∧ q = if nt = true then ~~~sF else sF := by
    unfold St.clas at hc
    rw [← hnt] at hc
    cases nt with
    | true =>
      rw [if_pos rfl] at hc
      obtain ⟨⟨a, b⟩, h1, h2⟩ := Option.map_eq_some_iff.1 hc
      simp at h2
      obtain ⟨rfl, rfl⟩ := h2
      exact ⟨a, h1, rfl⟩
    | false =>
      rw [if_neg (by simp)] at hc
      have e : st.here 94 = st := by unfold St.here; rw [← hnt]; rfl
      rw [e]; exact ⟨q, hc, rfl⟩
  have hpl := h.blk.lt
  obtain ⟨R, hR⟩ : ∃ R, R = w.heap.size := ⟨_, rfl⟩
  have hb0 : Below w.heap.size w (w.alloc (.cells (WS 0#256) 62)) := (Below.refl _ _).alloc (Nat.le_refl _) _
  have hk0 : Blk (w.alloc (.cells (WS 0#256) 62)) R (WS 0#256) 62 := Blk.newAt hR _ _
  have hhe := here_any p 94 s st _ (h.keep hb0)
  rw [← hnt] at hhe
  have HCL := hide hcl
  have HQ := hide hq
  have HHE := hide hhe
  have HK0 := hide hk0
  have HB0 := hide hb0
  have HRR := hide hR
  have HPL := hide hpl
  rw [← WS_zero] at HHE HK0 HB0
  clear hc hcl hq hhe hb0 hk0 hnt h hpl
  unfold PT at HHE ⊢
  go_enter Tryz.func134, Tryz.ntmps134
  go_wp2_with fail
  rw [← hR]
  clear hR
  refine HHE.out.mono ?_
  rintro e w1 ⟨rfl, hR1, hA1⟩
  have HR1 := hide hR1
  have HA1 := hide hA1
  clear hR1 hA1 HHE
  obtain ⟨C, hC⟩ : ∃ C, C = w1.heap.size := ⟨_, rfl⟩
  have hcw : ClW w p s (st.here 94) R C 0#256 (w1.alloc (.cells (WS 0#256) 62)) := by
    have hb1 : Below w1.heap.size w1 (w1.alloc (.cells (WS 0#256) 62)) := (Below.refl _ _).alloc (Nat.le_refl _) _
    have hRl := HK0.out.lt
    have hRp : R ≠ p := by have := HRR.out; have := HPL.out; omega
    have hk1 : Blk w1 R (WS 0#256) 62 := by rw [← WS_zero]; exact (HA1.out.block R hRl hRp).trans HK0.out
    have hs1 := HA1.out.size
    have hb := HB0.out.size
    refine ⟨HR1.out.keep hb1, hk1.alloc _, Blk.newAt hC _ _, ((Aside.of_below HB0.out).trans HA1.out).trans (Aside.of_below hb1), ⟨hRp, ?_, ?_⟩, ?_, ?_⟩
    · have := HPL.out; omega
    · omega
    · rw [HRR.out]; exact Nat.le_refl _
    · omega
  rw [← WS_zero] at hcw
  have HCW := hide hcw
  clear hcw
  go_wp2
  rw [← hC]
  clear hC
  go_loopg [5] f (fun k _ wr => Hid (∃ cs st1, St.classL s.size k cs st1 = some (sF, stF) ∧ ClW w p s st1 R C cs wr))
  case atStart => exact ⟨0#256, st.here 94, HCL.out, HCW.out⟩
  case round =>
    clear HCW HR1 HA1 HCL HK0 HB0 HRR HPL
    obtain ⟨cs, st1, hcl, hW⟩ := hrel
    cases gk with
    | zero => simp [St.classL] at hcl
    | succ k =>
      have HW := hide hW
      obtain ⟨z, hz⟩ : ∃ z, z = st1.isAt 93 := ⟨_, rfl⟩
      have hhe := here_any p 93 s st1 wr hW.rd
      rw [← hz] at hhe
      have HHE := hide hhe
      unfold St.classL at hcl
      rw [← hz] at hcl
      have HZ := hide hz
      clear hW hhe hz
      unfold PT at HHE
      go_wp2_with fail
      refine HHE.out.mono ?_
      rintro e w2 ⟨rfl, hR2, hA2⟩
      have HW2 := hide (HW.out.read hR2 hA2)
      clear hR2 hA2 HHE HW
      cases z with
      | true =>
        rw [if_pos rfl] at hcl
        have HE : Hid (cs = sF ∧ st1.here 93 = stF) := by injection hcl with hcl; injection hcl with e1 e2; exact ⟨e1, e2⟩
        clear hcl
        have hbx := HW2.out.box
        have b0 := hbx.cell 0; have b1 := hbx.cell 1; have b2 := hbx.cell 2; have b3 := hbx.cell 3
        simp only [WS, List.getElem?_toArray, List.getElem?_cons_zero, List.getElem?_cons_succ] at b0 b1 b2 b3
        clear hbx
        cases nt with
        | true =>
          have HN := hide (not_any cs w2)
          unfold SV at HN
          go_wp2_with fail
          refine HN.out.mono ?_
          rintro e w6 ⟨rfl, hb6⟩
          have HW6 := hide (HW2.out.step hb6)
          clear hb6 HN HW2 b0 b1 b2 b3
          have hres := HW6.out.res
          have r0 := hres.cell 0; have r1 := hres.cell 1; have r2 := hres.cell 2; have r3 := hres.cell 3
          have f0 := hres.frozen 0; have f1 := hres.frozen 1; have f2 := hres.frozen 2; have f3 := hres.frozen 3
          simp only [WS, List.getElem?_toArray, List.getElem?_cons_zero, List.getElem?_cons_succ] at r0 r1 r2 r3
          obtain ⟨W7, hW7⟩ : ∃ W7, W7 = put4 w6 R (~~~cs) := ⟨_, rfl⟩
          have ew : (((w6.setCell ⟨R, 0, none⟩ (.int .u64 (wd (~~~cs) 0))).setCell ⟨R, 1, none⟩ (.int .u64 (wd (~~~cs) 1))).setCell ⟨R, 2, none⟩ (.int .u64 (wd (~~~cs) 2))).setCell ⟨R, 3, none⟩ (.int .u64 (wd (~~~cs) 3)) = W7 := hW7.symm
          have h7 : Blk W7 R (WS (~~~cs)) 62 := by rw [hW7]; exact put4_blk hres (~~~cs)
          have g0 := h7.cell 0; have g1 := h7.cell 1; have g2 := h7.cell 2; have g3 := h7.cell 3
          simp only [WS, List.getElem?_toArray, List.getElem?_cons_zero, List.getElem?_cons_succ] at g0 g1 g2 g3
          have HA7 : Hid (Aside p w W7) := by rw [hW7]; exact aside_put4 HW6.out.aside HW6.out.new.1 _
          have HR7 : Hid (RdAt W7 p s stF) := by
            have hrd := HW6.out.rd
            rw [HE.out.2] at hrd
            rw [hW7]; exact ⟨(put4_other (Ne.symm HW6.out.rp.1) _).trans hrd.blk, hrd.suf, hrd.len, hrd.big⟩
          clear hW7 h7 hres HW6
          go_wp2
          refine bodyPost_ret (v := SV (~~~cs)) (by simp [results, Tryz.results134, go_sem, SV, g0, g1, g2, g3]) rfl ⟨?_, HR7.out, HA7.out⟩
          rw [HQ.out, ← HE.out.1]; rfl
        | false =>
          have HW6 := HW2
          clear HW2
          have hres := HW6.out.res
          have r0 := hres.cell 0; have r1 := hres.cell 1; have r2 := hres.cell 2; have r3 := hres.cell 3
          have f0 := hres.frozen 0; have f1 := hres.frozen 1; have f2 := hres.frozen 2; have f3 := hres.frozen 3
          simp only [WS, List.getElem?_toArray, List.getElem?_cons_zero, List.getElem?_cons_succ] at r0 r1 r2 r3
          obtain ⟨W7, hW7⟩ : ∃ W7, W7 = put4 w2 R (cs) := ⟨_, rfl⟩
          have ew : (((w2.setCell ⟨R, 0, none⟩ (.int .u64 (wd (cs) 0))).setCell ⟨R, 1, none⟩ (.int .u64 (wd (cs) 1))).setCell ⟨R, 2, none⟩ (.int .u64 (wd (cs) 2))).setCell ⟨R, 3, none⟩ (.int .u64 (wd (cs) 3)) = W7 := hW7.symm
          have h7 : Blk W7 R (WS (cs)) 62 := by rw [hW7]; exact put4_blk hres (cs)
          have g0 := h7.cell 0; have g1 := h7.cell 1; have g2 := h7.cell 2; have g3 := h7.cell 3
          simp only [WS, List.getElem?_toArray, List.getElem?_cons_zero, List.getElem?_cons_succ] at g0 g1 g2 g3
          have HA7 : Hid (Aside p w W7) := by rw [hW7]; exact aside_put4 HW6.out.aside HW6.out.new.1 _
          have HR7 : Hid (RdAt W7 p s stF) := by
            have hrd := HW6.out.rd
            rw [HE.out.2] at hrd
            rw [hW7]; exact ⟨(put4_other (Ne.symm HW6.out.rp.1) _).trans hrd.blk, hrd.suf, hrd.len, hrd.big⟩
          clear hW7 h7 hres HW6
          go_wp2
          refine bodyPost_ret (v := SV (cs)) (by simp [results, Tryz.results134, go_sem, SV, g0, g1, g2, g3]) rfl ⟨?_, HR7.out, HA7.out⟩
          rw [HQ.out, ← HE.out.1]; rfl
      | false =>
        rw [if_neg (by simp)] at hcl
        have e93 : st1.here 93 = st1 := by unfold St.here; rw [← HZ.out]; rfl
        rw [e93] at HW2
        have c4 := HW2.out.rd.cells.2.2.2.2.1
        by_cases her : st1.err = 0
        · rw [if_pos her] at hcl
          have HCLL := hide hcl
          rw [her] at c4
          have HB2 := hide (byte_any p s st1 w2 HW2.out.rd)
          have hlo := HW2.out.rd.byte256
          clear hcl her e93
          obtain ⟨low, hlow⟩ : ∃ low, low = st1.byteV := ⟨_, rfl⟩
          obtain ⟨st2, hst2⟩ : ∃ st2, st2 = st1.byte s.size := ⟨_, rfl⟩
          rw [← hlow, ← hst2] at HB2 HCLL
          rw [← hlow] at hlo
          have HLO := hide hlo
          clear hlow hst2
          unfold PT at HB2
          go_wp2_with fail
          refine HB2.out.mono ?_
          rintro e w3 ⟨rfl, hR3, hA3⟩
          have HW3 := hide (HW2.out.read hR3 hA3)
          clear hR3 hA3 HB2 HW2 c4
          obtain ⟨d, hd⟩ : ∃ d, d = st2.isAt 45 := ⟨_, rfl⟩
          have hhe := here_any p 45 s st2 w3 HW3.out.rd
          rw [← hd] at hhe HCLL
          have HHE := hide hhe
          have HD := hide hd
          clear hhe hd
          unfold PT at HHE
          go_wp2_with fail
          refine HHE.out.mono ?_
          rintro e w4 ⟨rfl, hR4, hA4⟩
          have HW4 := hide (HW3.out.read hR4 hA4)
          clear hR4 hA4 HHE HW3
          cases d with
          | true =>
            have HB5 := hide (byte_any p s _ w4 HW4.out.rd)
            have hhi := HW4.out.rd.byte256
            obtain ⟨high, hhigh⟩ : ∃ high, high = (st2.here 45).byteV := ⟨_, rfl⟩
            obtain ⟨st3, hst3⟩ : ∃ st3, st3 = (st2.here 45).byte s.size := ⟨_, rfl⟩
            simp only [if_true] at HCLL
            rw [← hhigh, ← hst3] at HB5 HCLL
            rw [← hhigh] at hhi
            have HHI := hide hhi
            clear hhigh hst3 HD
            unfold PT at HB5
            go_wp2_with fail
            refine HB5.out.mono ?_
            rintro e w5 ⟨rfl, hR5, hA5⟩
            have HW5 := hide (HW4.out.read hR5 hA5)
            clear hR5 hA5 HB5 HW4
            by_cases hlt : high < low
            · have hd1 : decide ((high : Int) < low) = true := by simp; omega
              have hd2 : decide (high < low) = true := by simp [hlt]
              rw [if_pos hlt] at HCLL
              obtain ⟨at1, hat⟩ : ∃ a, a = st3.pos s.size := ⟨_, rfl⟩
              have c1 := HW5.out.rd.cells.2.1
              have ea : s.size - st3.rest.length = at1 := hat.symm
              rw [ea] at c1
              have HF := hide (fail_any p 2 at1 s st3 w5 HW5.out.rd)
              rw [← hat] at HCLL
              obtain ⟨st4, hst4⟩ : ∃ st4, st4 = st3.fail 2 at1 := ⟨_, rfl⟩
              rw [← hst4] at HF HCLL
              have HK4 := HCLL
              clear hlt hat ea hst4 HCLL
              unfold PT at HF
              go_wp2_with fail
              refine HF.out.mono ?_
              rintro e WW ⟨rfl, hR6, hA6⟩
              have HW6 := hide (HW5.out.read hR6 hA6)
              clear hR6 hA6 HF HW5 c1
              go_wp2
              rw [show Value.pointer (some ⟨C, 0, none⟩) = PT C from rfl]
              have hA1 := HW6.out.step (⟨rfl, rfl, rfl, Nat.le_refl _, fun _ _ => rfl⟩ : Below WW.heap.size WW { WW with drawn := WW.drawn + 1 })
              refine wp_region_noPanic (wp_region_held (S := fun _ => True) (by kernel_rfl) ?_)
              show wpAnyH _ _ _ _ _ 6 #[false, false, false, false, false, false] _ _
              generalize ({ WW with drawn := WW.drawn + 1 } : World) = W at hA1 ⊢
              refine h_take 1 (.int .u8 low) rfl (by kernel_rfl) (by kernel_rfl) (by kernel_rfl) rfl (fun w hw => x_move _ _ _ _ _ _ _ _ rfl w) trivial ?_
              simp only [Act.put, List.setIfInBounds_toArray, List.set_cons_succ, List.set_cons_zero]
              refine h_take 2 (.int .u8 high) rfl (by kernel_rfl) (by kernel_rfl) (by kernel_rfl) rfl (fun w hw => x_move _ _ _ _ _ _ _ _ rfl w) trivial ?_
              simp only [Act.put, List.setIfInBounds_toArray, List.set_cons_succ, List.set_cons_zero]
              refine h_load_call 0 3 (SV cs) (SV (span low (high + 1))) 30 #[.int .u8 low, .int .u8 high] (ClW w p s st4 R C cs) rfl rfl (by kernel_rfl) (by kernel_rfl) (by kernel_rfl) rfl rfl rfl rfl (fun w hw => x_loadSet _ _ _ _ _ _ _ _ cs rfl w hw.box) (fun w hw => x_loadSet _ _ _ _ _ _ _ _ cs rfl w hw.box)
                (fun w => x_call2 _ _ _ _ _ _ _ _ _ _ _ _ _ rfl rfl rfl (enters_of Tryz.func30 (by kernel_rfl) rfl) w) (fun w => x_call2 _ _ _ _ _ _ _ _ _ _ _ _ _ rfl rfl rfl (enters_of Tryz.func30 (by kernel_rfl) rfl) w)
                (fun w hw => (from_any low high HLO.out HHI.out w).mono fun e w' h => ⟨h.1, hw.step h.2⟩) (fun _ _ => trivial) hA1 rfl rfl ?_
              intro W2 hA2
              simp only [Act.put, List.setIfInBounds_toArray, List.set_cons_succ, List.set_cons_zero]
              refine h_callE 4 53 #[SV cs, SV (span low (high + 1))] (fun v w' => v = SV (cs ||| span low (high + 1)) ∧ Below W2.heap.size W2 w') rfl (by kernel_rfl) rfl (x_call2 _ _ _ _ _ _ _ _ _ _ _ _ _ rfl rfl rfl (enters_of Tryz.func53 (by kernel_rfl) rfl) _) ((or_any cs _ _).mono fun e w' h => ⟨_, h.1, rfl, h.2⟩) (fun v w' h => trivial) ?_
              rintro v3 W3 ⟨rfl, hb3⟩
              simp only [Act.put, List.setIfInBounds_toArray, List.set_cons_succ, List.set_cons_zero]
              have hA3 := hA2.step hb3
              have hA4 := hA3.store (cs ||| span low (high + 1))
              refine h_step 5 (put4 W3 C (cs ||| span low (high + 1))) rfl (by kernel_rfl) rfl (x_storeSet _ _ _ _ _ _ _ _ C _ cs rfl rfl _ hA3.box) trivial ?_
              simp only [Act.put, List.setIfInBounds_toArray, List.set_cons_succ, List.set_cons_zero]
              refine wpAnyH_done (by kernel_rfl) ?_ _
              refine NoPanic.normal ?_
              have HA4 := hide hA4
              clear hA1 hA2 hA3 hA4 hb3
              unfold PT
              go_wp2
              go_roundg k
              case measure => omega
              case rel => exact ⟨_, st4, HK4.out, HA4.out⟩
            · have hd1 : decide ((high : Int) < low) = false := by simp; omega
              have hd2 : decide (high < low) = false := by simp; omega
              rw [if_neg hlt] at HCLL
              obtain ⟨st4, hst4⟩ : ∃ st4, st4 = st3 := ⟨_, rfl⟩
              rw [← hst4] at HCLL HW5
              obtain ⟨WW, hWW⟩ : ∃ WW, WW = w5 := ⟨_, rfl⟩
              rw [← hWW] at HW5 ⊢
              have HK4 := HCLL
              have HW6 := HW5
              clear hlt hst4 HCLL HW5 hWW
              go_wp2
              rw [show Value.pointer (some ⟨C, 0, none⟩) = PT C from rfl]
              have hA1 := HW6.out.step (⟨rfl, rfl, rfl, Nat.le_refl _, fun _ _ => rfl⟩ : Below WW.heap.size WW { WW with drawn := WW.drawn + 1 })
              refine wp_region_noPanic (wp_region_held (S := fun _ => True) (by kernel_rfl) ?_)
              show wpAnyH _ _ _ _ _ 6 #[false, false, false, false, false, false] _ _
              generalize ({ WW with drawn := WW.drawn + 1 } : World) = W at hA1 ⊢
              refine h_take 1 (.int .u8 low) rfl (by kernel_rfl) (by kernel_rfl) (by kernel_rfl) rfl (fun w hw => x_move _ _ _ _ _ _ _ _ rfl w) trivial ?_
              simp only [Act.put, List.setIfInBounds_toArray, List.set_cons_succ, List.set_cons_zero]
              refine h_take 2 (.int .u8 high) rfl (by kernel_rfl) (by kernel_rfl) (by kernel_rfl) rfl (fun w hw => x_move _ _ _ _ _ _ _ _ rfl w) trivial ?_
              simp only [Act.put, List.setIfInBounds_toArray, List.set_cons_succ, List.set_cons_zero]
              refine h_load_call 0 3 (SV cs) (SV (span low (high + 1))) 30 #[.int .u8 low, .int .u8 high] (ClW w p s st4 R C cs) rfl rfl (by kernel_rfl) (by kernel_rfl) (by kernel_rfl) rfl rfl rfl rfl (fun w hw => x_loadSet _ _ _ _ _ _ _ _ cs rfl w hw.box) (fun w hw => x_loadSet _ _ _ _ _ _ _ _ cs rfl w hw.box)
                (fun w => x_call2 _ _ _ _ _ _ _ _ _ _ _ _ _ rfl rfl rfl (enters_of Tryz.func30 (by kernel_rfl) rfl) w) (fun w => x_call2 _ _ _ _ _ _ _ _ _ _ _ _ _ rfl rfl rfl (enters_of Tryz.func30 (by kernel_rfl) rfl) w)
                (fun w hw => (from_any low high HLO.out HHI.out w).mono fun e w' h => ⟨h.1, hw.step h.2⟩) (fun _ _ => trivial) hA1 rfl rfl ?_
              intro W2 hA2
              simp only [Act.put, List.setIfInBounds_toArray, List.set_cons_succ, List.set_cons_zero]
              refine h_callE 4 53 #[SV cs, SV (span low (high + 1))] (fun v w' => v = SV (cs ||| span low (high + 1)) ∧ Below W2.heap.size W2 w') rfl (by kernel_rfl) rfl (x_call2 _ _ _ _ _ _ _ _ _ _ _ _ _ rfl rfl rfl (enters_of Tryz.func53 (by kernel_rfl) rfl) _) ((or_any cs _ _).mono fun e w' h => ⟨_, h.1, rfl, h.2⟩) (fun v w' h => trivial) ?_
              rintro v3 W3 ⟨rfl, hb3⟩
              simp only [Act.put, List.setIfInBounds_toArray, List.set_cons_succ, List.set_cons_zero]
              have hA3 := hA2.step hb3
              have hA4 := hA3.store (cs ||| span low (high + 1))
              refine h_step 5 (put4 W3 C (cs ||| span low (high + 1))) rfl (by kernel_rfl) rfl (x_storeSet _ _ _ _ _ _ _ _ C _ cs rfl rfl _ hA3.box) trivial ?_
              simp only [Act.put, List.setIfInBounds_toArray, List.set_cons_succ, List.set_cons_zero]
              refine wpAnyH_done (by kernel_rfl) ?_ _
              refine NoPanic.normal ?_
              have HA4 := hide hA4
              clear hA1 hA2 hA3 hA4 hb3
              unfold PT
              go_wp2
              go_roundg k
              case measure => omega
              case rel => exact ⟨_, st4, HK4.out, HA4.out⟩
          | false =>
            have e45 : st2.here 45 = st2 := by unfold St.here; rw [← HD.out]; rfl
            rw [e45] at HW4
            simp only [Bool.false_eq_true, if_false, Nat.lt_irrefl] at HCLL
            obtain ⟨st4, hst4⟩ : ∃ st4, st4 = st2 := ⟨_, rfl⟩
            rw [← hst4] at HCLL HW4
            obtain ⟨WW, hWW⟩ : ∃ WW, WW = w4 := ⟨_, rfl⟩
            rw [← hWW] at HW4 ⊢
            have HK4 := HCLL
            have HW6 := HW4
            have HHI := HLO
            have hd1 : decide ((low : Int) < low) = false := by simp
            clear hst4 HCLL HW4 hWW e45 HD
            go_wp2
            rw [show Value.pointer (some ⟨C, 0, none⟩) = PT C from rfl]
            have hA1 := HW6.out.step (⟨rfl, rfl, rfl, Nat.le_refl _, fun _ _ => rfl⟩ : Below WW.heap.size WW { WW with drawn := WW.drawn + 1 })
            refine wp_region_noPanic (wp_region_held (S := fun _ => True) (by kernel_rfl) ?_)
            show wpAnyH _ _ _ _ _ 6 #[false, false, false, false, false, false] _ _
            generalize ({ WW with drawn := WW.drawn + 1 } : World) = W at hA1 ⊢
            refine h_take 1 (.int .u8 low) rfl (by kernel_rfl) (by kernel_rfl) (by kernel_rfl) rfl (fun w hw => x_move _ _ _ _ _ _ _ _ rfl w) trivial ?_
            simp only [Act.put, List.setIfInBounds_toArray, List.set_cons_succ, List.set_cons_zero]
            refine h_take 2 (.int .u8 low) rfl (by kernel_rfl) (by kernel_rfl) (by kernel_rfl) rfl (fun w hw => x_move _ _ _ _ _ _ _ _ rfl w) trivial ?_
            simp only [Act.put, List.setIfInBounds_toArray, List.set_cons_succ, List.set_cons_zero]
            refine h_load_call 0 3 (SV cs) (SV (span low (low + 1))) 30 #[.int .u8 low, .int .u8 low] (ClW w p s st4 R C cs) rfl rfl (by kernel_rfl) (by kernel_rfl) (by kernel_rfl) rfl rfl rfl rfl (fun w hw => x_loadSet _ _ _ _ _ _ _ _ cs rfl w hw.box) (fun w hw => x_loadSet _ _ _ _ _ _ _ _ cs rfl w hw.box)
              (fun w => x_call2 _ _ _ _ _ _ _ _ _ _ _ _ _ rfl rfl rfl (enters_of Tryz.func30 (by kernel_rfl) rfl) w) (fun w => x_call2 _ _ _ _ _ _ _ _ _ _ _ _ _ rfl rfl rfl (enters_of Tryz.func30 (by kernel_rfl) rfl) w)
              (fun w hw => (from_any low low HLO.out HHI.out w).mono fun e w' h => ⟨h.1, hw.step h.2⟩) (fun _ _ => trivial) hA1 rfl rfl ?_
            intro W2 hA2
            simp only [Act.put, List.setIfInBounds_toArray, List.set_cons_succ, List.set_cons_zero]
            refine h_callE 4 53 #[SV cs, SV (span low (low + 1))] (fun v w' => v = SV (cs ||| span low (low + 1)) ∧ Below W2.heap.size W2 w') rfl (by kernel_rfl) rfl (x_call2 _ _ _ _ _ _ _ _ _ _ _ _ _ rfl rfl rfl (enters_of Tryz.func53 (by kernel_rfl) rfl) _) ((or_any cs _ _).mono fun e w' h => ⟨_, h.1, rfl, h.2⟩) (fun v w' h => trivial) ?_
            rintro v3 W3 ⟨rfl, hb3⟩
            simp only [Act.put, List.setIfInBounds_toArray, List.set_cons_succ, List.set_cons_zero]
            have hA3 := hA2.step hb3
            have hA4 := hA3.store (cs ||| span low (low + 1))
            refine h_step 5 (put4 W3 C (cs ||| span low (low + 1))) rfl (by kernel_rfl) rfl (x_storeSet _ _ _ _ _ _ _ _ C _ cs rfl rfl _ hA3.box) trivial ?_
            simp only [Act.put, List.setIfInBounds_toArray, List.set_cons_succ, List.set_cons_zero]
            refine wpAnyH_done (by kernel_rfl) ?_ _
            refine NoPanic.normal ?_
            have HA4 := hide hA4
            clear hA1 hA2 hA3 hA4 hb3
            unfold PT
            go_wp2
            go_roundg k
            case measure => omega
            case rel => exact ⟨_, st4, HK4.out, HA4.out⟩
        · rw [if_neg her] at hcl
          have HE : Hid (cs = sF ∧ st1 = stF) := by injection hcl with hcl; injection hcl with e1 e2; exact ⟨e1, e2⟩
          have hne : ((st1.err : Int) == 0) = false := beq_eq_false_iff_ne.2 (by omega)
          clear hcl her e93
          have hbx := HW2.out.box
          have b0 := hbx.cell 0; have b1 := hbx.cell 1; have b2 := hbx.cell 2; have b3 := hbx.cell 3
          simp only [WS, List.getElem?_toArray, List.getElem?_cons_zero, List.getElem?_cons_succ] at b0 b1 b2 b3
          clear hbx
          cases nt with
          | true =>
            have HN := hide (not_any cs w2)
            unfold SV at HN
            go_wp2_with fail
            refine HN.out.mono ?_
            rintro e w6 ⟨rfl, hb6⟩
            have HW6 := hide (HW2.out.step hb6)
            clear hb6 HN HW2 b0 b1 b2 b3
            have hres := HW6.out.res
            have r0 := hres.cell 0; have r1 := hres.cell 1; have r2 := hres.cell 2; have r3 := hres.cell 3
            have f0 := hres.frozen 0; have f1 := hres.frozen 1; have f2 := hres.frozen 2; have f3 := hres.frozen 3
            simp only [WS, List.getElem?_toArray, List.getElem?_cons_zero, List.getElem?_cons_succ] at r0 r1 r2 r3
            obtain ⟨W7, hW7⟩ : ∃ W7, W7 = put4 w6 R (~~~cs) := ⟨_, rfl⟩
            have ew : (((w6.setCell ⟨R, 0, none⟩ (.int .u64 (wd (~~~cs) 0))).setCell ⟨R, 1, none⟩ (.int .u64 (wd (~~~cs) 1))).setCell ⟨R, 2, none⟩ (.int .u64 (wd (~~~cs) 2))).setCell ⟨R, 3, none⟩ (.int .u64 (wd (~~~cs) 3)) = W7 := hW7.symm
            have h7 : Blk W7 R (WS (~~~cs)) 62 := by rw [hW7]; exact put4_blk hres (~~~cs)
            have g0 := h7.cell 0; have g1 := h7.cell 1; have g2 := h7.cell 2; have g3 := h7.cell 3
            simp only [WS, List.getElem?_toArray, List.getElem?_cons_zero, List.getElem?_cons_succ] at g0 g1 g2 g3
            have HA7 : Hid (Aside p w W7) := by rw [hW7]; exact aside_put4 HW6.out.aside HW6.out.new.1 _
            have HR7 : Hid (RdAt W7 p s stF) := by
              have hrd := HW6.out.rd
              rw [HE.out.2] at hrd
              rw [hW7]; exact ⟨(put4_other (Ne.symm HW6.out.rp.1) _).trans hrd.blk, hrd.suf, hrd.len, hrd.big⟩
            clear hW7 h7 hres HW6
            go_wp2
            refine bodyPost_ret (v := SV (~~~cs)) (by simp [results, Tryz.results134, go_sem, SV, g0, g1, g2, g3]) rfl ⟨?_, HR7.out, HA7.out⟩
            rw [HQ.out, ← HE.out.1]; rfl
          | false =>
            have HW6 := HW2
            clear HW2
            have hres := HW6.out.res
            have r0 := hres.cell 0; have r1 := hres.cell 1; have r2 := hres.cell 2; have r3 := hres.cell 3
            have f0 := hres.frozen 0; have f1 := hres.frozen 1; have f2 := hres.frozen 2; have f3 := hres.frozen 3
            simp only [WS, List.getElem?_toArray, List.getElem?_cons_zero, List.getElem?_cons_succ] at r0 r1 r2 r3
            obtain ⟨W7, hW7⟩ : ∃ W7, W7 = put4 w2 R (cs) := ⟨_, rfl⟩
            have ew : (((w2.setCell ⟨R, 0, none⟩ (.int .u64 (wd (cs) 0))).setCell ⟨R, 1, none⟩ (.int .u64 (wd (cs) 1))).setCell ⟨R, 2, none⟩ (.int .u64 (wd (cs) 2))).setCell ⟨R, 3, none⟩ (.int .u64 (wd (cs) 3)) = W7 := hW7.symm
            have h7 : Blk W7 R (WS (cs)) 62 := by rw [hW7]; exact put4_blk hres (cs)
            have g0 := h7.cell 0; have g1 := h7.cell 1; have g2 := h7.cell 2; have g3 := h7.cell 3
            simp only [WS, List.getElem?_toArray, List.getElem?_cons_zero, List.getElem?_cons_succ] at g0 g1 g2 g3
            have HA7 : Hid (Aside p w W7) := by rw [hW7]; exact aside_put4 HW6.out.aside HW6.out.new.1 _
            have HR7 : Hid (RdAt W7 p s stF) := by
              have hrd := HW6.out.rd
              rw [HE.out.2] at hrd
              rw [hW7]; exact ⟨(put4_other (Ne.symm HW6.out.rp.1) _).trans hrd.blk, hrd.suf, hrd.len, hrd.big⟩
            clear hW7 h7 hres HW6
            go_wp2
            refine bodyPost_ret (v := SV (cs)) (by simp [results, Tryz.results134, go_sem, SV, g0, g1, g2, g3]) rfl ⟨?_, HR7.out, HA7.out⟩
            rw [HQ.out, ← HE.out.1]; rfl
end Go.Proofs.YtjlgepahgmkamaaGreatDoor
