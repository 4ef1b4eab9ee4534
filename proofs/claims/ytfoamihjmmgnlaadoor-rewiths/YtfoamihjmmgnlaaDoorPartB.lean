/- cut: each part, split by a set. -/
import Derived.Test.YtfoamihjmmgnlaaDoorSortB
import Derived.Test.YtfoamihjmmgnlaaDoorQuiet2
import Derived.Deep.AppendLies
namespace Go.Proofs.YtfoamihjmmgnlaaDoor
set_option maxRecDepth 100000
open Go.RowKit

/-- The cells of some sets. -/
def flat (l : List (BitVec 256)) : List Value := l.flatMap encS
/-- The halves of a part that have something. -/
def halves (p s : BitVec 256) : List (BitVec 256) := [p &&& s, p &&& ~~~s].filter (fun h => !(h == 0#256))
def cutL (l : List (BitVec 256)) (s : BitVec 256) : List (BitVec 256) := l.flatMap (fun p => halves p s)

/-- What cut keeps. -/
structure CutW (s : BitVec 256) (B : Nat) (out : Value) (ol : List (BitVec 256)) (w W : World) : Prop where
  box : Blk W B (WS s) 24
  own : W.ownsRow (B + 1) 24 4 out ol.length (flat ol)
  below : Below B w W
theorem own_below {base e size n : Nat} {v : Value} {xs : List Value} {W W' : World} (h : W.ownsRow base e size v n xs) (hb : Below W.heap.size W W') : W'.ownsRow base e size v n xs := by
  refine ⟨h.1, ?_⟩
  rcases h.2 with h2 | ⟨g, cap, cur, h1, h2, h3, h4⟩
  · exact .inl h2
  · exact .inr ⟨g, cap, cur, h1, h2, (hb.block g (Array.getElem?_eq_some_iff.1 h3).1).trans h3, h4⟩
theorem CutW.step {s : BitVec 256} {B : Nat} {out : Value} {ol : List (BitVec 256)} {w W W' : World} (h : CutW s B out ol w W) (hb : Below W.heap.size W W') : CutW s B out ol w W' :=
  ⟨h.box.below hb h.box.lt, own_below h.own hb, h.below.trans (hb.mono (by have := h.box.lt; omega))⟩

/-- Two sets, side by side. -/
def PV (u v : BitVec 256) : Value := .agg #[.int .u64 (wd u 0), .int .u64 (wd u 1), .int .u64 (wd u 2), .int .u64 (wd u 3), .int .u64 (wd v 0), .int .u64 (wd v 1), .int .u64 (wd v 2), .int .u64 (wd v 3)]
theorem x_build (ρ : Operand → Value) (d : Option Tmp) (x y : Operand) (t : TypeId) (pos : String) (af : Array Edge) (g : Option (Nat × Bool)) (u v : BitVec 256) (hx : ρ x = SV u) (hy : ρ y = SV v) (w : World) :
    (execOp ρ { dst := d, op := .build 100 #[(0, x), (1, y)], type := t, pos := pos, after := af, guard := g }).run Tryd.prog w = .ok (.value (PV u v)) w := by
  simp [go_sem, hx, hy, PV]
theorem idxP (u v : BitVec 256) (j : Nat) (hj : j < 2) (w : World) : (Instr.index 100 (PV u v) (.int .i64 j)).run Tryd.prog w = .ok (SV (if j = 0 then u else v)) w := by
  obtain ⟨i, hi⟩ : ∃ i, Tryd.prog.info? 24 = some i := Option.isSome_iff_exists.1 (by kernel_rfl)
  have h1 : Tryd.prog.cellsOf 24 = 4 := by kernel_rfl
  match j, hj with
  | 0, _ => simp [Instr.index, go_sem, run_sizeOf w hi, h1, PV]
  | 1, _ => simp [Instr.index, go_sem, run_sizeOf w hi, h1, PV]
structure CutP (p s : BitVec 256) (B pb : Nat) (out : Value) (ol : List (BitVec 256)) (w W : World) : Prop where
  c : CutW s B out ol w W
  p0 : Blk W pb (WS p) 24
theorem CutP.step {p s : BitVec 256} {B pb : Nat} {out : Value} {ol : List (BitVec 256)} {w W W' : World} (h : CutP p s B pb out ol w W) (hb : Below W.heap.size W W') : CutP p s B pb out ol w W' :=
  ⟨h.c.step hb, h.p0.below hb h.p0.lt⟩
theorem CutP.drew {p s : BitVec 256} {B pb : Nat} {out : Value} {ol : List (BitVec 256)} {w W : World} (h : CutP p s B pb out ol w W) : CutP p s B pb out ol w { W with drawn := W.drawn + 1 } :=
  ⟨⟨h.c.box, h.c.own, ⟨h.c.below.os, h.c.below.tape, h.c.below.output, h.c.below.size, h.c.below.block⟩⟩, h.p0⟩

theorem flat_length (l : List (BitVec 256)) : (flat l).length = l.length * 4 := by
  induction l with
  | nil => rfl
  | cons x r ih => simp [flat, encS] at ih ⊢; omega
theorem CutW.append {s h : BitVec 256} {B : Nat} {out v' : Value} {ol : List (BitVec 256)} {w W W' : World} (hC : CutW s B out ol w W) (hg : W.grownBy W' out.ownBlock) (ho : W'.ownsRow (B + 1) 24 4 v' (ol.length + 1) (flat ol ++ encS h)) : CutW s B v' (ol ++ [h]) w W' := by
  have hne : ∀ k, k ≤ B → some k ≠ out.ownBlock := fun k hk e => by
    rcases hC.own.2 with ⟨rfl, -⟩ | ⟨g, cap, cur, rfl, h2, -⟩
    · cases e
    · simp [Value.ownBlock] at e; omega
  refine ⟨(hg.block B hC.box.lt (hne B (Nat.le_refl _))).trans hC.box, ?_, hC.below.trans ⟨hg.os, hg.tape, hg.output, hg.size, fun k hk => hg.block k (by have := hC.box.lt; omega) (hne k (by omega))⟩⟩
  rw [List.length_append, show flat (ol ++ [h]) = flat ol ++ encS h from by simp [flat]]
  exact ho
theorem cutL_length (l : List (BitVec 256)) (s : BitVec 256) : (cutL l s).length ≤ 2 * l.length := by
  induction l with
  | nil => simp [cutL]
  | cons x r ih =>
    have h := List.length_filter_le (fun h => !(h == 0#256)) [x &&& s, x &&& ~~~s]
    simp only [cutL, List.flatMap_cons, List.length_append, List.length_cons, halves] at *
    simp at h
    omega
theorem infoS : (Tryd.prog.info? 24).map (fun i => (i.zero, i.size, i.bytes)) = some (some (.agg #[.int .u64 0, .int .u64 0, .int .u64 0, .int .u64 0]), 4, 32) := by kernel_rfl

set_option maxRecDepth 100000 in
set_option maxHeartbeats 1000000 in
theorem cut_any (l : List (BitVec 256)) (v : Value) (s : BitVec 256) (w : World) (hv : SetsRow w v l) (hl : l.length ≤ 4096) :
    Calls Tryd.prog 57 #[v, SV s] w fun e w' => ∃ v', e = .returned v' ∧ w'.ownsRow (w.heap.size + 1) 24 4 v' (cutL l s).length (flat (cutL l s)) ∧ Below w.heap.size w w' := by
  have HV := hide hv
  obtain ⟨hlen, ad, cap, rfl, -⟩ := hv
  go_enter Tryd.func57, Tryd.ntmps57
  go_wp2
  generalize hB : w.heap.size = B at *
  go_loopw [5, 12] (fun out i wr => ∃ k : Nat, k ≤ l.length ∧ i = .int .i64 k ∧ CutW s B out (cutL (l.take k) s) w wr) (fun _ i _ => l.length - (intOf i).toNat)
  case atStart =>
    refine ⟨0, by omega, rfl, Blk.newAt hB.symm _ _, ⟨by simp [flat, cutL], .inl ⟨rfl, by simp [cutL]⟩⟩, (Below.refl B w).alloc (by omega) _⟩
  case round =>
    obtain ⟨k, hk, rfl, hC⟩ := hrel
    by_cases hlt : k < l.length
    · obtain ⟨-, ad', cap', hv', hc⟩ := HV.out.below (hB ▸ hC.below)
      obtain ⟨rfl, rfl⟩ : ad = ad' ∧ cap = cap' := by cases hv'; exact ⟨rfl, rfl⟩
      obtain ⟨bb, off, rfl, hbb, hc⟩ := hc k hlt
      obtain ⟨p, hp⟩ : ∃ p, p = l.getD k 0 := ⟨_, rfl⟩
      rw [← hp] at hc
      have HP := hide hp
      have c0 := hc 0 (by omega); have c1 := hc 1 (by omega); have c2 := hc 2 (by omega); have c3 := hc 3 (by omega)
      rw [Nat.add_zero] at c0
      clear hv' hp hc
      have hkI : (k : Int) < l.length := by omega
      have hkd : decide (k < l.length) = true := by simp [hlt]
      go_wp2
      obtain ⟨pb, hpb⟩ : ∃ pb, pb = wr.heap.size := ⟨_, rfl⟩
      have hC1 : CutP p s B pb u5 (cutL (l.take k) s) w (wr.alloc (.cells (WS p) 24)) := ⟨hC.step ((Below.refl _ _).alloc (Nat.le_refl _) _), Blk.newAt hpb _ _⟩
      have hGr : Grows (CutP p s B pb u5 (cutL (l.take k) s) w) := fun W W' h hb => h.step hb
      rw [← hpb]
      clear c0 c1 c2 c3 hC
      refine quiet_lit (C := CutP p s B pb u5 (cutL (l.take k) s) w) (by kernel_rfl) (by kernel_rfl) hC1.drew ?_
      refine q_want rfl fun K hK => q_value (SV p) (fun w hw => x_loadSet _ _ _ _ _ _ _ _ p rfl w hw.p0) ?_
      simp only [Act.put, List.setIfInBounds_toArray, List.set_cons_succ, List.set_cons_zero]
      refine hK _ ?_
      clear hK K
      refine q_want rfl fun K hK => q_value (SV s) (fun w hw => x_loadSet _ _ _ _ _ _ _ _ s rfl w hw.c.box) ?_
      simp only [Act.put, List.setIfInBounds_toArray, List.set_cons_succ, List.set_cons_zero]
      refine hK _ ?_
      clear hK K
      refine q_want rfl fun K hK => q_call hGr 18 #[SV p, SV s] (SV (p &&& s)) (x_call2 _ _ _ _ _ _ _ _ _ _ _ _ _ rfl rfl rfl (enters_of Tryd.func18 (by kernel_rfl) rfl)) (fun w _ => and_any p s w) ?_
      simp only [Act.put, List.setIfInBounds_toArray, List.set_cons_succ, List.set_cons_zero]
      refine hK _ ?_
      clear hK K
      refine q_want rfl fun K hK => q_value (SV p) (fun w hw => x_loadSet _ _ _ _ _ _ _ _ p rfl w hw.p0) ?_
      simp only [Act.put, List.setIfInBounds_toArray, List.set_cons_succ, List.set_cons_zero]
      refine hK _ ?_
      clear hK K
      refine q_want rfl fun K hK => q_value (SV s) (fun w hw => x_loadSet _ _ _ _ _ _ _ _ s rfl w hw.c.box) ?_
      simp only [Act.put, List.setIfInBounds_toArray, List.set_cons_succ, List.set_cons_zero]
      refine hK _ ?_
      clear hK K
      refine q_want rfl fun K hK => q_call hGr 20 #[SV p, SV s] (SV (p &&& ~~~s)) (x_call2 _ _ _ _ _ _ _ _ _ _ _ _ _ rfl rfl rfl (enters_of Tryd.func20 (by kernel_rfl) rfl)) (fun w _ => minus_any p s w) ?_
      simp only [Act.put, List.setIfInBounds_toArray, List.set_cons_succ, List.set_cons_zero]
      refine hK _ ?_
      clear hK K
      refine q_want rfl fun K hK => q_value (PV (p &&& s) (p &&& ~~~s)) (fun w _ => x_build _ _ _ _ _ _ _ _ _ _ rfl rfl w) ?_
      simp only [Act.put, List.setIfInBounds_toArray, List.set_cons_succ, List.set_cons_zero]
      refine hK _ ?_
      clear hK K
      refine q_want rfl fun K hK => q_value (.int .i64 0) (fun w _ => x_move _ _ _ _ _ _ _ _ rfl w) ?_
      simp only [Act.put, List.setIfInBounds_toArray, List.set_cons_succ, List.set_cons_zero]
      refine hK _ ?_
      clear hK K
      refine wpQuiet_nil ?_
      clear hC1 hGr hpb
      intro wr2 hCP
      have hC := hCP.c
      clear hCP
      obtain ⟨h0, hh0⟩ : ∃ h, h = p &&& s := ⟨_, rfl⟩
      obtain ⟨h1, hh1⟩ : ∃ h, h = p &&& ~~~s := ⟨_, rfl⟩
      rw [← hh0, ← hh1]
      have H0 := hide hh0
      have H1 := hide hh1
      clear hh0 hh1
      go_wp2
      go_loopw [5, 23] (fun out j wr => ∃ jj : Nat, jj ≤ 2 ∧ j = .int .i64 jj ∧ CutW s B out (cutL (l.take k) s ++ ([h0, h1].take jj).filter (fun h => !(h == 0#256))) w wr) (fun _ j _ => 2 - (intOf j).toNat)
      case atStart => exact ⟨0, by omega, rfl, by simpa using hC⟩
      case round =>
        clear hC
        obtain ⟨jj, hjj, rfl, hC⟩ := hrel
        by_cases hj2 : jj < 2
        · have hix := fun w => idxP h0 h1 jj hj2 w
          obtain ⟨h, hh⟩ : ∃ h, h = if jj = 0 then h0 else h1 := ⟨_, rfl⟩
          rw [← hh] at hix
          have hjd : decide ((jj : Int) < 2) = true := by simp; omega
          have htk : [h0, h1].take (jj + 1) = [h0, h1].take jj ++ [h] := by
            rcases (by omega : jj = 0 ∨ jj = 1) with rfl | rfl <;> simp [hh]
          have HTK := hide htk
          clear hh htk
          go_wp2_with fail
          refine (empty_any h _).mono ?_
          rintro e w3 ⟨rfl, hb⟩
          have hC3 := (hC.step ((Below.refl _ _).alloc (Nat.le_refl _) (.cells (WS h) 24))).step hb
          have kb := (Blk.newAt (w := wr) rfl (WS h) 24).below hb (by simp)
          by_cases he : (h == 0#256) = true
          · have HE := hide he
            rw [he]
            go_wp2
            refine ⟨⟨jj + 1, by omega, by go_num, ?_⟩, by simp [intOf]; omega⟩
            rw [HTK.out, List.filter_append, show [h].filter (fun h => !(h == 0#256)) = [] from by simp [HE.out], List.append_nil]
            exact hC3
          · rw [Bool.not_eq_true] at he
            have HE := hide he
            rw [he]
            have b0 := kb.cell 0; have b1 := kb.cell 1; have b2 := kb.cell 2; have b3 := kb.cell 3
            simp only [List.getElem?_toArray, List.getElem?_cons_zero, List.getElem?_cons_succ] at b0 b1 b2 b3
            have hC4 := hC3.step ((Below.refl _ _).alloc (Nat.le_refl _) (.cells (WS h) 24))
            obtain ⟨i, hi, hz0, hz1, hz2⟩ := info_parts infoS
            have hlen4 : (cutL (l.take k) s ++ ([h0, h1].take jj).filter (fun h => !(h == 0#256))).length ≤ 8194 := by
              rw [List.length_append]
              have a1 := cutL_length (l.take k) s
              have a2 := List.length_filter_le (fun h => !(h == 0#256)) ([h0, h1].take jj)
              simp at a1 a2
              omega
            have HC4 := hide hC4
            have hnews := World.news_of_block (Blk.newAt (w := w3) rfl (WS h) 24)
            clear hC4 hC3 hC kb
            go_wp2_with (refine wpList_append_lies _ rfl _ _ _ rfl (B + 1) _ i _ 4 32 Tryd.underlying47 hi hz0 hz1 hz2 rfl (by omega) _ _ _ rfl HC4.out.own _ 1 _ (encS h) rfl rfl hnews (fun u hu => by simp [encS] at hu; rcases hu with rfl | rfl | rfl | rfl <;> rfl) (by omega) (by unfold maxLen; omega) (by omega) HC4.out.box.lt _ rfl ?_; intro g cap' w4 hown hgrow hat hlt)
            have happ := HC4.out.append hgrow hown
            rw [List.length_append] at happ
            refine ⟨⟨jj + 1, by omega, by go_num, ?_⟩, by simp [intOf]; omega⟩
            rw [HTK.out, List.filter_append, show [h].filter (fun h => !(h == 0#256)) = [h] from by simp [HE.out], ← List.append_assoc]
            exact happ
        · obtain rfl : jj = 2 := by omega
          go_wp2
          refine ⟨⟨k + 1, by omega, by go_num, ?_⟩, by simp [intOf]; omega⟩
          have e : cutL (l.take (k + 1)) s = cutL (l.take k) s ++ halves p s := by
            have hpl : p = l[k] := by rw [HP.out]; simp [List.getD_eq_getElem?_getD, hlt]
            unfold cutL
            rw [List.take_succ_eq_append_getElem hlt, List.flatMap_append, hpl]
            simp only [List.flatMap_cons, List.flatMap_nil, List.append_nil]
          rw [e, halves, ← H0.out, ← H1.out]
          exact hC
    · obtain rfl : k = l.length := by omega
      go_wp2
      go_ret
      rw [List.take_length] at hC
      exact ⟨_, rfl, by rw [hB]; exact hC.own, by rw [hB]; exact hC.below⟩
end Go.Proofs.YtfoamihjmmgnlaaDoor
