/- Texts of this claim put together: TmI, TmJ0. -/
import Derived.Test.YtblpekljiilkjaaGreatDoorJoinTmH
import Derived.Deep.RegionHeld3
/- Make: what a plan makes, as it lies in memory. -/
namespace Go.Proofs.YtblpekljiilkjaaGreatDoor
set_option maxRecDepth 100000
set_option linter.unusedSimpArgs false
set_option linter.unusedVariables false
open Go.RowKit Go.Shelf

/-- An expression stays where its blocks and all pointers stay. -/
theorem ReAt.typT {W W' : World} {b : Nat} {r : RE} (h : ReAt W b r) (hs : W.heap.size ≤ W'.heap.size) (hb : ∀ b c, Blk W b c 97 → Blk W' b c 97) (hp : ∀ b o p, W.cell? ⟨b, o, none⟩ = some (PT p) → W'.cell? ⟨b, o, none⟩ = some (PT p)) : ReAt W' b r := by
  induction h with
  | mk b o s ks v bs blk row kid ih =>
    refine .mk b o s ks v bs (hb _ _ blk) ?_ ih
    obtain ⟨h1, a, cap, rfl, h2⟩ := row
    refine ⟨⟨h1.1, h1.2.keep hs⟩, a, cap, rfl, fun k hk => ?_⟩
    obtain ⟨b', off, e, hlt, hc⟩ := h2 k hk
    exact ⟨b', off, e, Nat.lt_of_lt_of_le hlt hs, hp _ _ _ hc⟩
theorem TmAt.typT {W W' : World} {b : Nat} {t : TM} (h : TmAt W b t) (hw : WfT t) (hs : W.heap.size ≤ W'.heap.size) (hb : ∀ b c, Blk W b c 97 → Blk W' b c 97) (hp : ∀ b o p, W.cell? ⟨b, o, none⟩ = some (PT p) → W'.cell? ⟨b, o, none⟩ = some (PT p))
    (ht : ∀ q x c, TmAt W q x → WfT x → Blk W q c 38 → Blk W' q c 38) : TmAt W' b t := by
  induction h with
  | mk b o at' n t k r ks rp v bs blk hr row kid ih =>
    refine .mk b o at' n t k r ks rp v bs (ht _ _ _ (.mk b o at' n t k r ks rp v bs blk hr row kid) hw blk) ?_ ?_ (fun i x hx => ih i x hx (hw.kid x (List.mem_of_getElem? hx)))
    · cases r with
      | none => exact hr
      | some r => obtain ⟨p, e, h⟩ := hr; exact ⟨p, e, h.typT hs hb hp⟩
    · obtain ⟨h1, a, cap, rfl, h2⟩ := row
      refine ⟨⟨h1.1, h1.2.keep hs⟩, a, cap, rfl, fun k hk => ?_⟩
      obtain ⟨b', off, e, hlt, hc⟩ := h2 k hk
      exact ⟨b', off, e, Nat.lt_of_lt_of_le hlt hs, hp _ _ _ hc⟩
theorem setCell_size (W : World) (a : Addr) (v : Value) : (W.setCell a v).heap.size = W.heap.size := by simp [World.setCell]
/-- Pointers that a store of what was none does not touch. -/
theorem ptr_kept {W : World} {b i : Nat} {c : Array Value} {t : TypeId} {v : Value} (h : Blk W b c t) (hi : ∀ p, c[i]? ≠ some (PT p)) : ∀ b' o p, W.cell? ⟨b', o, none⟩ = some (PT p) → (W.setCell ⟨b, i, none⟩ v).cell? ⟨b', o, none⟩ = some (PT p) := by
  intro b' o p hc
  by_cases e : b' = b
  · subst e
    rw [h.cell] at hc
    have hne : i ≠ o := fun e => hi p (e ▸ hc)
    rw [(h.set i v).cell, Array.getElem?_setIfInBounds_ne hne]
    exact hc
  · rw [World.cell?_of_block (w := W) (Below.heap_setCell _ _ _ _ e)]
    exact hc
/-- While a term is made. -/
structure MkW (w : World) (b P : Nat) (pc c : Array Value) (q : Option (Nat × RE)) (W : World) : Prop where
  blk : Blk W b c 38
  plan : Blk W P pc 24
  re : ∀ p r, q = some (p, r) → ReAt W p r
  low : w.heap.size ≤ b
  below : Below w.heap.size w W
theorem MkW.ne {w W : World} {b P : Nat} {pc c : Array Value} {q : Option (Nat × RE)} (h : MkW w b P pc c q W) : P ≠ b := h.plan.apart h.blk (by decide)
theorem MkW.call {w W W' : World} {b P : Nat} {pc c : Array Value} {q : Option (Nat × RE)} (h : MkW w b P pc c q W) (hb : Below W.heap.size W W') : MkW w b P pc c q W' :=
  ⟨h.blk.below hb h.blk.lt, h.plan.below hb h.plan.lt, fun p r e => (h.re p r e).keep hb, h.low, h.below.trans (hb.mono h.below.size)⟩
theorem MkW.gets {w W : World} {b P p : Nat} {r : RE} {pc c : Array Value} (h : MkW w b P pc c none W) (hr : ReAt W p r) : MkW w b P pc c (some (p, r)) W :=
  ⟨h.blk, h.plan, fun p' r' e => by cases e; exact hr, h.low, h.below⟩
theorem MkW.store {w W : World} {b P : Nat} {pc c : Array Value} {q : Option (Nat × RE)} (h : MkW w b P pc c q W) (i : Nat) (v : Value) (hi : ∀ p, c[i]? ≠ some (PT p)) : MkW w b P pc (c.setIfInBounds i v) q (W.setCell ⟨b, i, none⟩ v) :=
  ⟨h.blk.set i v, h.plan.setOther _ _ h.ne, fun p r e => (h.re p r e).typT (by rw [setCell_size]; exact Nat.le_refl _) (fun b' c' hB => hB.setOther _ _ (hB.apart h.blk (by decide))) (ptr_kept h.blk hi), h.low, h.below.setCell h.low _⟩
theorem MkW.leaf {w W : World} {b P o p : Nat} {n t k : ByteArray} {r : RE} {pc : Array Value} (h : MkW w b P pc (tmC o 0 n t k (PT p) (.slice none 0 0)) (some (p, r)) W) : TmAt W b (.mk o n t k (some r) []) :=
  TmAt.ofRow h.blk ⟨p, rfl, h.re p r rfl⟩ (tmRow_nil W)
theorem MkW.leaf0 {w W : World} {b P o : Nat} {n t k : ByteArray} {pc : Array Value} (h : MkW w b P pc (tmC o 0 n t k (.pointer none) (.slice none 0 0)) none W) : TmAt W b (.mk o n t k none []) :=
  TmAt.ofRow h.blk rfl (tmRow_nil W)
/-- The kids' row is stored last. -/
theorem MkW.kids {w W : World} {b P o : Nat} {v : Value} {l : List TM} {pc : Array Value} (h : MkW w b P pc (tmC o 0 ⟨#[]⟩ ⟨#[]⟩ ⟨#[]⟩ (.pointer none) (.slice none 0 0)) none W) (hr : TmRow W v l) (hw : ∀ x ∈ l, WfT x) (ho : kidsO o ≠ 0) : TmAt (W.setCell ⟨b, 6, none⟩ v) b (.mk o ⟨#[]⟩ ⟨#[]⟩ ⟨#[]⟩ none l) := by
  have hk := ptr_kept (i := 6) (v := v) h.blk (by intro p; simp [tmC, PT])
  have hs : W.heap.size ≤ (W.setCell ⟨b, 6, none⟩ v).heap.size := by rw [setCell_size]; exact Nat.le_refl _
  refine TmAt.ofRow (at' := 0) (rp := .pointer none) (v := v) (h.blk.set 6 v) rfl ?_
  obtain ⟨bs, ⟨h1, a, cap, rfl, h2⟩, h3⟩ := hr
  refine ⟨bs, ⟨⟨h1.1, h1.2.keep hs⟩, a, cap, rfl, fun k hk' => ?_⟩, fun i x hx => ?_⟩
  · obtain ⟨b', off, e, hlt, hc⟩ := h2 k hk'
    exact ⟨b', off, e, Nat.lt_of_lt_of_le hlt hs, hk _ _ _ hc⟩
  · refine (h3 i x hx).typT (hw x (List.mem_of_getElem? hx)) hs (fun b' c' hB => hB.setOther _ _ (hB.apart h.blk (by decide))) hk fun q y c hq hy hB => ?_
    refine hB.setOther _ _ fun e => ?_
    have e : q = b := e
    subst e
    cases y with
    | mk o' n' t' k' r' ks' =>
      obtain ⟨at', rp', v', blk', -, row'⟩ := hq.row
      have hcc := blk'.of_cells.symm.trans h.blk.of_cells
      injection hcc with hcc
      injection hcc with hcc
      simp only [tmC, Array.mk.injEq, List.cons.injEq, Value.int.injEq, true_and] at hcc
      obtain ⟨e0, -, -, -, -, -, rfl, -⟩ := hcc
      obtain ⟨-, a', c', e6, -⟩ := row'.at
      injection e6 with _ e7
      have hl := hy.len
      have e8 : o' = o := by omega
      rw [e8] at hl
      omega

/-- What making does. -/
abbrev MkP (s : PL) : Prop := ∀ (cs : List Value) (w : World), PlC w cs s → TabAt w →
  Calls Tryz.prog 14 #[PlVal cs] w fun e w' => ∃ p, e = .returned (PT p) ∧ TmAt w' p s.tm ∧ Below w.heap.size w w'
set_option maxHeartbeats 2000000 in
theorem pkidT_any (s : PL) (ih : ∀ k ∈ s.kids, MkP k) (i : Nat) (hi : i < 2) (cs : List Value) (w : World) (h : PlC w cs s) (hT : TabAt w) :
    Calls Tryz.prog 42 #[PlVal cs, .int .i64 i] w fun e w' => ∃ p, e = .returned (PT p) ∧ TmAt w' p ((s.kids.map PL.tm).getD i hdA) ∧ Below w.heap.size w w' := by
  obtain ⟨v, rfl, hr, ho, hwd, hnm⟩ := h.open
  obtain ⟨hn, a, cap, rfl, -⟩ := hr.at
  have hb1 := (Below.refl w.heap.size w).alloc (Nat.le_refl _) (.cells #[.int .i64 s.op, .int .i64 s.wd, .int .i64 s.num, .slice a s.kids.length cap] 24)
  have HT := hide hT
  have HB := hide hb1
  by_cases hlt : i < s.kids.length
  · have hkd : decide (i < s.kids.length) = true := by simp [hlt]
    have hkd2 : decide ((i : Int) < s.kids.length) = true := by simp; omega
    obtain ⟨-, a', cap', e1, g1⟩ := (hr.keep hb1).at
    obtain ⟨rfl, rfl⟩ : a = a' ∧ cap = cap' := by cases e1; exact ⟨rfl, rfl⟩
    obtain ⟨b, off, kv, rfl, -, ⟨c0, c1, c2, c3⟩, hC⟩ := g1 i hlt
    have hrec := ih _ (List.getElem_mem hlt) _ _ hC (HT.out.onS HB.out)
    obtain ⟨kf, kcap, hkv⟩ : ∃ a c, kv = .slice a (s.kids[i]).kids.length c := by
      obtain ⟨v', e', hr', -⟩ := hC.open
      obtain ⟨-, a', c', e'', -⟩ := hr'.at
      have : kv = v' := by simpa using e'
      exact ⟨a', c', this.trans e''⟩
    have HREC := hide hrec
    have HE : Hid ((s.kids.map PL.tm).getD i hdA = (s.kids[i]).tm) := by
      show _ = _
      rw [List.getD_eq_getElem?_getD, List.getElem?_map, List.getElem?_eq_getElem hlt]; rfl
    subst hkv
    generalize s.kids[i] = sk at *
    clear hrec hC g1 e1 h hr hb1 hT hn ih ho hwd hnm
    unfold PlVal at HREC ⊢
    go_enter Tryz.func42, Tryz.ntmps42
    go_wp2_with fail
    refine HREC.out.mono ?_
    rintro e w2 ⟨p, rfl, ht, hb2⟩
    have HTT := hide ht
    have HB2 := hide (HB.out.trans (hb2.mono HB.out.size))
    clear ht hb2 HREC c0 c1 c2 c3
    unfold PT
    go_wp2
    go_ret
    exact ⟨p, rfl, by rw [HE.out]; exact HTT.out, HB2.out⟩
  · have hkd : decide (i < s.kids.length) = false := by simp; omega
    have hkd2 : decide ((i : Int) < s.kids.length) = false := by simp; omega
    have HE : Hid ((s.kids.map PL.tm).getD i hdA = hdA) := by
      show _ = _
      rw [List.getD_eq_getElem?_getD, List.getElem?_map, List.getElem?_eq_none (by omega)]; rfl
    clear h hr hb1 hT hn ih ho hwd hnm
    unfold PlVal
    go_enter Tryz.func42, Tryz.ntmps42
    go_wp2_with fail
    refine (word_any ⟨#[97]⟩ _ (by decide) (FL.none _)).mono ?_
    rintro e w2 ⟨p, rfl, hr, hb2⟩
    rw [show bytesN ⟨#[97]⟩ = [97] from by decide +kernel, wordA] at hr
    have HR := hide hr
    have HB2 := hide (HB.out.trans (hb2.mono HB.out.size))
    clear hr hb2
    unfold PT
    go_wp2
    go_ret
    refine ⟨_, rfl, ?_, HB2.out.alloc HB2.out.size _⟩
    rw [HE.out]
    exact TmAt.ofRow (at' := 0) (rp := PT p) (Blk.newAt rfl _ _) ⟨p, rfl, HR.out.keep ((Below.refl _ _).alloc (Nat.le_refl _) _)⟩ (tmRow_nil _)
end Go.Proofs.YtblpekljiilkjaaGreatDoor
/- Laws of single operations of Make. -/
namespace Go.Proofs.YtblpekljiilkjaaGreatDoor
set_option maxRecDepth 100000
set_option linter.unusedSimpArgs false
set_option linter.unusedVariables false
open Go.RowKit Go.Shelf

theorem alloc_setCell (W : World) (o : Obj) (b i : Nat) (v : Value) (hb : b < W.heap.size) : (W.alloc o).setCell ⟨b, i, none⟩ v = (W.setCell ⟨b, i, none⟩ v).alloc o := by
  unfold World.setCell World.alloc
  simp only [World.mk.injEq, and_true, true_and]
  apply Array.ext
  · simp
  · intro j h1 h2
    simp only [Array.size_modify, Array.size_push] at h1 h2
    rw [Array.getElem_modify]
    by_cases hj : j < W.heap.size
    · rw [Array.getElem_push_lt hj, Array.getElem_push_lt (by rw [Array.size_modify]; exact hj), Array.getElem_modify]
    · have hj2 : j = W.heap.size := by omega
      subst hj2
      rw [if_neg (by show b ≠ _; omega), Array.getElem_push, Array.getElem_push]
      rw [dif_neg (by omega), dif_neg (by rw [Array.size_modify]; omega)]
theorem x_loadPl (ρ : Operand → Value) (d : Option Tmp) (x : Operand) (t : TypeId) (pos : String) (af : Array Edge) (g : Option (Nat × Bool)) (b : Nat) (o l u : Int) (a : Option Addr) (n c : Nat) (hx : ρ x = .pointer (some ⟨b, 0, none⟩)) (w : World) (hB : Blk w b #[.int .i64 o, .int .i64 l, .int .i64 u, .slice a n c] 24) :
    (execOp ρ { dst := d, op := .load 24 x, type := t, pos := pos, after := af, guard := g }).run Tryz.prog w = .ok (.value (.agg #[.int .i64 o, .int .i64 l, .int .i64 u, .slice a n c])) w := by
  have c0 := hB.cell 0; have c1 := hB.cell 1; have c2 := hB.cell 2; have c3 := hB.cell 3
  simp only [List.getElem?_toArray, List.getElem?_cons_zero, List.getElem?_cons_succ] at c0 c1 c2 c3
  simp [go_sem, hx, c0, c1, c2, c3]
theorem x_buildTm2 (ρ : Operand → Value) (d : Option Tmp) (x y : Operand) (t : TypeId) (pos : String) (af : Array Edge) (g : Option (Nat × Bool)) (p q : Nat) (hx : ρ x = PT p) (hy : ρ y = PT q) (w : World) :
    (execOp ρ { dst := d, op := .buildSlice 36 2 #[(0, x), (1, y)], type := t, pos := pos, after := af, guard := g }).run Tryz.prog w = .ok (.value (.slice (some ⟨w.heap.size, 0, none⟩) 2 2)) (w.alloc (.cells #[PT p, PT q] 26)) := by
  unfold PT at *
  simp [go_sem, hx, hy]
theorem x_storeTm (ρ : Operand → Value) (d : Option Tmp) (x y : Operand) (t : TypeId) (pos : String) (af : Array Edge) (g : Option (Nat × Bool)) (b n : Nat) (a : Option Addr) (m c : Nat) (old : Value) (hx : ρ x = .pointer (some ⟨b, n, none⟩)) (hy : ρ y = .slice a m c) (w : World) (hc : w.cell? ⟨b, n, none⟩ = some old) (hf : w.frozen? ⟨b, n, none⟩ = false) :
    (execOp ρ { dst := d, op := .store 36 x y, type := t, pos := pos, after := af, guard := g }).run Tryz.prog w = .ok .skip (w.setCell ⟨b, n, none⟩ (.slice a m c)) := by
  simp [go_sem, hx, hy, hc, hf]
theorem wrap_tdiv {n : Int} (h : I64 n) : wrap64 (n.tdiv 7) = n.tdiv 7 := by
  unfold I64 at h
  have hb : -9223372036854775808 ≤ n.tdiv 7 ∧ n.tdiv 7 ≤ 9223372036854775807 := by
    rcases Int.lt_or_le n 0 with h0 | h0
    · obtain ⟨m, rfl⟩ : ∃ m, n = -m := ⟨-n, by omega⟩
      rw [Int.neg_tdiv, Int.tdiv_eq_ediv_of_nonneg (by omega)]
      omega
    · rw [Int.tdiv_eq_ediv_of_nonneg h0]
      omega
  unfold wrap64
  omega
end Go.Proofs.YtblpekljiilkjaaGreatDoor
