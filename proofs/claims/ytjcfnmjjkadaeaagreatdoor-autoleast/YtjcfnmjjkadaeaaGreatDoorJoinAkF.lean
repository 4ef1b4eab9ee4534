/- Texts of this claim put together: AkF. -/
import Derived.Test.YtjcfnmjjkadaeaaGreatDoorJoinAkE
/- Package alike's add: a group more, of the states of one piece of the order. -/
namespace Go.Proofs.YtjcfnmjjkadaeaaGreatDoor
set_option maxRecDepth 100000
set_option linter.unusedSimpArgs false
set_option linter.unusedVariables false
open Go.RowKit Go.Shelf

section
variable (ρ : Operand → Value) (d : Option Tmp) (x y : Operand) (t : TypeId) (pos : String) (af : Array Edge) (g : Option (Nat × Bool))
theorem x_ldG (b o : Nat) (u v z : Int) (hx : ρ x = .pointer (some ⟨b, o, none⟩)) (w : World) (h0 : w.cell? ⟨b, o, none⟩ = some (.int .i64 u)) (h1 : w.cell? ⟨b, o + 1, none⟩ = some (.int .i64 v)) (h2 : w.cell? ⟨b, o + 2, none⟩ = some (.int .i64 z)) :
    (execOp ρ { dst := d, op := .load 176 x, type := t, pos := pos, after := af, guard := g }).run Tryz.prog w = .ok (.value (.agg #[.int .i64 u, .int .i64 v, .int .i64 z])) w := by
  simp [go_sem, hx, h0, h1, h2]
theorem x_bsG (u v z : Int) (hx : ρ x = .agg #[.int .i64 u, .int .i64 v, .int .i64 z]) (w : World) :
    (execOp ρ { dst := d, op := .buildSlice 143 1 #[(0, x)], type := t, pos := pos, after := af, guard := g }).run Tryz.prog w = .ok (.value (.slice (some ⟨w.heap.size, 0, none⟩) 1 1)) (w.alloc (.cells #[.int .i64 u, .int .i64 v, .int .i64 z] 176)) := by
  simp [go_sem, hx]
theorem x_stGs (b o : Nat) (v : Value) (old : Value) (a : Option Addr) (m c : Nat) (hv : v = .slice a m c) (hx : ρ x = .pointer (some ⟨b, o, none⟩)) (hy : ρ y = v) (w : World) (hc : w.cell? ⟨b, o, none⟩ = some old) (hf : w.frozen? ⟨b, o, none⟩ = false) :
    (execOp ρ { dst := d, op := .store 143 x y, type := t, pos := pos, after := af, guard := g }).run Tryz.prog w = .ok .skip (w.setCell ⟨b, o, none⟩ v) := by
  subst hv
  simp [go_sem, hx, hy, hc, hf]
theorem x_lenG (a : Option Addr) (m c : Nat) (hx : ρ x = .slice a m c) (w : World) : (execOp ρ { dst := d, op := .call { callee := .builtin .len, args := #[x], argTypes := #[143] }, type := t, pos := pos, after := af, guard := g }).run Tryz.prog w = .ok (.value (.int .i64 m)) w := by
  simp [go_sem, hx]
theorem x_lenI (a : Option Addr) (m c : Nat) (hx : ρ x = .slice a m c) (w : World) : (execOp ρ { dst := d, op := .call { callee := .builtin .len, args := #[x], argTypes := #[36] }, type := t, pos := pos, after := af, guard := g }).run Tryz.prog w = .ok (.value (.int .i64 m)) w := by
  simp [go_sem, hx]
theorem x_sub1A (u : Nat) (h : u ≤ 9223372036854775807) (h0 : 0 < u) (hx : ρ x = .int .i64 u) (hy : ρ (.const (.int .i64 1)) = .int .i64 1) (w : World) : (execOp ρ { dst := d, op := .binOp .sub 3 x (.const (.int .i64 1)) 3, type := t, pos := pos, after := af, guard := g }).run Tryz.prog w = .ok (.value (.int .i64 ((u - 1 : Nat) : Int))) w := by
  have e : wrap64 ((u : Int) - 1) = ((u - 1 : Nat) : Int) := by unfold wrap64; omega
  simp [go_sem, hx, hy]
  first | done | (try unfold IntKind.wrap) ; simp [IntKind.signed, IntKind.bits]; omega
theorem x_slI (b n a e : Nat) (h : a < e) (h2 : e ≤ n) (x1 x2 : Operand) (hx : ρ x = .slice (some ⟨b, 0, none⟩) n n) (ha : ρ x1 = .int .i64 a) (he : ρ x2 = .int .i64 e) (w : World) :
    (execOp ρ { dst := d, op := .slice 36 x (some x1) (some x2) none, type := t, pos := pos, after := af, guard := g }).run Tryz.prog w = .ok (.value (.slice (some ⟨b, a, none⟩) (e - a) (n - a))) w := by
  have h3 : a ≤ e := by omega
  have h4 : ¬ n - a = 0 := by omega
  have h5 : ¬ n = a := by omega
  simp [go_sem, hx, ha, he, h2, h3, h4, h5]
end
theorem glen_any (a m b : Nat) (w : World) (h : a ≤ b) (hb : b ≤ 1000000) :
    Calls Tryz.prog 125 #[.agg #[.int .i64 a, .int .i64 m, .int .i64 b]] w fun e w' => e = .returned (.int .i64 ((b - a : Nat) : Int)) ∧ Below w.heap.size w w' := by
  have e1 : ((b - a : Nat) : Int) = (b : Int) - (a : Int) := by omega
  rw [e1]
  have hai : (a : Int) ≤ b := by omega
  have hbi : (b : Int) ≤ 1000000 := by omega
  have h0 : (0 : Int) ≤ a := by omega
  have hb0 := (Below.refl w.heap.size w).alloc (Nat.le_refl _) (.cells #[.int .i64 a, .int .i64 m, .int .i64 b] 176)
  have HB0 := hide hb0
  clear e1 hb0
  go_enter Tryz.func125, Tryz.ntmps125
  go_wp2
  go_ret
  exact ⟨rfl, HB0.out⟩
theorem PrtE.grow {W W' : World} {p n : Nat} {f od pl : Nat → Nat} {gs gs' : List (Nat × Nat × Nat)} {ts : List Nat} {bf bo bp : Nat} {vg vt vg' : Value} (h : PrtE W p n f od pl gs ts bf bo bp vg vt) (ha : AppJ W W' vg vg') (ho : OwnJ grpS W' vg' gs') :
    PrtE (W'.setCell ⟨p, 3, none⟩ vg') p n f od pl gs' ts bf bo bp vg' vt ∧ Kp W (ownP p bf bo bp vg vt) (W'.setCell ⟨p, 3, none⟩ vg') (ownP p bf bo bp vg' vt) := by
  have hpn := h.og.neT h.blk (by decide)
  have hk : ∀ {b c t}, Blk W b c t → vg.ownBlock ≠ some b → Blk W' b c t := fun hb hn => (ha.other _ hb.lt hn).trans hb
  have kb := hk h.blk hpn
  have kf := hk h.kf (h.og.neT h.kf (by decide))
  have ko := hk h.ko (h.og.neT h.ko (by decide))
  have kp := hk h.kp (h.og.neT h.kp (by decide))
  have hpn' : vg'.ownBlock ≠ some p := fun e => by
    rcases ha.own with e2 | e2
    · exact hpn (e2 ▸ e)
    · rw [e2] at e
      injection e with e
      have := h.blk.lt
      omega
  have ot : OwnJ intS W' vt ts := h.ot.other fun g hg hlt => ha.other g hlt fun e => by
    obtain ⟨c, hb⟩ := h.ot.blk hg
    exact h.og.neT hb (by decide) e
  refine ⟨⟨kb.set 3 vg', kf.setOther _ _ (h.kf.ne h.blk (by decide)), ko.setOther _ _ (h.ko.ne h.blk (by decide)), kp.setOther _ _ (h.kp.ne h.blk (by decide)), ho.set hpn', ot.set (h.ot.neT h.blk (by decide)), h.fo, h.fp, h.op, h.tf, h.to', h.tp⟩, ha.os, ha.tape, ha.output, by rw [size_setCell]; exact ha.size, fun k hkl hno => ?_⟩
  have k1 : k ≠ p := fun e => hno (.inl e)
  have k2 : vg.ownBlock ≠ some k := fun e => hno (.inr (.inr (.inr (.inr (.inl e)))))
  refine ⟨(heap_set W' p 3 vg' k1).trans (ha.other k hkl k2), fun h2 => hno ?_⟩
  rcases h2 with h2 | h2 | h2 | h2 | h2 | h2
  · exact .inl h2
  · exact .inr (.inl h2)
  · exact .inr (.inr (.inl h2))
  · exact .inr (.inr (.inr (.inl h2)))
  · rcases ha.own with e2 | e2
    · exact .inr (.inr (.inr (.inr (.inl (e2 ▸ h2)))))
    · rw [e2] at h2
      injection h2 with h2
      omega
  · exact .inr (.inr (.inr (.inr (.inr h2))))
theorem PrtE.congrF {W : World} {p n : Nat} {f f' od pl : Nat → Nat} {gs : List (Nat × Nat × Nat)} {ts : List Nat} {bf bo bp : Nat} {vg vt : Value} (h : PrtE W p n f od pl gs ts bf bo bp vg vt) (hf : ∀ q, q < n → f q = f' q) : PrtE W p n f' od pl gs ts bf bo bp vg vt := by
  refine ⟨h.blk, ?_, h.ko, h.kp, h.og, h.ot, h.fo, h.fp, h.op, h.tf, h.to', h.tp⟩
  have e : (iCells n fun j => ((f' j : Nat) : Int)) = iCells n fun j => ((f j : Nat) : Int) := iCells_congr fun j hj => by rw [hf j hj]
  rw [e]; exact h.kf
def fAdd (pl f : Nat → Nat) (L a i : Nat) : Nat → Nat := fun q => if a ≤ pl q ∧ pl q < a + i then L else f q
set_option maxHeartbeats 4000000 in
theorem add_any {W : World} {p n : Nat} {f od pl : Nat → Nat} {gs : List (Nat × Nat × Nat)} {ts : List Nat} {bf bo bp : Nat} {vg vt : Value} (he : PrtE W p n f od pl gs ts bf bo bp vg vt) (a m b : Nat) (hab : a < b) (hbn : b ≤ n) (hn5 : n ≤ 1000000) (hgl : gs.length ≤ 1000000) (hop : ∀ q, q < n → od (pl q) = q) (hpo : ∀ i, i < n → pl (od i) = i) (hol : ∀ i, i < n → od i < n) :
    Calls Tryz.prog 126 #[PT p, .agg #[.int .i64 a, .int .i64 m, .int .i64 b]] W fun e w' => e = .returned (.tuple #[]) ∧ ∃ vg', PrtE w' p n (fun q => if a ≤ pl q ∧ pl q < b then gs.length else f q) od pl (gs ++ [(a, m, b)]) ts bf bo bp vg' vt ∧ Kp W (ownP p bf bo bp vg vt) w' (ownP p bf bo bp vg' vt) := by
  obtain ⟨ga, gc, rfl, -⟩ := he.og.slice
  obtain ⟨bx, hbx⟩ : ∃ bx, bx = W.heap.size := ⟨_, rfl⟩
  obtain ⟨W0, hW0⟩ : ∃ W0, W.alloc (.cells #[.int .i64 a, .int .i64 m, .int .i64 b] 176) = W0 := ⟨_, rfl⟩
  have hb0 : Below W.heap.size W W0 := by rw [← hW0]; exact (Below.refl _ _).alloc (Nat.le_refl _) _
  have hkx : Blk W0 bx #[.int .i64 a, .int .i64 m, .int .i64 b] 176 := by rw [← hW0]; exact Blk.newAt hbx _ _
  have hX0 : Below W0.heap.size W0 { W0 with drawn := W0.drawn + 1 } := ⟨rfl, rfl, rfl, Nat.le_refl _, fun _ _ => rfl⟩
  have hE0 := (he.keep hb0).keep hX0
  have HE0 := hide hE0
  have HKX := hide (hkx.below hX0 hkx.lt)
  have HK0 := hide ((Kp.of (o := ownP p bf bo bp (.slice ga gs.length gc) vt) hb0).trans (Kp.of (o := ownP p bf bo bp (.slice ga gs.length gc) vt) hX0))
  have hxo : ¬ ownP p bf bo bp (.slice ga gs.length gc) vt bx := fun hown => by
    rcases hown with e | e | e | e | e | e
    · have := he.blk.lt; omega
    · have := he.kf.lt; omega
    · have := he.ko.lt; omega
    · have := he.kp.lt; omega
    · obtain ⟨c, hb⟩ := he.og.blk e; have := hb.lt; omega
    · obtain ⟨c, hb⟩ := he.ot.blk e; have := hb.lt; omega
  have HXO := hide hxo
  clear he hb0 hkx hE0 hxo
  go_enter Tryz.func126, Tryz.ntmps126
  go_wp2
  rw [← hbx]
  try rw [show Value.pointer (some ⟨p, 0, none⟩) = PT p from rfl]
  clear hbx hW0 hX0
  refine wp_region_noPanic (wp_region_held (S := fun X => X.cell? ⟨bx, 0, none⟩ = some (.int .i64 a) ∧ X.cell? ⟨bx, 1, none⟩ = some (.int .i64 m) ∧ X.cell? ⟨bx, 2, none⟩ = some (.int .i64 b)) (by kernel_rfl) ?_)
  show wpAnyH _ _ _ _ _ 11 #[false, false, false, false, false, false, false, false, false, false, false] _ _
  generalize ({ W0 with drawn := W0.drawn + 1 } : World) = Z at HE0 HK0 HKX ⊢
  have hE := HE0.out
  have hkx := HKX.out
  have hS : Z.cell? ⟨bx, 0, none⟩ = some (.int .i64 a) ∧ Z.cell? ⟨bx, 1, none⟩ = some (.int .i64 m) ∧ Z.cell? ⟨bx, 2, none⟩ = some (.int .i64 b) := ⟨hkx.cell 0, hkx.cell 1, hkx.cell 2⟩
  refine h_take 0 (PT p) rfl (by kernel_rfl) (by kernel_rfl) (by kernel_rfl) rfl (fun w hw => x_move _ _ _ _ _ _ _ _ rfl w) hS ?_
  simp only [Act.put, List.setIfInBounds_toArray, List.set_cons_succ, List.set_cons_zero]
  refine h_take 1 (PT p) rfl (by kernel_rfl) (by kernel_rfl) (by kernel_rfl) rfl (fun w hw => x_move _ _ _ _ _ _ _ _ rfl w) hS ?_
  simp only [Act.put, List.setIfInBounds_toArray, List.set_cons_succ, List.set_cons_zero]
  refine h_take 2 (PT p) rfl (by kernel_rfl) (by kernel_rfl) (by kernel_rfl) rfl (fun w hw => x_nilCheck _ _ _ _ _ _ _ _ rfl w) hS ?_
  simp only [Act.put, List.setIfInBounds_toArray, List.set_cons_succ, List.set_cons_zero]
  refine h_take 3 (.pointer (some ⟨p, 3, none⟩)) rfl (by kernel_rfl) (by kernel_rfl) (by kernel_rfl) rfl (fun w hw => x_akF3 _ _ _ _ _ _ _ p rfl w) hS ?_
  simp only [Act.put, List.setIfInBounds_toArray, List.set_cons_succ, List.set_cons_zero]
  refine h_take 5 (.agg #[.int .i64 a, .int .i64 m, .int .i64 b]) rfl (by kernel_rfl) (by kernel_rfl) (by kernel_rfl) rfl (fun w hw => x_ldG _ _ _ _ _ _ _ bx 0 a m b rfl w hw.1 hw.2.1 hw.2.2) hS ?_
  simp only [Act.put, List.setIfInBounds_toArray, List.set_cons_succ, List.set_cons_zero]
  have hc4 := hE.c.2.2.2.1
  obtain ⟨Z1, hZ1⟩ : ∃ Z1, Z.alloc (.cells #[.int .i64 a, .int .i64 m, .int .i64 b] 176) = Z1 := ⟨_, rfl⟩
  have hb1 : Below Z.heap.size Z Z1 := by rw [← hZ1]; exact (Below.refl _ _).alloc (Nat.le_refl _) _
  have hk1 : Blk Z1 Z.heap.size #[.int .i64 a, .int .i64 m, .int .i64 b] 176 := by rw [← hZ1]; exact Blk.newAt rfl _ _
  have hE1 := hE.keep hb1
  have hkx1 := hkx.below hb1 hkx.lt
  have hS1 : Z1.cell? ⟨bx, 0, none⟩ = some (.int .i64 a) ∧ Z1.cell? ⟨bx, 1, none⟩ = some (.int .i64 m) ∧ Z1.cell? ⟨bx, 2, none⟩ = some (.int .i64 b) := ⟨hkx1.cell 0, hkx1.cell 1, hkx1.cell 2⟩
  refine h_ldmk 4 6 (.slice ga gs.length gc) (.slice (some ⟨Z.heap.size, 0, none⟩) 1 1) Z1 rfl rfl (by kernel_rfl) (by kernel_rfl) (by kernel_rfl) rfl rfl rfl rfl
    (x_ldGs _ _ _ _ _ _ _ p 3 _ rfl Z hc4) (x_ldGs _ _ _ _ _ _ _ p 3 _ rfl Z1 hE1.c.2.2.2.1) (by rw [← hZ1]; exact x_bsG _ _ _ _ _ _ _ a m b rfl Z) (by rw [← hZ1]; exact x_bsG _ _ _ _ _ _ _ a m b rfl Z) hS hS1 rfl rfl ?_
  simp only [Act.put, List.setIfInBounds_toArray, List.set_cons_succ, List.set_cons_zero]
  obtain ⟨vg', W', hr7, ho, ha⟩ := run_appendJ (S := grpS) (W := Z1) (v := .slice ga gs.length gc) (l := gs) 143 143 (.agg #[.int .i64 0, .int .i64 0, .int .i64 0]) 24 Tryz.underlying143 (by kernel_rfl) rfl (by omega) hE1.og ⟨Z.heap.size, 0, none⟩ 1 (a, m, b) (fun j u hj => by
    rw [Go.WideShapes.add_plain, Nat.zero_add, hk1.cell, ← hj]
    show _ = ([Value.int .i64 a, Value.int .i64 m, Value.int .i64 b] : List Value)[j]?
    simp) (by omega)
  obtain ⟨va, vc, hv', -⟩ := ho.slice
  have ht := hE1.grow ha ho
  have hpn := hE1.og.neT hE1.blk (by decide)
  have hbp : Blk W' p _ 145 := (ha.other p hE1.blk.lt hpn).trans hE1.blk
  have hxg : (Value.slice ga gs.length gc).ownBlock ≠ some bx := fun e => HXO.out (.inr (.inr (.inr (.inr (.inl e)))))
  have hbx' : Blk W' bx _ 176 := (ha.other bx hkx1.lt hxg).trans hkx1
  have hxp : bx ≠ p := fun e => HXO.out (.inl e)
  have hS := (⟨hbx'.cell 0, hbx'.cell 1, hbx'.cell 2⟩ : W'.cell? ⟨bx, 0, none⟩ = some (.int .i64 a) ∧ W'.cell? ⟨bx, 1, none⟩ = some (.int .i64 m) ∧ W'.cell? ⟨bx, 2, none⟩ = some (.int .i64 b))
  have hbx2 := hbx'.setOther ⟨p, 3, none⟩ vg' hxp
  refine h_oper 7 rfl (by kernel_rfl) rfl (wp_append_runX _ _ _ rfl _ _ _ rfl rfl hr7 ⟨hS, ?_⟩)
  simp only [Act.put, List.setIfInBounds_toArray, List.set_cons_succ, List.set_cons_zero]
  refine h_take 8 (PT p) rfl (by kernel_rfl) (by kernel_rfl) (by kernel_rfl) rfl (fun w hw => x_nilCheck _ _ _ _ _ _ _ _ rfl w) hS ?_
  simp only [Act.put, List.setIfInBounds_toArray, List.set_cons_succ, List.set_cons_zero]
  refine h_take 9 (.pointer (some ⟨p, 3, none⟩)) rfl (by kernel_rfl) (by kernel_rfl) (by kernel_rfl) rfl (fun w hw => x_akF3 _ _ _ _ _ _ _ p rfl w) hS ?_
  simp only [Act.put, List.setIfInBounds_toArray, List.set_cons_succ, List.set_cons_zero]
  refine h_step 10 _ rfl (by kernel_rfl) rfl (x_stGs _ _ _ _ _ _ _ _ p 3 vg' _ va _ vc hv' rfl rfl W' (hbp.cell 3) (hbp.frozen 3)) ⟨hbx2.cell 0, hbx2.cell 1, hbx2.cell 2⟩ ?_
  simp only [Act.put, List.setIfInBounds_toArray, List.set_cons_succ, List.set_cons_zero]
  refine wpAnyH_done (by kernel_rfl) ?_ _
  refine NoPanic.normal ?_
  have HE2 := hide ht.1
  have HK2 := hide ((HK0.out.trans (Kp.of (o := ownP p bf bo bp (.slice ga gs.length gc) vt) hb1)).trans ht.2)
  have HX2 := hide hbx2
  obtain ⟨L, hL⟩ : ∃ L, gs.length = L := ⟨_, rfl⟩
  have hvl : vg' = .slice va (L + 1) vc := by rw [hv', List.length_append, hL]; rfl
  have HXO2 := hide (ht.2.out bx hkx1.lt HXO.out).2
  have HL := hide hL
  have HHV := hide hvl
  rw [hvl] at HE2 HK2 HX2 HXO2 ⊢
  generalize W'.setCell ⟨p, 3, none⟩ (.slice va (L + 1) vc) = Z3 at HE2 HK2 HX2 ⊢
  obtain ⟨D, hD⟩ : ∃ D, b - a = D := ⟨_, rfl⟩
  have hDb : a + D = b := by omega
  have HDB := hide hDb
  have hL5 : L ≤ 1000000 := by omega
  obtain ⟨A, hA⟩ : ∃ A : World → Prop, A = fun U => Below Z3.heap.size Z3 U := ⟨_, rfl⟩
  have hab' : ∀ U, A U → Below Z3.heap.size Z3 U := fun U h => by rw [hA] at h; exact h
  have HAB := hide hab'
  have HRA : Hid (∀ U, A U → U.cell? ⟨p, 1, none⟩ = some (.slice (some ⟨bo, 0, none⟩) n n) ∧ U.cell? ⟨bx, 0, none⟩ = some (.int .i64 a) ∧ U.cell? ⟨bx, 2, none⟩ = some (.int .i64 b)) := fun U hU => by
    have hE := HE2.out.keep (hab' U hU)
    have hx := HX2.out.below (hab' U hU) HX2.out.lt
    exact ⟨hE.c.2.1, hx.cell 0, hx.cell 2⟩
  have HA0 : Hid (A { Z3 with drawn := Z3.drawn + 1 }) := by rw [hA]; exact ⟨rfl, rfl, rfl, Nat.le_refl _, fun _ _ => rfl⟩
  clear hS hE hkx hE1 hkx1 hS1 hb1 hk1 hc4 hZ1 hr7 ho ha ht hbp hxg hbx' hxp hbx2 HE0 HK0 HKX hv' hvl hL hab' hA hDb
  go_wp2
  refine w_lit (C := A) (by kernel_rfl) (by kernel_rfl) HA0.out ?_
  have hr := HRA.out
  refine w_value (PT p) (by kernel_rfl) (fun w hw => x_move _ _ _ _ _ _ _ _ rfl w) ?_
  simp only [Act.put, List.setIfInBounds_toArray, List.set_cons_succ, List.set_cons_zero]
  refine w_value (PT p) (by kernel_rfl) (fun w hw => x_nilCheck _ _ _ _ _ _ _ _ rfl w) ?_
  simp only [Act.put, List.setIfInBounds_toArray, List.set_cons_succ, List.set_cons_zero]
  refine w_value (.pointer (some ⟨p, 1, none⟩)) (by kernel_rfl) (fun w hw => x_akF1 _ _ _ _ _ _ _ p rfl w) ?_
  simp only [Act.put, List.setIfInBounds_toArray, List.set_cons_succ, List.set_cons_zero]
  refine w_value (.slice (some ⟨bo, 0, none⟩) n n) (by kernel_rfl) (fun w hw => x_ldIs _ _ _ _ _ _ _ p 1 (.slice (some ⟨bo, 0, none⟩) n n) rfl w ((hr w hw).1)) ?_
  simp only [Act.put, List.setIfInBounds_toArray, List.set_cons_succ, List.set_cons_zero]
  refine w_value (.pointer (some ⟨bx, 0, none⟩)) (by kernel_rfl) (fun w hw => x_gF0 _ _ _ _ _ _ _ bx 0 rfl w) ?_
  simp only [Act.put, List.setIfInBounds_toArray, List.set_cons_succ, List.set_cons_zero]
  refine w_value (.int .i64 a) (by kernel_rfl) (fun w hw => x_ldI _ _ _ _ _ _ _ bx 0 a rfl w ((hr w hw).2.1)) ?_
  simp only [Act.put, List.setIfInBounds_toArray, List.set_cons_succ, List.set_cons_zero]
  refine w_value (.pointer (some ⟨bx, 2, none⟩)) (by kernel_rfl) (fun w hw => x_gF2 _ _ _ _ _ _ _ bx 0 rfl w) ?_
  simp only [Act.put, List.setIfInBounds_toArray, List.set_cons_succ, List.set_cons_zero]
  refine w_value (.int .i64 b) (by kernel_rfl) (fun w hw => x_ldI _ _ _ _ _ _ _ bx 2 b rfl w ((hr w hw).2.2)) ?_
  simp only [Act.put, List.setIfInBounds_toArray, List.set_cons_succ, List.set_cons_zero]
  refine w_value (.slice (some ⟨bo, a, none⟩) (b - a) (n - a)) (by kernel_rfl) (fun w hw => x_slI _ _ _ _ _ _ _ bo n a b hab hbn _ _ rfl rfl rfl w) ?_
  simp only [Act.put, List.setIfInBounds_toArray, List.set_cons_succ, List.set_cons_zero]
  refine w_value (.int .i64 (b - a : Nat)) (by kernel_rfl) (fun w hw => x_lenI _ _ _ _ _ _ _ _ _ _ rfl w) ?_
  simp only [Act.put, List.setIfInBounds_toArray, List.set_cons_succ, List.set_cons_zero]
  refine w_value (.int .i64 0) (by kernel_rfl) (fun w hw => x_move _ _ _ _ _ _ _ _ rfl w) ?_
  simp only [Act.put, List.setIfInBounds_toArray, List.set_cons_succ, List.set_cons_zero]
  refine w_nil ?_
  intro V hV
  have hVZ := HAB.out V hV
  have HE3 := hide (HE2.out.keep hVZ)
  have HK3 := hide (HK2.out.trans (Kp.of (o := ownP p bf bo bp (.slice va (L + 1) vc) vt) hVZ))
  clear hr hVZ hV HRA HA0 HAB
  rw [hD]
  clear hD
  go_wp2
  go_loopw [26] (fun iv wr => ∃ i : Nat, iv = .int .i64 i ∧ i ≤ D ∧ Hid (PrtE wr p n (fAdd pl f L a i) od pl (gs ++ [(a, m, b)]) ts bf bo bp (.slice va (L + 1) vc) vt) ∧ Hid (Kp W (ownP p bf bo bp (.slice ga gs.length gc) vt) wr (ownP p bf bo bp (.slice va (L + 1) vc) vt))) (fun iv _ => D - (intOf iv).toNat)
  case atStart =>
    refine ⟨0, rfl, Nat.zero_le _, ?_, HK3.out⟩
    exact HE3.out.congrF fun q hq => by unfold fAdd; rw [if_neg (by omega)]
  case round =>
    obtain ⟨i, rfl, hi, HE4, HK4⟩ := hrel
    by_cases hlt : i < D
    · have di : decide ((i : Int) < (D : Int)) = true := by simp; omega
      have di2 : decide (i < D) = true := decide_eq_true hlt
      have hain : a + i < n := by have := HDB.out; omega
      have hcell := HE4.out.ko.cI hain
      obtain ⟨q, hq⟩ : ∃ q, od (a + i) = q := ⟨_, rfl⟩
      rw [hq] at hcell
      have hqn : q < n := by rw [← hq]; exact hol _ hain
      have hpq : pl q = a + i := by rw [← hq]; exact hpo _ hain
      have HQ := hide hpq
      have hX0 : Below wr.heap.size wr { wr with drawn := wr.drawn + 1 } := ⟨rfl, rfl, rfl, Nat.le_refl _, fun _ _ => rfl⟩
      have HE5 := hide (HE4.out.keep hX0)
      have HK5 := hide (HK4.out.trans (Kp.of (o := ownP p bf bo bp (.slice va (L + 1) vc) vt) hX0))
      clear hX0 hq hpq
      go_wp2
      refine wp_region_noPanic (wp_region_held (S := fun X => X.cell? ⟨p, 0, none⟩ = some (.slice (some ⟨bf, 0, none⟩) n n) ∧ X.cell? ⟨p, 3, none⟩ = some (.slice va (L + 1) vc)) (by kernel_rfl) ?_)
      show wpAnyH _ _ _ _ _ 13 #[false, false, false, false, false, false, false, false, false, false, false, false, false] _ _
      generalize ({ wr with drawn := wr.drawn + 1 } : World) = Z5 at HE5 HK5 ⊢
      have hE := HE5.out
      have hS : Z5.cell? ⟨p, 0, none⟩ = some (.slice (some ⟨bf, 0, none⟩) n n) ∧ Z5.cell? ⟨p, 3, none⟩ = some (.slice va (L + 1) vc) := ⟨hE.c.1, hE.c.2.2.2.1⟩
      refine h_take 0 (PT p) rfl (by kernel_rfl) (by kernel_rfl) (by kernel_rfl) rfl (fun w hw => x_move _ _ _ _ _ _ _ _ rfl w) hS ?_
      simp only [Act.put, List.setIfInBounds_toArray, List.set_cons_succ, List.set_cons_zero]
      refine h_take 1 (PT p) rfl (by kernel_rfl) (by kernel_rfl) (by kernel_rfl) rfl (fun w hw => x_nilCheck _ _ _ _ _ _ _ _ rfl w) hS ?_
      simp only [Act.put, List.setIfInBounds_toArray, List.set_cons_succ, List.set_cons_zero]
      refine h_take 2 (PT p) rfl (by kernel_rfl) (by kernel_rfl) (by kernel_rfl) rfl (fun w hw => x_akF0 _ _ _ _ _ _ _ p rfl w) hS ?_
      simp only [Act.put, List.setIfInBounds_toArray, List.set_cons_succ, List.set_cons_zero]
      refine h_take 3 (.slice (some ⟨bf, 0, none⟩) n n) rfl (by kernel_rfl) (by kernel_rfl) (by kernel_rfl) rfl (fun w hw => x_ldIs _ _ _ _ _ _ _ p 0 (.slice (some ⟨bf, 0, none⟩) n n) rfl w (hw.1)) hS ?_
      simp only [Act.put, List.setIfInBounds_toArray, List.set_cons_succ, List.set_cons_zero]
      refine h_take 4 (.int .i64 q) rfl (by kernel_rfl) (by kernel_rfl) (by kernel_rfl) rfl (fun w hw => x_move _ _ _ _ _ _ _ _ rfl w) hS ?_
      simp only [Act.put, List.setIfInBounds_toArray, List.set_cons_succ, List.set_cons_zero]
      refine h_take 5 (PT p) rfl (by kernel_rfl) (by kernel_rfl) (by kernel_rfl) rfl (fun w hw => x_move _ _ _ _ _ _ _ _ rfl w) hS ?_
      simp only [Act.put, List.setIfInBounds_toArray, List.set_cons_succ, List.set_cons_zero]
      refine h_take 6 (PT p) rfl (by kernel_rfl) (by kernel_rfl) (by kernel_rfl) rfl (fun w hw => x_nilCheck _ _ _ _ _ _ _ _ rfl w) hS ?_
      simp only [Act.put, List.setIfInBounds_toArray, List.set_cons_succ, List.set_cons_zero]
      refine h_take 7 (.pointer (some ⟨p, 3, none⟩)) rfl (by kernel_rfl) (by kernel_rfl) (by kernel_rfl) rfl (fun w hw => x_akF3 _ _ _ _ _ _ _ p rfl w) hS ?_
      simp only [Act.put, List.setIfInBounds_toArray, List.set_cons_succ, List.set_cons_zero]
      refine h_take 8 (.slice va (L + 1) vc) rfl (by kernel_rfl) (by kernel_rfl) (by kernel_rfl) rfl (fun w hw => x_ldGs _ _ _ _ _ _ _ p 3 (.slice va (L + 1) vc) rfl w (hw.2)) hS ?_
      simp only [Act.put, List.setIfInBounds_toArray, List.set_cons_succ, List.set_cons_zero]
      refine h_take 9 (.int .i64 (L + 1 : Nat)) rfl (by kernel_rfl) (by kernel_rfl) (by kernel_rfl) rfl (fun w hw => x_lenG _ _ _ _ _ _ _ _ _ _ rfl w) hS ?_
      simp only [Act.put, List.setIfInBounds_toArray, List.set_cons_succ, List.set_cons_zero]
      refine h_take 10 (.int .i64 (L + 1 - 1 : Nat)) rfl (by kernel_rfl) (by kernel_rfl) (by kernel_rfl) rfl (fun w hw => x_sub1A _ _ _ _ _ _ _ (L + 1) (by omega) (by omega) rfl rfl w) hS ?_
      simp only [Act.put, List.setIfInBounds_toArray, List.set_cons_succ, List.set_cons_zero]
      refine h_take 11 (.pointer (some ⟨bf, q, none⟩)) rfl (by kernel_rfl) (by kernel_rfl) (by kernel_rfl) rfl (fun w hw => x_iIdx _ _ _ _ _ _ _ _ bf q n n (hqn) rfl rfl w) hS ?_
      simp only [Act.put, List.setIfInBounds_toArray, List.set_cons_succ, List.set_cons_zero]
      have e1 := hE.setF q L
      refine h_step 12 _ rfl (by kernel_rfl) rfl (x_stI _ _ _ _ _ _ _ _ bf q (L : Nat) _ rfl rfl _ (hE.kf.cI hqn) (hE.kf.frozen q)) ⟨e1.c.1, e1.c.2.2.2.1⟩ ?_
      simp only [Act.put, List.setIfInBounds_toArray, List.set_cons_succ, List.set_cons_zero]
      refine wpAnyH_done (by kernel_rfl) ?_ _
      refine NoPanic.normal ?_
      have HE6 : Hid (PrtE (Z5.setCell ⟨bf, q, none⟩ (.int .i64 (L : Nat))) p n (fAdd pl f L a (i + 1)) od pl (gs ++ [(a, m, b)]) ts bf bo bp (.slice va (L + 1) vc) vt) := e1.congrF fun r hr => by
        have h1 := hop r hr
        have h2 := hop q hqn
        have h3 := HQ.out
        unfold updN fAdd
        by_cases e : r = q
        · subst e; rw [if_pos rfl, if_pos (by omega)]
        · have h4 : pl r ≠ pl q := fun e2 => e (by rw [← h1, ← h2, e2])
          rw [if_neg e]
          by_cases e3 : a ≤ pl r ∧ pl r < a + i
          · rw [if_pos e3, if_pos (by omega)]
          · rw [if_neg e3, if_neg (by omega)]
      have HK6 := hide (HK5.out.trans (Kp.set (W := Z5) bf q (.int .i64 (L : Nat)) (.inr (.inl rfl))))
      clear hS hE e1 HE5 HK5
      go_wp2
      exact ⟨⟨i + 1, by go_num, hlt, HE6.out, HK6.out⟩, by simp [intOf]; omega⟩
    · have di : decide ((i : Int) < (D : Int)) = false := by simp; omega
      obtain rfl : i = D := by omega
      have HE7 := hide (HE4.out.congrF (f' := fun q => if a ≤ pl q ∧ pl q < b then gs.length else f q) fun q hq => by
        unfold fAdd
        rw [HDB.out, HL.out])
      go_wp2
      exact ⟨rfl, .tuple #[], by simp [results, Tryz.results126, go_sem], rfl, _, HE7.out, HK4.out⟩
end Go.Proofs.YtjcfnmjjkadaeaaGreatDoor
