/- More operations of a quiet walk: bools, indexes, conversions. -/
import Derived.Test.YtfoamihjmmgnlaaDoorQuiet
import Derived.Test.YtfoamihjmmgnlaaDoorSetF
namespace Go.Proofs.YtfoamihjmmgnlaaDoor
set_option maxRecDepth 100000
open Go.RowKit

theorem x_convU8 (ρ : Operand → Value) (d : Option Tmp) (x : Operand) (t : TypeId) (pos : String) (af : Array Edge) (g : Option (Nat × Bool)) (n : Int) (hx : ρ x = .int .i64 n) (h0 : 0 ≤ n) (h1 : n < 256) (w : World) :
    (execOp ρ { dst := d, op := .convert 3 5 x, type := t, pos := pos, after := af, guard := g }).run Tryd.prog w = .ok (.value (.int .u8 n)) w := by
  have e : IntKind.u8.wrap n = n := by simp [IntKind.wrap, IntKind.signed, IntKind.bits]; omega
  simp [go_sem, hx, e]
theorem x_convInt (ρ : Operand → Value) (d : Option Tmp) (x : Operand) (t : TypeId) (pos : String) (af : Array Edge) (g : Option (Nat × Bool)) (n : Int) (hx : ρ x = .int .u8 n) (h0 : 0 ≤ n) (h1 : n < 256) (w : World) :
    (execOp ρ { dst := d, op := .convert 5 3 x, type := t, pos := pos, after := af, guard := g }).run Tryd.prog w = .ok (.value (.int .i64 n)) w := by
  have e : IntKind.i64.wrap n = n := by rw [IntKind.wrap_i64]; omega
  simp [go_sem, hx, e]
theorem x_idx (ρ : Operand → Value) (d : Option Tmp) (x y : Operand) (t : TypeId) (pos : String) (af : Array Edge) (g : Option (Nat × Bool)) (b len cap : Nat) (n : Nat) (hx : ρ x = .slice (some ⟨b, 0, none⟩) len cap) (hy : ρ y = .int .i64 n) (h1 : n < len) (w : World) :
    (execOp ρ { dst := d, op := .indexAddr 26 x y, type := t, pos := pos, after := af, guard := g }).run Tryd.prog w = .ok (.value (.pointer (some ⟨b, n, none⟩))) w := by
  simp [go_sem, hx, hy, h1]
theorem x_loadBool (ρ : Operand → Value) (d : Option Tmp) (x : Operand) (t : TypeId) (pos : String) (af : Array Edge) (g : Option (Nat × Bool)) (b n : Nat) (v : Bool) (hx : ρ x = .pointer (some ⟨b, n, none⟩)) (w : World) (hc : w.cell? ⟨b, n, none⟩ = some (.bool v)) :
    (execOp ρ { dst := d, op := .load 4 x, type := t, pos := pos, after := af, guard := g }).run Tryd.prog w = .ok (.value (.bool v)) w := by
  simp [go_sem, hx, hc]
theorem x_neqBool (ρ : Operand → Value) (d : Option Tmp) (x y : Operand) (t : TypeId) (pos : String) (af : Array Edge) (g : Option (Nat × Bool)) (u v : Bool) (hx : ρ x = .bool u) (hy : ρ y = .bool v) (w : World) :
    (execOp ρ { dst := d, op := .binOp .neq 4 x y 4, type := t, pos := pos, after := af, guard := g }).run Tryd.prog w = .ok (.value (.bool (u != v))) w := by
  cases u <;> cases v <;> simp [go_sem, hx, hy]
theorem x_eqBool (ρ : Operand → Value) (d : Option Tmp) (x y : Operand) (t : TypeId) (pos : String) (af : Array Edge) (g : Option (Nat × Bool)) (u v : Bool) (hx : ρ x = .bool u) (hy : ρ y = .bool v) (w : World) :
    (execOp ρ { dst := d, op := .binOp .eql 4 x y 4, type := t, pos := pos, after := af, guard := g }).run Tryd.prog w = .ok (.value (.bool (u == v))) w := by
  simp [go_sem, hx, hy]
theorem x_gtrInt (ρ : Operand → Value) (d : Option Tmp) (x y : Operand) (t : TypeId) (pos : String) (af : Array Edge) (g : Option (Nat × Bool)) (u v : Int) (hx : ρ x = .int .i64 u) (hy : ρ y = .int .i64 v) (w : World) :
    (execOp ρ { dst := d, op := .binOp .gtr 3 x y 3, type := t, pos := pos, after := af, guard := g }).run Tryd.prog w = .ok (.value (.bool (decide (v < u)))) w := by
  simp [go_sem, hx, hy]
theorem x_notBool (ρ : Operand → Value) (d : Option Tmp) (x : Operand) (t : TypeId) (pos : String) (af : Array Edge) (g : Option (Nat × Bool)) (u : Bool) (hx : ρ x = .bool u) (w : World) :
    (execOp ρ { dst := d, op := .unOp .not 4 x, type := t, pos := pos, after := af, guard := g }).run Tryd.prog w = .ok (.value (.bool (!u))) w := by
  simp [go_sem, hx]

theorem x_max (ρ : Operand → Value) (d : Option Tmp) (x y : Operand) (t : TypeId) (pos : String) (af : Array Edge) (g : Option (Nat × Bool)) (u v : Int) (hx : ρ x = .int .i64 u) (hy : ρ y = .int .i64 v) (w : World) :
    (execOp ρ { dst := d, op := .call { callee := .builtin .max, args := #[x, y], argTypes := #[3, 3] }, type := t, pos := pos, after := af, guard := g }).run Tryd.prog w = .ok (.value (.int .i64 (max u v))) w := by
  simp [go_sem, hx, hy]
  rw [Int.max_def]; split <;> split <;> omega

/-- 256 bools. -/
def bArr (f : Nat → Bool) : Array Value := (Array.range 256).map fun i => .bool (f i)
theorem bArr_get (f : Nat → Bool) (i : Nat) (h : i < 256) : (bArr f)[i]? = some (.bool (f i)) := by
  simp [bArr, h]
theorem bArr_set (f : Nat → Bool) (i : Nat) (v : Bool) (h : i < 256) : (bArr f).setIfInBounds i (.bool v) = bArr (fun j => if j = i then v else f j) := by
  apply Array.ext_getElem?
  intro j
  by_cases hj : j < 256
  · rw [bArr_get _ j hj]
    by_cases e : i = j
    · subst e
      rw [Array.getElem?_setIfInBounds_self_of_lt (by simp [bArr, h])]; simp
    · rw [Array.getElem?_setIfInBounds_ne e, bArr_get f j hj, if_neg (fun h => e h.symm)]
  · have s1 : ((bArr f).setIfInBounds i (.bool v)).size ≤ j := by simp [bArr]; omega
    have s2 : (bArr (fun j => if j = i then v else f j)).size ≤ j := by simp [bArr]; omega
    rw [Array.getElem?_eq_none s1, Array.getElem?_eq_none s2]
theorem bArr_congr {f g : Nat → Bool} (h : ∀ i, i < 256 → f i = g i) : bArr f = bArr g := by
  apply Array.ext_getElem?
  intro j
  by_cases hj : j < 256
  · rw [bArr_get _ j hj, bArr_get _ j hj, h j hj]
  · rw [Array.getElem?_eq_none (by simp [bArr]; omega), Array.getElem?_eq_none (by simp [bArr]; omega)]
theorem bArr_zero : bArr (fun _ => false) = Array.replicate 256 (.bool false) := by
  apply Array.ext_getElem?
  intro j
  by_cases hj : j < 256
  · rw [bArr_get _ j hj]; simp [hj]
  · rw [Array.getElem?_eq_none (by simp [bArr]; omega), Array.getElem?_eq_none (by simp; omega)]

theorem infoBool : (Tryd.prog.info? 4).map (fun i => (i.zero, i.size, i.bytes)) = some (some (.bool false), 1, 1) := by kernel_rfl
theorem mkB (w : World) : (Instr.makeSlice 26 (.int .i64 256) (.int .i64 256)).run Tryd.prog w = .ok (.slice (some ⟨w.heap.size, 0, none⟩) 256 256) (w.alloc (.cells (bArr fun _ => false) 4)) := by
  obtain ⟨i, hi, hz0, hz1, hz2⟩ := info_parts infoBool
  have h := run_make (P := Tryd.prog) w 26 4 i (.bool false) Tryd.underlying26 hi hz0 .i64 .i64 256 256 (by omega) (by omega) (by rw [hz2]; omega) (by omega)
  rw [h, hz1]
  congr 3
  rw [bArr_zero]
  apply Array.ext_getElem?
  intro j
  by_cases hj : j < 256 <;> simp [madeCells, Value.cells, hj, Nat.mod_one]

set_option maxRecDepth 100000 in
set_option maxHeartbeats 400000 in
theorem bools_any (s : BitVec 256) (w : World) :
    Calls Tryd.prog 15 #[SV s] w fun e w' => e = .returned (.slice (some ⟨w.heap.size + 1, 0, none⟩) 256 256) ∧ Below w.heap.size w w' ∧ Blk w' (w.heap.size + 1) (bArr s.getLsbD) 4 := by
  have hmk := mkB
  go_enter Tryd.func15, Tryd.ntmps15
  go_wp2
  clear hmk
  go_loopw [4] (fun i wr => ∃ k : Nat, k ≤ 256 ∧ i = .int .i64 k ∧ Blk wr w.heap.size (WS s) 24 ∧ Blk wr (w.heap.size + 1) (bArr fun j => decide (j < k) && s.getLsbD j) 4 ∧ Below w.heap.size w wr) (fun i _ => 256 - (intOf i).toNat)
  case atStart =>
    refine ⟨0, by omega, rfl, (Blk.newAt rfl _ _).alloc _, ?_, ((Below.refl _ _).alloc (Nat.le_refl _) _).alloc (by simp) _⟩
    have := Blk.newAt (w := w.alloc (.cells (WS s) 24)) (n := w.heap.size + 1) (by simp) (bArr fun _ => false) 4
    simpa using this
  case round =>
    obtain ⟨k, hk, rfl, hs, hB, hbel⟩ := hrel
    by_cases hlt : k < 256
    · have e1 : ((k : Int) / 64).toNat = k / 64 := by omega
      have e2 : ((k : Int) % 64).toNat = k % 64 := by omega
      have hw := hs.cell (k / 64)
      rw [WS_get s _ (by omega)] at hw
      have hc := hB.cell k
      rw [bArr_get _ k hlt, show (decide (k < k) && s.getLsbD k) = false from by simp] at hc
      have hf := hB.frozen k
      go_wp2
      have hfm := has_form s (k : Int) (by omega) (by omega)
      rw [e1, e2, Int.toNat_natCast] at hfm
      rw [hfm]
      refine ⟨⟨k + 1, by omega, by go_num, hs.setOther _ _ (by simp), ?_, hbel.setCell (by simp) _⟩, by simp [intOf]; omega⟩
      have h2 := hB.set k (.bool (s.getLsbD k))
      rw [bArr_set _ k _ hlt] at h2
      rw [bArr_congr (g := fun j => if j = k then s.getLsbD k else (decide (j < k) && s.getLsbD j)) (fun j _ => by
        by_cases e : j = k
        · subst e; simp
        · have : (j < k + 1) = (j < k) := by apply propext; omega
          simp [e, this])]
      exact h2
    · obtain rfl : k = 256 := by omega
      go_wp2
      go_ret
      refine ⟨rfl, hbel, ?_⟩
      rw [bArr_congr (g := fun j => decide (j < 256) && s.getLsbD j) (fun j hj => by simp [hj])]
      exact hB

/-- Is a set just that? -/
def sameB (s : BitVec 256) (f : Nat → Bool) : Bool := (List.range 256).all fun i => s.getLsbD i == f i
theorem sameB_iff (s : BitVec 256) (f : Nat → Bool) : sameB s f = true ↔ ∀ i, i < 256 → s.getLsbD i = f i := by simp [sameB]
theorem sameB_true {s : BitVec 256} {f : Nat → Bool} (h : ∀ i, i < 256 → s.getLsbD i = f i) : sameB s f = true := (sameB_iff s f).2 h
theorem sameB_false {s : BitVec 256} {f : Nat → Bool} (i : Nat) (hi : i < 256) (h : ¬ s.getLsbD i = f i) : sameB s f = false := by
  rw [Bool.eq_false_iff]; intro e; exact h ((sameB_iff s f).1 e i hi)

/-- The worlds in which a set lies in its box, and bools in their block. -/
structure Cs (s : BitVec 256) (B b : Nat) (f : Nat → Bool) (w W : World) : Prop where
  s0 : Blk W B (WS s) 24
  f0 : Blk W b (bArr f) 4
  below : Below w.heap.size w W
theorem Cs.step {s : BitVec 256} {B b : Nat} {f : Nat → Bool} {w W W' : World} (h : Cs s B b f w W) (hb : Below W.heap.size W W') : Cs s B b f w W' :=
  ⟨h.s0.below hb h.s0.lt, h.f0.below hb h.f0.lt, h.below.trans (hb.mono h.below.size)⟩
theorem Cs.drew {s : BitVec 256} {B b : Nat} {f : Nat → Bool} {w W : World} (h : Cs s B b f w W) : Cs s B b f w { W with drawn := W.drawn + 1 } := ⟨h.s0, h.f0, ⟨h.below.os, h.below.tape, h.below.output, h.below.size, h.below.block⟩⟩

set_option maxRecDepth 100000 in
set_option maxHeartbeats 1000000 in
theorem same_any (s : BitVec 256) (f : Nat → Bool) (b : Nat) (w : World) (hb : Blk w b (bArr f) 4) :
    Calls Tryd.prog 17 #[SV s, .slice (some ⟨b, 0, none⟩) 256 256] w fun e w' => e = .returned (.bool (sameB s f)) ∧ Below w.heap.size w w' := by
  have hbl := hb.lt
  have hG : Grows (Cs s w.heap.size b f w) := fun W W' h hb => h.step hb
  go_enter Tryd.func17, Tryd.ntmps17
  go_wp2
  go_loopw [5] (fun i wr => ∃ k : Nat, k ≤ 256 ∧ i = .int .i64 k ∧ (∀ j, j < k → s.getLsbD j = f j) ∧ Cs s w.heap.size b f w wr) (fun i _ => 256 - (intOf i).toNat)
  case atStart => exact ⟨0, by omega, rfl, fun j hj => by omega, Blk.newAt rfl _ _, hb.alloc _, (Below.refl _ _).alloc (Nat.le_refl _) _⟩
  case round =>
    obtain ⟨k, hk, rfl, hj, hC⟩ := hrel
    have HJ := hide hj
    clear hj
    by_cases hlt : k < 256
    · go_wp2
      refine quiet_lit (C := Cs s w.heap.size b f w) (by kernel_rfl) (by kernel_rfl) hC.drew ?_
      refine q_want rfl fun K hK => q_value (SV s) (fun w hw => x_loadSet _ _ _ _ _ _ _ _ s rfl w hw.s0) ?_
      simp only [Act.put, List.setIfInBounds_toArray, List.set_cons_succ, List.set_cons_zero]
      refine hK _ ?_
      clear hK K
      refine q_want rfl fun K hK => q_value (.int .i64 k) (fun w _ => x_move _ _ _ _ _ _ _ _ rfl w) ?_
      simp only [Act.put, List.setIfInBounds_toArray, List.set_cons_succ, List.set_cons_zero]
      refine hK _ ?_
      clear hK K
      refine q_want rfl fun K hK => q_value (.int .u8 k) (fun w _ => x_convU8 _ _ _ _ _ _ _ k rfl (by omega) (by omega) w) ?_
      simp only [Act.put, List.setIfInBounds_toArray, List.set_cons_succ, List.set_cons_zero]
      refine hK _ ?_
      clear hK K
      refine q_want rfl fun K hK => q_call hG 32 #[SV s, .int .u8 k] (.bool (s.getLsbD k)) (x_call2 _ _ _ _ _ _ _ _ _ _ _ _ _ rfl rfl rfl (enters_of Tryd.func32 (by kernel_rfl) rfl)) (fun w _ => by have h := has_any s (k : Int) (by omega) (by omega) w; rw [Int.toNat_natCast] at h; exact h) ?_
      simp only [Act.put, List.setIfInBounds_toArray, List.set_cons_succ, List.set_cons_zero]
      refine hK _ ?_
      clear hK K
      refine q_want rfl fun K hK => q_value (.slice (some ⟨b, 0, none⟩) 256 256) (fun w _ => x_move _ _ _ _ _ _ _ _ rfl w) ?_
      simp only [Act.put, List.setIfInBounds_toArray, List.set_cons_succ, List.set_cons_zero]
      refine hK _ ?_
      clear hK K
      refine q_want rfl fun K hK => q_value (.int .i64 k) (fun w _ => x_move _ _ _ _ _ _ _ _ rfl w) ?_
      simp only [Act.put, List.setIfInBounds_toArray, List.set_cons_succ, List.set_cons_zero]
      refine hK _ ?_
      clear hK K
      refine q_want rfl fun K hK => q_value (.pointer (some ⟨b, k, none⟩)) (fun w _ => x_idx _ _ _ _ _ _ _ _ b 256 256 k rfl rfl hlt w) ?_
      simp only [Act.put, List.setIfInBounds_toArray, List.set_cons_succ, List.set_cons_zero]
      refine hK _ ?_
      clear hK K
      refine q_want rfl fun K hK => q_value (.bool (f k)) (fun w hw => x_loadBool _ _ _ _ _ _ _ b k (f k) rfl w (by rw [hw.f0.cell, bArr_get f k hlt])) ?_
      simp only [Act.put, List.setIfInBounds_toArray, List.set_cons_succ, List.set_cons_zero]
      refine hK _ ?_
      clear hK K
      refine q_want rfl fun K hK => q_value (.bool (s.getLsbD k != f k)) (fun w _ => x_neqBool _ _ _ _ _ _ _ _ _ _ rfl rfl w) ?_
      simp only [Act.put, List.setIfInBounds_toArray, List.set_cons_succ, List.set_cons_zero]
      refine hK _ ?_
      clear hK K
      refine wpQuiet_nil ?_
      rintro w2 hC2
      by_cases he : s.getLsbD k = f k
      · have hb1 : (s.getLsbD k != f k) = false := by simp [he]
        have HE := hide he
        clear he
        rw [hb1]
        go_wp2
        refine ⟨⟨k + 1, by omega, by go_num, fun j hj => ?_, hC2⟩, by simp [intOf]; omega⟩
        by_cases e : j = k
        · subst e; exact HE.out
        · exact HJ.out j (by omega)
      · have hb1 : (s.getLsbD k != f k) = true := by simp [he]
        have HE := hide (sameB_false k hlt he)
        clear he
        rw [hb1]
        go_wp2
        go_ret
        exact ⟨by rw [HE.out]; rfl, hC2.below⟩
    · obtain rfl : k = 256 := by omega
      go_wp2
      go_ret
      exact ⟨by rw [sameB_true HJ.out]; rfl, hC.below⟩
end Go.Proofs.YtfoamihjmmgnlaaDoor
