/- Shapes: Few, op, low. -/
import Derived.Test.YtkjmjppmpcnejaaGreatDoorShB
namespace Go.Proofs.YtkjmjppmpcnejaaGreatDoor
set_option maxRecDepth 100000
set_option linter.unusedSimpArgs false
set_option linter.unusedVariables false
open Go.RowKit

theorem few_any (s : SHP) (cs : List Value) (w : World) (h : ShC w cs s) :
    Calls Tryz.prog 11 #[ShVal cs] w fun e w' => ∃ b : Bool, e = .returned (.bool b) ∧ (b = true → Tx s ∧ s.nodes ≤ 30) ∧ Below w.heap.size w w' := by
  have hb := (Below.refl w.heap.size w).alloc (Nat.le_refl _) (.cells cs.toArray 24)
  have hc := count_any s cs 0 _ (h.keep hb) (by omega)
  obtain ⟨v, rfl, hr, -⟩ := h.open
  obtain ⟨-, a, cap, rfl, -⟩ := hr.at
  have HC := hide hc
  have HB := hide hb
  clear hc hb h hr
  unfold ShVal at *
  go_enter Tryz.func11, Tryz.ntmps11
  go_wp2_with fail
  refine HC.out.mono ?_
  rintro e w1 ⟨c, rfl, -, h3, hb1⟩
  have H3 := hide h3
  have HB1 := hide (HB.out.trans (hb1.mono (by simp)))
  clear h3 hb1 HC
  go_wp2
  go_ret
  refine ⟨_, rfl, fun hd => ?_, HB1.out⟩
  have hd' : (c : Int) ≤ 30 := by simpa using hd
  obtain ⟨h1, h2⟩ := H3.out (by omega)
  exact ⟨h1, by omega⟩

/-- Which one. -/
def SHP.k (s : SHP) : Nat := (s.op % 18446744073709551616).toNat % 9
theorem op_any (s : SHP) (cs : List Value) (w : World) (h : ShC w cs s) :
    Calls Tryz.prog 34 #[ShVal cs] w fun e w' => e = .returned (.int .i64 s.k) ∧ Below w.heap.size w w' := by
  obtain ⟨v, rfl, hr, ho, -⟩ := h.open
  obtain ⟨-, a, cap, rfl, -⟩ := hr.at
  clear h hr
  have e1 : IntKind.u64.wrap s.op = s.op % 18446744073709551616 := by simp [IntKind.wrap, IntKind.signed, IntKind.bits]
  obtain ⟨m, hm⟩ : ∃ m : Nat, s.op % 18446744073709551616 = (m : Int) := ⟨(s.op % 18446744073709551616).toNat, by omega⟩
  have hk : s.k = m % 9 := by unfold SHP.k; rw [hm]; simp
  rw [hm] at e1
  have hm2 : (m : Int) < 18446744073709551616 := by omega
  unfold ShVal
  go_enter Tryz.func34, Tryz.ntmps34
  go_wp2
  go_ret
  refine ⟨?_, (Below.refl _ _).alloc (Nat.le_refl _) _⟩
  show Ending.returned (.int .i64 ((m : Int) % 9)) = _
  rw [hk]; rfl

theorem u8_and3 (n : Nat) (h : n < 256) : bits .and .u8 (n : Int) 3 = ((n % 4 : Nat) : Int) := by
  have key : ∀ m : Nat, m < 256 → bits .and .u8 (m : Int) 3 = ((m % 4 : Nat) : Int) := by decide +kernel
  exact key n h
theorem x_fieldS (ρ : Operand → Value) (d : Option Tmp) (x : Operand) (t : TypeId) (pos : String) (af : Array Edge) (g : Option (Nat × Bool)) (b : Nat) (hx : ρ x = PT b) (w : World) :
    (execOp ρ { dst := d, op := .fieldAddr 24 x 1, type := t, pos := pos, after := af, guard := g }).run Tryz.prog w = .ok (.value (.pointer (some ⟨b, 1, none⟩))) w ∧
    (execOp ρ { dst := d, op := .fieldAddr 24 x 2, type := t, pos := pos, after := af, guard := g }).run Tryz.prog w = .ok (.value (.pointer (some ⟨b, 2, none⟩))) w := by
  constructor <;> simp [go_sem, hx, PT]
theorem x_loadB (ρ : Operand → Value) (d : Option Tmp) (x : Operand) (t : TypeId) (pos : String) (af : Array Edge) (g : Option (Nat × Bool)) (b n : Nat) (v : Int) (hx : ρ x = .pointer (some ⟨b, n, none⟩)) (w : World) (hc : w.cell? ⟨b, n, none⟩ = some (.int .u8 v)) :
    (execOp ρ { dst := d, op := .load 5 x, type := t, pos := pos, after := af, guard := g }).run Tryz.prog w = .ok (.value (.int .u8 v)) w := by
  simp [go_sem, hx, hc]
theorem x_and3 (ρ : Operand → Value) (d : Option Tmp) (x : Operand) (t : TypeId) (pos : String) (af : Array Edge) (g : Option (Nat × Bool)) (n : Nat) (hx : ρ x = .int .u8 n) (hy : ρ (.const (.int .u8 3)) = .int .u8 3) (h : n < 256) (w : World) :
    (execOp ρ { dst := d, op := .binOp .and 5 x (.const (.int .u8 3)) 5, type := t, pos := pos, after := af, guard := g }).run Tryz.prog w = .ok (.value (.int .u8 ((n % 4 : Nat) : Int))) w := by
  have e := u8_and3 n h
  simp [go_sem, hx, hy, e]
theorem x_add97 (ρ : Operand → Value) (d : Option Tmp) (x : Operand) (t : TypeId) (pos : String) (af : Array Edge) (g : Option (Nat × Bool)) (n : Nat) (hx : ρ x = .int .u8 n) (hy : ρ (.const (.int .u8 97)) = .int .u8 97) (h : n < 4) (w : World) :
    (execOp ρ { dst := d, op := .binOp .add 5 (.const (.int .u8 97)) x 5, type := t, pos := pos, after := af, guard := g }).run Tryz.prog w = .ok (.value (.int .u8 ((97 + n : Nat) : Int))) w := by
  have e : IntKind.u8.wrap (97 + (n : Int)) = ((97 + n : Nat) : Int) := by simp [IntKind.wrap, IntKind.signed, IntKind.bits]; omega
  simp [go_sem, hx, hy, e]
set_option maxHeartbeats 1000000 in
theorem low_any (s : SHP) (cs : List Value) (w : World) (h : ShC w cs s) :
    Calls Tryz.prog 36 #[ShVal cs] w fun e w' => e = .returned (.tuple #[.int .u8 ((97 + s.lo % 4 : Nat) : Int), .int .u8 ((97 + s.hi % 4 : Nat) : Int)]) ∧ Below w.heap.size w w' := by
  obtain ⟨v, rfl, hr, ho, hlo, hhi, -⟩ := h.open
  obtain ⟨-, a, cap, rfl, -⟩ := hr.at
  clear h hr
  obtain ⟨C, hCd⟩ : ∃ C : World → Prop, C = fun W => Below w.heap.size w W ∧ W.cell? ⟨w.heap.size, 1, none⟩ = some (.int .u8 s.lo) ∧ W.cell? ⟨w.heap.size, 2, none⟩ = some (.int .u8 s.hi) := ⟨_, rfl⟩
  have hC0 : C (w.alloc (.cells #[.int .i64 s.op, .int .u8 s.lo, .int .u8 s.hi, .string s.text, .slice a s.kids.length cap] 24)) := by
    rw [hCd]
    have hb := Blk.newAt (w := w) rfl #[.int .i64 s.op, .int .u8 s.lo, .int .u8 s.hi, .string s.text, .slice a s.kids.length cap] 24
    exact ⟨(Below.refl _ _).alloc (Nat.le_refl _) _, hb.cell 1, hb.cell 2⟩
  have hCb : ∀ W, C W → Below w.heap.size w W := fun W h => by rw [hCd] at h; exact h.1
  have hC1 : ∀ W, C W → W.cell? ⟨w.heap.size, 1, none⟩ = some (.int .u8 s.lo) := fun W h => by rw [hCd] at h; exact h.2.1
  have hC2 : ∀ W, C W → W.cell? ⟨w.heap.size, 2, none⟩ = some (.int .u8 s.hi) := fun W h => by rw [hCd] at h; exact h.2.2
  have hCd2 : ∀ W, C W → C { W with drawn := W.drawn + 1 } := fun W h => by
    rw [hCd] at h ⊢
    exact ⟨⟨h.1.os, h.1.tape, h.1.output, h.1.size, h.1.block⟩, h.2⟩
  clear hCd
  unfold ShVal
  go_enter Tryz.func36, Tryz.ntmps36
  go_wp2
  rw [show Value.pointer (some ⟨w.heap.size, 0, none⟩) = PT w.heap.size from rfl]
  refine w_lit (C := C) (by kernel_rfl) (by kernel_rfl) (hCd2 _ hC0) ?_
  refine w_value (.pointer (some ⟨w.heap.size, 1, none⟩)) (by kernel_rfl) (fun w hw => (x_fieldS _ _ _ _ _ _ _ _ rfl w).1) ?_
  simp only [Act.put, List.setIfInBounds_toArray, List.set_cons_succ, List.set_cons_zero]
  refine w_value (.int .u8 s.lo) (by kernel_rfl) (fun w hw => x_loadB _ _ _ _ _ _ _ _ _ _ rfl w (hC1 w hw)) ?_
  simp only [Act.put, List.setIfInBounds_toArray, List.set_cons_succ, List.set_cons_zero]
  refine w_value (.int .u8 ((s.lo % 4 : Nat) : Int)) (by kernel_rfl) (fun w hw => x_and3 _ _ _ _ _ _ _ s.lo rfl rfl hlo w) ?_
  simp only [Act.put, List.setIfInBounds_toArray, List.set_cons_succ, List.set_cons_zero]
  refine w_value (.int .u8 ((97 + s.lo % 4 : Nat) : Int)) (by kernel_rfl) (fun w hw => x_add97 _ _ _ _ _ _ _ (s.lo % 4) rfl rfl (by omega) w) ?_
  simp only [Act.put, List.setIfInBounds_toArray, List.set_cons_succ, List.set_cons_zero]
  refine w_value (.pointer (some ⟨w.heap.size, 2, none⟩)) (by kernel_rfl) (fun w hw => (x_fieldS _ _ _ _ _ _ _ _ rfl w).2) ?_
  simp only [Act.put, List.setIfInBounds_toArray, List.set_cons_succ, List.set_cons_zero]
  refine w_value (.int .u8 s.hi) (by kernel_rfl) (fun w hw => x_loadB _ _ _ _ _ _ _ _ _ _ rfl w (hC2 w hw)) ?_
  simp only [Act.put, List.setIfInBounds_toArray, List.set_cons_succ, List.set_cons_zero]
  refine w_value (.int .u8 ((s.hi % 4 : Nat) : Int)) (by kernel_rfl) (fun w hw => x_and3 _ _ _ _ _ _ _ s.hi rfl rfl hhi w) ?_
  simp only [Act.put, List.setIfInBounds_toArray, List.set_cons_succ, List.set_cons_zero]
  refine w_value (.int .u8 ((97 + s.hi % 4 : Nat) : Int)) (by kernel_rfl) (fun w hw => x_add97 _ _ _ _ _ _ _ (s.hi % 4) rfl rfl (by omega) w) ?_
  simp only [Act.put, List.setIfInBounds_toArray, List.set_cons_succ, List.set_cons_zero]
  refine w_value (.int .u8 ((97 + s.lo % 4 : Nat) : Int)) (by kernel_rfl) (fun w hw => x_assign _ _ _ _ _ _ _ _ rfl w) ?_
  simp only [Act.put, List.setIfInBounds_toArray, List.set_cons_succ, List.set_cons_zero]
  refine w_value (.int .u8 ((97 + s.hi % 4 : Nat) : Int)) (by kernel_rfl) (fun w hw => x_assign _ _ _ _ _ _ _ _ rfl w) ?_
  simp only [Act.put, List.setIfInBounds_toArray, List.set_cons_succ, List.set_cons_zero]
  refine w_nil ?_
  intro w1 hw1
  have HB := hide (hCb _ hw1)
  clear hC0 hCb hC1 hC2 hCd2 hw1
  go_wp2
  exact bodyPost_ret (v := .tuple #[.int .u8 ((97 + s.lo % 4 : Nat) : Int), .int .u8 ((97 + s.hi % 4 : Nat) : Int)]) (by simp [results, Tryz.results36, go_sem]) rfl ⟨rfl, HB.out⟩
end Go.Proofs.YtkjmjppmpcnejaaGreatDoor
