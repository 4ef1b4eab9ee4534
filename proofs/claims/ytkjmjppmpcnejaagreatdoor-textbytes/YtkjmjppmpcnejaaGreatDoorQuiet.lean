/- A region that draws its order, whose operations make new memory alone: one walk in the text's order serves every order. The class of worlds: C, closed under new memory. -/
import Derived.Test.YtkjmjppmpcnejaaGreatDoorSetD
namespace Go.Proofs.YtkjmjppmpcnejaaGreatDoor
set_option maxRecDepth 100000
open Go.RowKit

/-- A class of worlds that new memory does not leave. -/
def Grows (C : World → Prop) : Prop := ∀ W W', C W → Below W.heap.size W W' → C W'

section
variable {C : World → Prop} {ops : Array Oper} {Q : Act → Prop} {a : Act} {o : Oper} {rest : List Oper} {K : Act → Prop}

theorem q_want (hw : Region.wanted o (yielded ops a.tmps) = true) (h : ∀ K : Act → Prop, (∀ a, wpQuiet Tryz.prog ops C Q rest a → K a) → o.quiet Tryz.prog a C K) : wpQuiet Tryz.prog ops C Q (o :: rest) a :=
  BigFrame.wpQuiet_want hw h
theorem q_skip (hw : Region.wanted o (yielded ops a.tmps) = false) (h : wpQuiet Tryz.prog ops C Q rest (a.put o.dst undef)) : wpQuiet Tryz.prog ops C Q (o :: rest) a :=
  BigFrame.wpQuiet_skip hw h

theorem quiet_lit {id : Nat} {Q' : Exit → Act → World → Prop} {w : World} {l : List Oper} (hm : (Tryz.prog).follows .mixedOrders = true) (hB : Region.lexB .any l.toArray = true) (hC : C { w with drawn := w.drawn + 1 })
    (h : wpQuiet Tryz.prog l.toArray C (fun a' => ∀ w', C w' → Q' .normal a' w') l a) : (Code.region id l.toArray true).wp Tryz.prog Q' a w :=
  wp_region_quiet hm hB hC (by simpa using h)

/-- What an operation yields in every world of the class. -/
theorem q_value (v : Value) (h : ∀ w, C w → (execOp a.eval o).run Tryz.prog w = .ok (.value v) w) (hk : K (a.put o.dst v)) : o.quiet Tryz.prog a C K :=
  ⟨v, fun w hw => by unfold Oper.quietAt; rw [h w hw]; exact ⟨rfl, rfl⟩, hk⟩
theorem q_call (hG : Grows C) (f : FuncId) (vs : Array Value) (v : Value) (h : ∀ w, (execOp a.eval o).run Tryz.prog w = .ok (.enter f vs) w)
    (hc : ∀ w, C w → Calls Tryz.prog f vs w fun e w' => e = .returned v ∧ Below w.heap.size w w') (hk : K (a.put o.dst v)) : o.quiet Tryz.prog a C K :=
  ⟨v, fun w hw => by unfold Oper.quietAt; rw [h w]; exact ⟨rfl, (hc w hw).mono fun e w' ⟨he, hb⟩ => ⟨he, hG w w' hw hb⟩⟩, hk⟩
end

theorem x_loadSet (ρ : Operand → Value) (d : Option Tmp) (k : Tmp) (t : TypeId) (pos : String) (af : Array Edge) (g : Option (Nat × Bool)) (B : Nat) (s : BitVec 256) (hx : ρ (.tmp k) = .pointer (some ⟨B, 0, none⟩)) (w : World) (hB : Blk w B (WS s) 42) :
    (execOp ρ { dst := d, op := .load 42 (.tmp k), type := t, pos := pos, after := af, guard := g }).run Tryz.prog w = .ok (.value (SV s)) w := by
  have c0 := hB.cell 0; have c1 := hB.cell 1; have c2 := hB.cell 2; have c3 := hB.cell 3
  simp only [List.getElem?_toArray, List.getElem?_cons_zero, List.getElem?_cons_succ] at c0 c1 c2 c3
  simp [go_sem, hx, c0, c1, c2, c3]
theorem x_eqSet (ρ : Operand → Value) (d : Option Tmp) (x y : Operand) (t : TypeId) (pos : String) (af : Array Edge) (g : Option (Nat × Bool)) (u v : BitVec 256) (hx : ρ x = SV u) (hy : ρ y = SV v) (w : World) :
    (execOp ρ { dst := d, op := .binOp .eql 42 x y 42, type := t, pos := pos, after := af, guard := g }).run Tryz.prog w = .ok (.value (.bool (u == v))) w := by
  have h := eqSV u v
  simp [go_sem, hx, hy, h]
theorem x_call1 (ρ : Operand → Value) (d : Option Tmp) (f : FuncId) (x : Operand) (t t1 : TypeId) (pos : String) (af : Array Edge) (g : Option (Nat × Bool)) (v : Value) (hx : ρ x = v) (hfn : ρ (.func f) = .func (.func f) #[] #[]) (hf : ∀ args w, (callFunc f args).run Tryz.prog w = .ok (.enter f args) w) (w : World) :
    (execOp ρ { dst := d, op := .call { callee := .value (.func f), args := #[x], argTypes := #[t1] }, type := t, pos := pos, after := af, guard := g }).run Tryz.prog w = .ok (.enter f #[v]) w := by
  simp [go_sem, hfn, hx, hf]
theorem x_call2 (ρ : Operand → Value) (d : Option Tmp) (f : FuncId) (x y : Operand) (t t1 t2 : TypeId) (pos : String) (af : Array Edge) (g : Option (Nat × Bool)) (u v : Value) (hx : ρ x = u) (hy : ρ y = v) (hfn : ρ (.func f) = .func (.func f) #[] #[]) (hf : ∀ args w, (callFunc f args).run Tryz.prog w = .ok (.enter f args) w) (w : World) :
    (execOp ρ { dst := d, op := .call { callee := .value (.func f), args := #[x, y], argTypes := #[t1, t2] }, type := t, pos := pos, after := af, guard := g }).run Tryz.prog w = .ok (.enter f #[u, v]) w := by
  simp [go_sem, hfn, hx, hy, hf]
theorem x_call0 (ρ : Operand → Value) (d : Option Tmp) (f : FuncId) (t : TypeId) (pos : String) (af : Array Edge) (g : Option (Nat × Bool)) (hfn : ρ (.func f) = .func (.func f) #[] #[]) (hf : ∀ args w, (callFunc f args).run Tryz.prog w = .ok (.enter f args) w) (w : World) :
    (execOp ρ { dst := d, op := .call { callee := .value (.func f), args := #[], argTypes := #[] }, type := t, pos := pos, after := af, guard := g }).run Tryz.prog w = .ok (.enter f #[]) w := by
  simp [go_sem, hfn, hf]
theorem x_pick (ρ : Operand → Value) (d : Option Tmp) (c x y : Operand) (t : TypeId) (pos : String) (af : Array Edge) (g : Option (Nat × Bool)) (b : Bool) (u v : Value) (hc : ρ c = .bool b) (hx : ρ x = u) (hy : ρ y = v) (w : World) :
    (execOp ρ { dst := d, op := .pick c x y, type := t, pos := pos, after := af, guard := g }).run Tryz.prog w = .ok (.value (if b then u else v)) w := by
  cases b <;> simp [go_sem, hc, hx, hy]
theorem x_move (ρ : Operand → Value) (d : Option Tmp) (x : Operand) (t : TypeId) (pos : String) (af : Array Edge) (g : Option (Nat × Bool)) (v : Value) (hx : ρ x = v) (w : World) :
    (execOp ρ { dst := d, op := .move x, type := t, pos := pos, after := af, guard := g }).run Tryz.prog w = .ok (.value v) w := by
  simp [go_sem, hx]
theorem x_assign (ρ : Operand → Value) (d : Option Tmp) (x : Operand) (t : TypeId) (pos : String) (af : Array Edge) (g : Option (Nat × Bool)) (v : Value) (hx : ρ x = v) (w : World) :
    (execOp ρ { dst := d, op := .assign x, type := t, pos := pos, after := af, guard := g }).run Tryz.prog w = .ok (.value v) w := by
  simp [go_sem, hx]
theorem x_addInt (ρ : Operand → Value) (d : Option Tmp) (x y : Operand) (t : TypeId) (pos : String) (af : Array Edge) (g : Option (Nat × Bool)) (u v : Int) (hx : ρ x = .int .i64 u) (hy : ρ y = .int .i64 v) (h0 : -9223372036854775808 ≤ u + v) (h1 : u + v ≤ 9223372036854775807) (w : World) :
    (execOp ρ { dst := d, op := .binOp .add 3 x y 3, type := t, pos := pos, after := af, guard := g }).run Tryz.prog w = .ok (.value (.int .i64 (u + v))) w := by
  have e : IntKind.i64.wrap (u + v) = u + v := by rw [IntKind.wrap_i64]; omega
  simp [go_sem, hx, hy, e]
theorem x_eqInt (ρ : Operand → Value) (d : Option Tmp) (x y : Operand) (t : TypeId) (pos : String) (af : Array Edge) (g : Option (Nat × Bool)) (u v : Int) (hx : ρ x = .int .i64 u) (hy : ρ y = .int .i64 v) (w : World) :
    (execOp ρ { dst := d, op := .binOp .eql 3 x y 3, type := t, pos := pos, after := af, guard := g }).run Tryz.prog w = .ok (.value (.bool (u == v))) w := by
  simp [go_sem, hx, hy]
end Go.Proofs.YtkjmjppmpcnejaaGreatDoor
