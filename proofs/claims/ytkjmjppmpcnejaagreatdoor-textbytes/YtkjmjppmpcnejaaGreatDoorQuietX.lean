/- Operations within a region that draws its order. -/
import Derived.Test.YtkjmjppmpcnejaaGreatDoorQuiet
import Derived.Test.YtkjmjppmpcnejaaGreatDoorSetF
namespace Go.Proofs.YtkjmjppmpcnejaaGreatDoor
set_option maxRecDepth 100000
open Go.RowKit

theorem x_convU8 (ρ : Operand → Value) (d : Option Tmp) (x : Operand) (t : TypeId) (pos : String) (af : Array Edge) (g : Option (Nat × Bool)) (n : Int) (hx : ρ x = .int .i64 n) (h0 : 0 ≤ n) (h1 : n < 256) (w : World) :
    (execOp ρ { dst := d, op := .convert 3 5 x, type := t, pos := pos, after := af, guard := g }).run Tryz.prog w = .ok (.value (.int .u8 n)) w := by
  have e : IntKind.u8.wrap n = n := by simp [IntKind.wrap, IntKind.signed, IntKind.bits]; omega
  simp [go_sem, hx, e]
theorem x_convInt (ρ : Operand → Value) (d : Option Tmp) (x : Operand) (t : TypeId) (pos : String) (af : Array Edge) (g : Option (Nat × Bool)) (n : Int) (hx : ρ x = .int .u8 n) (h0 : 0 ≤ n) (h1 : n < 256) (w : World) :
    (execOp ρ { dst := d, op := .convert 5 3 x, type := t, pos := pos, after := af, guard := g }).run Tryz.prog w = .ok (.value (.int .i64 n)) w := by
  have e : IntKind.i64.wrap n = n := by rw [IntKind.wrap_i64]; omega
  simp [go_sem, hx, e]
theorem x_loadBool (ρ : Operand → Value) (d : Option Tmp) (x : Operand) (t : TypeId) (pos : String) (af : Array Edge) (g : Option (Nat × Bool)) (b n : Nat) (v : Bool) (hx : ρ x = .pointer (some ⟨b, n, none⟩)) (w : World) (hc : w.cell? ⟨b, n, none⟩ = some (.bool v)) :
    (execOp ρ { dst := d, op := .load 4 x, type := t, pos := pos, after := af, guard := g }).run Tryz.prog w = .ok (.value (.bool v)) w := by
  simp [go_sem, hx, hc]
theorem x_neqBool (ρ : Operand → Value) (d : Option Tmp) (x y : Operand) (t : TypeId) (pos : String) (af : Array Edge) (g : Option (Nat × Bool)) (u v : Bool) (hx : ρ x = .bool u) (hy : ρ y = .bool v) (w : World) :
    (execOp ρ { dst := d, op := .binOp .neq 4 x y 4, type := t, pos := pos, after := af, guard := g }).run Tryz.prog w = .ok (.value (.bool (u != v))) w := by
  cases u <;> cases v <;> simp [go_sem, hx, hy]
theorem x_eqBool (ρ : Operand → Value) (d : Option Tmp) (x y : Operand) (t : TypeId) (pos : String) (af : Array Edge) (g : Option (Nat × Bool)) (u v : Bool) (hx : ρ x = .bool u) (hy : ρ y = .bool v) (w : World) :
    (execOp ρ { dst := d, op := .binOp .eql 4 x y 4, type := t, pos := pos, after := af, guard := g }).run Tryz.prog w = .ok (.value (.bool (u == v))) w := by
  simp [go_sem, hx, hy]
theorem x_gtrInt (ρ : Operand → Value) (d : Option Tmp) (x y : Operand) (t : TypeId) (pos : String) (af : Array Edge) (g : Option (Nat × Bool)) (u v : Int) (hx : ρ x = .int .i64 u) (hy : ρ y = .int .i64 v) (w : World) :
    (execOp ρ { dst := d, op := .binOp .gtr 3 x y 3, type := t, pos := pos, after := af, guard := g }).run Tryz.prog w = .ok (.value (.bool (decide (v < u)))) w := by
  simp [go_sem, hx, hy]
theorem x_notBool (ρ : Operand → Value) (d : Option Tmp) (x : Operand) (t : TypeId) (pos : String) (af : Array Edge) (g : Option (Nat × Bool)) (u : Bool) (hx : ρ x = .bool u) (w : World) :
    (execOp ρ { dst := d, op := .unOp .not 4 x, type := t, pos := pos, after := af, guard := g }).run Tryz.prog w = .ok (.value (.bool (!u))) w := by
  simp [go_sem, hx]
theorem x_max (ρ : Operand → Value) (d : Option Tmp) (x y : Operand) (t : TypeId) (pos : String) (af : Array Edge) (g : Option (Nat × Bool)) (u v : Int) (hx : ρ x = .int .i64 u) (hy : ρ y = .int .i64 v) (w : World) :
    (execOp ρ { dst := d, op := .call { callee := .builtin .max, args := #[x, y], argTypes := #[3, 3] }, type := t, pos := pos, after := af, guard := g }).run Tryz.prog w = .ok (.value (.int .i64 (max u v))) w := by
  simp [go_sem, hx, hy]
  rw [Int.max_def]; split <;> split <;> omega

end Go.Proofs.YtkjmjppmpcnejaaGreatDoor
