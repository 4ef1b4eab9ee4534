/- The quiet walk behind a structure, so that no tactic unfolds a goal with guarded operations. -/
import Derived.Test.YtkjmjppmpcnejaaGreatDoorQuietX
namespace Go.Proofs.YtkjmjppmpcnejaaGreatDoor
set_option maxRecDepth 100000
open Go.RowKit

structure WQ (ops : Array Oper) (C : World → Prop) (Q : Act → Prop) (l : List Oper) (a : Act) : Prop where
  out : wpQuiet Tryz.prog ops C Q l a

section
variable {C : World → Prop} {ops : Array Oper} {Q : Act → Prop} {a : Act} {o : Oper} {rest : List Oper}
theorem w_skip (hw : Region.wanted o (yielded ops a.tmps) = false) (h : WQ ops C Q rest (a.put o.dst undef)) : WQ ops C Q (o :: rest) a := ⟨q_skip hw h.out⟩
theorem w_value (v : Value) (hw : Region.wanted o (yielded ops a.tmps) = true) (h : ∀ w, C w → (execOp a.eval o).run Tryz.prog w = .ok (.value v) w) (hk : WQ ops C Q rest (a.put o.dst v)) : WQ ops C Q (o :: rest) a :=
  ⟨q_want hw fun _ hK => q_value v h (hK _ hk.out)⟩
theorem w_call (hG : Grows C) (f : FuncId) (vs : Array Value) (v : Value) (hw : Region.wanted o (yielded ops a.tmps) = true) (h : ∀ w, (execOp a.eval o).run Tryz.prog w = .ok (.enter f vs) w)
    (hc : ∀ w, C w → Calls Tryz.prog f vs w fun e w' => e = .returned v ∧ Below w.heap.size w w') (hk : WQ ops C Q rest (a.put o.dst v)) : WQ ops C Q (o :: rest) a :=
  ⟨q_want hw fun _ hK => q_call hG f vs v h hc (hK _ hk.out)⟩
theorem w_nil (h : Q a) : WQ ops C Q [] a := ⟨wpQuiet_nil h⟩
theorem w_lit {id : Nat} {Q' : Exit → Act → World → Prop} {w : World} {l : List Oper} (hm : (Tryz.prog).follows .mixedOrders = true) (hB : Region.lexB .any l.toArray = true) (hC : C { w with drawn := w.drawn + 1 })
    (h : WQ l.toArray C (fun a' => ∀ w', C w' → Q' .normal a' w') l a) : (Code.region id l.toArray true).wp Tryz.prog Q' a w :=
  quiet_lit hm hB hC h.out
end
end Go.Proofs.YtkjmjppmpcnejaaGreatDoor
