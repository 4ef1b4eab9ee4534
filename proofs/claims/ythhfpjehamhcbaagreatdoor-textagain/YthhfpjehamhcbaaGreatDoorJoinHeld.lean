/- Texts of this claim put together: Quiet3, Held. -/
import Derived.Test.YthhfpjehamhcbaaGreatDoorJoinQuietX
import Derived.Test.YthhfpjehamhcbaaGreatDoorJoinQuiet
import Derived.Deep.RegionHeld3
/- The quiet walk behind a structure, so that no tactic unfolds a goal with guarded operations. -/
namespace Go.Proofs.YthhfpjehamhcbaaGreatDoor
set_option maxRecDepth 100000
open Go.RowKit

structure WQ (ops : Array Oper) (C : World → Prop) (Q : Act → Prop) (l : List Oper) (a : Act) : Prop where
  out : wpQuiet Tryz.prog ops C Q l a

section
variable {C : World → Prop} {ops : Array Oper} {Q : Act → Prop} {a : Act} {o : Oper} {rest : List Oper}
theorem w_skip (hw : Region.wanted o (yielded ops a.tmps) = false) (h : WQ ops C Q rest (a.put o.dst undef)) : WQ ops C Q (o :: rest) a := ⟨q_skip hw h.out⟩
theorem w_value (v : Value) (hw : Region.wanted o (yielded ops a.tmps) = true) (h : ∀ w, C w → (execOp a.eval o).run Tryz.prog w = .ok (.value v) w) (hk : WQ ops C Q rest (a.put o.dst v)) : WQ ops C Q (o :: rest) a :=
  ⟨q_want hw fun _ hK => q_value v h (hK _ hk.out)⟩
theorem w_call (hG : Grows C) (f : FuncId) (vs : Array Value) (v : Value) (hw : Region.wanted o (yielded ops a.tmps) = true) (h : ∀ w, (execOp a.eval o).run Tryz.prog w = .ok (.enter f vs) w)
    (hc : ∀ w, C w → Calls Tryz.prog f vs w fun e w' => e = .returned v ∧ Below w.heap.size w w') (hk : WQ ops C Q rest (a.put o.dst v)) : WQ ops C Q (o :: rest) a :=
  ⟨q_want hw fun _ hK => q_call hG f vs v h hc (hK _ hk.out)⟩
theorem w_nil (h : Q a) : WQ ops C Q [] a := ⟨wpQuiet_nil h⟩
theorem w_lit {id : Nat} {Q' : Exit → Act → World → Prop} {w : World} {l : List Oper} (hm : (Tryz.prog).follows .mixedOrders = true) (hB : Region.lexB .any l.toArray = true) (hC : C { w with drawn := w.drawn + 1 })
    (h : WQ l.toArray C (fun a' => ∀ w', C w' → Q' .normal a' w') l a) : (Code.region id l.toArray true).wp Tryz.prog Q' a w :=
  quiet_lit hm hB hC h.out
end
end Go.Proofs.YthhfpjehamhcbaaGreatDoor
/- Moves of a walk through a region that draws its order, whose loads are taken first. -/
namespace Go.Proofs.YthhfpjehamhcbaaGreatDoor
set_option maxRecDepth 100000
open Go.RowKit

section
variable {ops : Array Oper} {S : World → Prop} {Q : Exit → Act → World → Prop} {fuel : Nat} {listed : Array Bool} {a : Act} {w : World} {oi : Oper} {rest : List Oper}
theorem at_drop {i : Nat} (hd : ops.toList.drop i = oi :: rest) : ops[i]? = some oi := by
  have h : (ops.toList.drop i)[0]? = some oi := by rw [hd]; rfl
  rw [List.getElem?_drop] at h
  simpa using h
theorem h_take (i : Nat) (v : Value) (hi : ops.toList.drop i = oi :: rest) (hs : Region.noSelect ops = true) (hf : Region.free .any ops listed i = true) (hr : (Region.ready .any ops listed).contains i = true)
    (hw : Region.wanted oi (yielded ops a.tmps) = true) (hv : ∀ w, S w → (execOp a.eval oi).run Tryz.prog w = .ok (.value v) w) (hS : S w)
    (h : wpAnyH Tryz.prog .any ops (NoPanic Q) S fuel (listed.setIfInBounds i true) (a.put oi.dst v) w) : wpAnyH Tryz.prog .any ops (NoPanic Q) S (fuel + 1) listed a w :=
  wpAnyH_take (at_drop hi) hs hf hr (fun _ _ _ h => (h : False).elim) (.inl ⟨hw, hv⟩) hS h
theorem h_call (i : Nat) (f : FuncId) (vs : Array Value) (v : Value) (hi : ops.toList.drop i = oi :: rest) (hr : Region.ready .any ops listed = [i])
    (hw : Region.wanted oi (yielded ops a.tmps) = true) (hv : (execOp a.eval oi).run Tryz.prog w = .ok (.enter f vs) w)
    (hc : Calls Tryz.prog f vs w fun e w' => e = .returned v ∧ S w')
    (h : ∀ w', S w' → wpAnyH Tryz.prog .any ops (NoPanic Q) S fuel (listed.setIfInBounds i true) (a.put oi.dst v) w') : wpAnyH Tryz.prog .any ops (NoPanic Q) S (fuel + 1) listed a w := by
  refine wpAnyH_all hr (by simp) ?_
  intro j hj
  obtain rfl : j = i := by simpa using hj
  unfold wpOp
  simp only [at_drop hi, hw, if_true]
  refine .inl ?_
  unfold Oper.wp
  rw [hv, Oper.upon_enter]
  refine hc.mono ?_
  rintro e w' ⟨rfl, hS⟩
  exact ⟨hS, h w' hS⟩
theorem h_step (i : Nat) (w' : World) (hi : ops.toList.drop i = oi :: rest) (hr : Region.ready .any ops listed = [i])
    (hw : Region.wanted oi (yielded ops a.tmps) = true) (hv : (execOp a.eval oi).run Tryz.prog w = .ok .skip w') (hS : S w')
    (h : wpAnyH Tryz.prog .any ops (NoPanic Q) S fuel (listed.setIfInBounds i true) (a.put oi.dst undef) w') : wpAnyH Tryz.prog .any ops (NoPanic Q) S (fuel + 1) listed a w := by
  refine wpAnyH_all hr (by simp) ?_
  intro j hj
  obtain rfl : j = i := by simpa using hj
  unfold wpOp
  simp only [at_drop hi, hw, if_true]
  refine .inl ?_
  unfold Oper.wp
  rw [hv, Oper.upon_skip]
  exact ⟨hS, h⟩
theorem h_alloc (i : Nat) (v : Value) (w' : World) (hi : ops.toList.drop i = oi :: rest) (hr : Region.ready .any ops listed = [i])
    (hw : Region.wanted oi (yielded ops a.tmps) = true) (hv : (execOp a.eval oi).run Tryz.prog w = .ok (.value v) w') (hS : S w')
    (h : wpAnyH Tryz.prog .any ops (NoPanic Q) S fuel (listed.setIfInBounds i true) (a.put oi.dst v) w') : wpAnyH Tryz.prog .any ops (NoPanic Q) S (fuel + 1) listed a w := by
  refine wpAnyH_all hr (by simp) ?_
  intro j hj
  obtain rfl : j = i := by simpa using hj
  unfold wpOp
  simp only [at_drop hi, hw, if_true]
  refine .inl ?_
  unfold Oper.wp
  rw [hv, Oper.upon_value]
  exact ⟨hS, h⟩
end
end Go.Proofs.YthhfpjehamhcbaaGreatDoor
