/- Leaving a function that ranged over functions: several marks. -/
import Derived.Test.YtkjmjppmpcnejaaGreatDoorRange
namespace Go.Proofs.YtkjmjppmpcnejaaGreatDoor
set_option maxRecDepth 100000
open Go.RowKit

/-- Several blocks for deferred calls, shut one behind the other. -/
def shutAll (W : World) : List Nat → World
  | [] => W
  | D :: Ds => shutAll (W.putObj D (.deferred none)) Ds
theorem leaves_marks {P : Program} {fn : Func} {R : Ending → World → Prop} {tmps : Array Value} {v : Value} : ∀ (Ds : List Nat) (W : World), Ds.Nodup → (∀ D ∈ Ds, W.heap[D]? = some (.deferred (some []))) →
    (results fn tmps).run P (shutAll W Ds) = .ok v (shutAll W Ds) → R (.returned v) (shutAll W Ds) → LeavesInM Fence.wide 0 P fn tmps R (Ds.map fun D => { target := .collected D, args := #[] }) .returning W
  | [], W, _, _, hr, hR => ⟨_, hr, hR⟩
  | D :: Ds, W, hn, hD, hr, hR => by
    refine ⟨by simp, .inl ⟨D, _, rfl, run_takeDeferred (hD D (by simp)), ?_⟩⟩
    refine leaves_marks Ds _ (List.nodup_cons.1 hn).2 (fun D' h' => ?_) hr hR
    have hne : D' ≠ D := fun e => (List.nodup_cons.1 hn).1 (e ▸ h')
    exact (World.putObj_heap_other hne).trans (hD D' (by simp [h']))
theorem Blk.shutAll {b : Nat} {c : Array Value} {t : TypeId} : ∀ (Ds : List Nat) {w : World}, Blk w b c t → (∀ D ∈ Ds, b ≠ D) → Blk (shutAll w Ds) b c t
  | [], _, h, _ => h
  | D :: Ds, _, h, hn => Blk.shutAll Ds (h.putObj D _ (hn D (by simp))) (fun D' h' => hn D' (by simp [h']))
theorem below_shutAll {B : Nat} {a : World} : ∀ (Ds : List Nat) {w : World}, Below B a w → (∀ D ∈ Ds, B ≤ D) → Below B a (shutAll w Ds)
  | [], _, h, _ => h
  | D :: Ds, _, h, hn => below_shutAll Ds (below_put h (hn D (by simp)) _) (fun D' h' => hn D' (by simp [h']))
end Go.Proofs.YtkjmjppmpcnejaaGreatDoor
