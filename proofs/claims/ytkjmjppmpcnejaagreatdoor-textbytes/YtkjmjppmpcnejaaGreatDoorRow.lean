/- Slices that came in. -/
import Derived.Test.YtkjmjppmpcnejaaGreatDoorHeap
import Derived.Test.YtkjmjppmpcnejaaGreatDoorMath
namespace Go.Proofs.YtkjmjppmpcnejaaGreatDoor
set_option maxRecDepth 100000
open Go.RowKit

/-- A slice of bytes that came in. -/
def BytesRow (w : World) (v : Value) (l : List Nat) : Prop :=
  (∀ x ∈ l, x < 256) ∧ l.length ≤ 9223372036854775807 ∧ ∃ a cap, v = .slice a l.length cap ∧ ∀ k, k < l.length → ∃ b off, a = some ⟨b, off, none⟩ ∧ b < w.heap.size ∧ w.cell? ⟨b, off + k, none⟩ = some (.int .u8 (l.getD k 0))

/-- A slice of sets. -/
def SetsRow (w : World) (v : Value) (l : List (BitVec 256)) : Prop :=
  l.length ≤ 9223372036854775807 ∧ ∃ a cap, v = .slice a l.length cap ∧ ∀ k, k < l.length → ∃ b off, a = some ⟨b, off, none⟩ ∧ b < w.heap.size ∧ ∀ j, j < 4 → w.cell? ⟨b, off + k * 4 + j, none⟩ = some (.int .u64 (wd (l.getD k 0) j))
theorem SetsRow.below {w w' : World} {v : Value} {l : List (BitVec 256)} (h : SetsRow w v l) (hb : Below w.heap.size w w') : SetsRow w' v l := by
  obtain ⟨h1, a, cap, rfl, h2⟩ := h
  refine ⟨h1, a, cap, rfl, fun k hk => ?_⟩
  obtain ⟨b, off, e, hlt, hc⟩ := h2 k hk
  refine ⟨b, off, e, Nat.lt_of_lt_of_le hlt hb.size, fun j hj => ?_⟩
  rw [← hc j hj]
  exact World.cell?_of_block (w := w) (hb.block b hlt)

end Go.Proofs.YtkjmjppmpcnejaaGreatDoor
