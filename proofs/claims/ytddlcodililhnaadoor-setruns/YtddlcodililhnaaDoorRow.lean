/- Slices that came in. -/
import Derived.Test.YtddlcodililhnaaDoorHeap
namespace Go.Proofs.YtddlcodililhnaaDoor
open Go.RowKit

/-- A slice of bytes that came in. -/
def BytesRow (w : World) (v : Value) (l : List Nat) : Prop :=
  (∀ x ∈ l, x < 256) ∧ l.length ≤ 9223372036854775807 ∧ ∃ a cap, v = .slice a l.length cap ∧ ∀ k, k < l.length → ∃ b off, a = some ⟨b, off, none⟩ ∧ b < w.heap.size ∧ w.cell? ⟨b, off + k, none⟩ = some (.int .u8 (l.getD k 0))

end Go.Proofs.YtddlcodililhnaaDoor
