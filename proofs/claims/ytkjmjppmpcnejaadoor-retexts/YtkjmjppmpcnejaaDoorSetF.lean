/- Contracts: Bytes, Runs, Least; the iterator that Runs hands out. -/
import Derived.Test.YtkjmjppmpcnejaaDoorSetE
import Derived.Test.YtkjmjppmpcnejaaDoorMathRuns
namespace Go.Proofs.YtkjmjppmpcnejaaDoor
set_option maxRecDepth 100000
open Go.RowKit Go.Shelf
attribute [local go_sem] Oper.semAt_some

set_option maxHeartbeats 400000 in
theorem bytes_any (s : BitVec 256) (w : World) :
    Calls Tryd.prog 70 #[SV s] w fun e w' => e = .returned (.func (.func 83) #[] #[.pointer (some ⟨w.heap.size, 0, none⟩)]) ∧ w' = w.alloc (.cells (WS s) 45) := by
  go_enter Tryd.func70, Tryd.ntmps70
  go_wp2
  go_ret
  exact ⟨rfl, rfl⟩
set_option maxHeartbeats 400000 in
theorem runs_any (s : BitVec 256) (w : World) :
    Calls Tryd.prog 62 #[SV s] w fun e w' => e = .returned (.func (.func 69) #[] #[.pointer (some ⟨w.heap.size, 0, none⟩)]) ∧ w' = w.alloc (.cells (WS s) 45) := by
  go_enter Tryd.func62, Tryd.ntmps62
  go_wp2
  go_ret
  exact ⟨rfl, rfl⟩

theorem enters_bytes : ∀ args w, (callFunc 83 args).run Tryd.prog w = .ok (.enter 83 args) w := enters_of Tryd.func83 (by kernel_rfl) rfl

/-- The least of some bytes that go up. -/
def leastV (l : List Nat) : Value := .tuple #[.int .u8 (l.headD 0), .bool (!l.isEmpty)]

end Go.Proofs.YtkjmjppmpcnejaaDoor
