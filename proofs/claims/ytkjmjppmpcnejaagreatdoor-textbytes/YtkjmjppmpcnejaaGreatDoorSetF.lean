/- Contracts: Bytes, Runs, Least; the iterator that Runs hands out. -/
import Derived.Test.YtkjmjppmpcnejaaGreatDoorSetE
import Derived.Test.YtkjmjppmpcnejaaGreatDoorMathRuns
namespace Go.Proofs.YtkjmjppmpcnejaaGreatDoor
set_option maxRecDepth 100000
open Go.RowKit Go.Shelf
attribute [local go_sem] Oper.semAt_some

set_option maxHeartbeats 400000 in
theorem bytes_any (s : BitVec 256) (w : World) :
    Calls Tryz.prog 106 #[SV s] w fun e w' => e = .returned (.func (.func 113) #[] #[.pointer (some ⟨w.heap.size, 0, none⟩)]) ∧ w' = w.alloc (.cells (WS s) 42) := by
  go_enter Tryz.func106, Tryz.ntmps106
  go_wp2
  go_ret
  exact ⟨rfl, rfl⟩
set_option maxHeartbeats 400000 in
theorem runs_any (s : BitVec 256) (w : World) :
    Calls Tryz.prog 90 #[SV s] w fun e w' => e = .returned (.func (.func 105) #[] #[.pointer (some ⟨w.heap.size, 0, none⟩)]) ∧ w' = w.alloc (.cells (WS s) 42) := by
  go_enter Tryz.func90, Tryz.ntmps90
  go_wp2
  go_ret
  exact ⟨rfl, rfl⟩

theorem enters_bytes : ∀ args w, (callFunc 113 args).run Tryz.prog w = .ok (.enter 113 args) w := enters_of Tryz.func113 (by kernel_rfl) rfl

/-- The least of some bytes that go up. -/
def leastV (l : List Nat) : Value := .tuple #[.int .u8 (l.headD 0), .bool (!l.isEmpty)]

end Go.Proofs.YtkjmjppmpcnejaaGreatDoor
