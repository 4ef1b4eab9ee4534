/- SetOps: its last statement may be carried out in the order of the text. -/
import Derived.Test.YtddlcodililhnaaDoorReg
namespace Go.Proofs.YtddlcodililhnaaDoor
open Go
set_option maxRecDepth 100000 in
theorem lexSetOps : Region.lexB .any (regOf 23 Tryd.f3).toArray = true := by kernel_rfl
end Go.Proofs.YtddlcodililhnaaDoor
