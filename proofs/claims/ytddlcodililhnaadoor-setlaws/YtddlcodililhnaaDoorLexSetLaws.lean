/- SetLaws: its last statement may be carried out in the order of the text. -/
import Derived.Test.YtddlcodililhnaaDoorReg
namespace Go.Proofs.YtddlcodililhnaaDoor
open Go
set_option maxRecDepth 100000 in
theorem lexSetLaws : Region.lexB .any (regOf 3 Tryd.f6).toArray = true := by kernel_rfl
end Go.Proofs.YtddlcodililhnaaDoor
