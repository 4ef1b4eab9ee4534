/- The operations of a region of a function's code, by the region's number. -/
import Derived.Test.YtddlcodililhnaaDoorProg
import Derived.Still
import Derived.KernelRfl
namespace Go.Proofs.YtddlcodililhnaaDoor
open Go

def regOps (id : Nat) : Code → Option (List Oper)
  | .region i ops _ => if i = id then some ops.toList else none
  | .seq a b => (regOps id a).or (regOps id b)
  | .cond _ a b => (regOps id a).or (regOps id b)
  | .block _ a => regOps id a
  | .loop a => regOps id a
  | .rangeFunc _ _ a b => (regOps id a).or (regOps id b)
  | _ => none
def regOf (id : Nat) (f : Func) : List Oper := ((f.body.bind (regOps id)).getD [])
end Go.Proofs.YtddlcodililhnaaDoor
