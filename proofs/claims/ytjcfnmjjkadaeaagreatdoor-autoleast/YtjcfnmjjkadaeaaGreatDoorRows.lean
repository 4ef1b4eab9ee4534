/-
  NARROWER THAN 'FOR EVERY INPUT', by the rows' own cells (each row's printed sentence says how): DfaLives: loops, laid · AutoWitness: loops, laid · AutoPairs: loops, laid · AutoGroups: loops, laid · AutoLeast: loops, laid.
  DERIVED. THE GIVEN ROWS OF THIS SEAT. 5 by the template 'for every input the law returns true; each argument reads behind the call as it read before'; 0 by the template 'total and deterministic' (their statements: YtjcfnmjjkadaeaaGreatDoorTotals.lean).
  GIVEN WITH THE SEED: the statements are not yours to turn. If you find one false, say at which input.
  Laid BY PROGRAM, IN A SANDBOX (cutbox-rows.mjs): the forced cells as the released guide's own fill.sh prints them over the translation 28a2fa621e6a6f0d… (all of the seat's roots in one cut). By AI agents, Wed Nov 11 2026. No macro, syntax, notation, axiom, sorry.
-/
import Derived.Test.YtjcfnmjjkadaeaaGreatDoorChecked
import GoSem.Claim
import GoSem.ClaimJoined
import GoSem.ClaimMapViews
import Derived.JoinedTies
import Derived.KernelRfl
namespace Go.Proofs.YtjcfnmjjkadaeaaGreatDoor
/- THE CELL 'sum', in the pinned program and in every row, IS THE sha256 OF THE DUMP (.gsa) THAT YtjcfnmjjkadaeaaGreatDoorProg.lean LOADS. Nothing in Lean hashes anything: it is a label: what it is worth is what the hold of that sum in a sandbox is worth. -/
noncomputable def Tryz.pinned : Pinned := { name := "ytjcfnmjjkadaeaagreatdoor", sum := "28a2fa621e6a6f0de11428420b8fc43f8fd831bb0da5baea23aa010be44e6ee0", checked := Tryz.checked }
namespace Rows
def none {H : Type} : Left H := { results := [], args := [] }

/- WHAT THE LISTED PACKAGE-LEVEL VARIABLES READ AS WHEN THE CALL BEGINS. Each datum BY PROGRAM (the guide's laid-datum.mjs) off the statement by which the dump's own 'gosem.cut.vars' lays the variable. In a bare row this is a premise. The card (YtjcfnmjjkadaeaaGreatDoorCards.lean) ties it to the program's text. -/
def laid_math_bits_deBruijn64tab {H : Type} : DataW H := .agg [.lit (.int .u8 0), .lit (.int .u8 1), .lit (.int .u8 56), .lit (.int .u8 2), .lit (.int .u8 57), .lit (.int .u8 49), .lit (.int .u8 28), .lit (.int .u8 3), .lit (.int .u8 61), .lit (.int .u8 58), .lit (.int .u8 42), .lit (.int .u8 50), .lit (.int .u8 38), .lit (.int .u8 29), .lit (.int .u8 17), .lit (.int .u8 4), .lit (.int .u8 62), .lit (.int .u8 47), .lit (.int .u8 59), .lit (.int .u8 36), .lit (.int .u8 45), .lit (.int .u8 43), .lit (.int .u8 51), .lit (.int .u8 22), .lit (.int .u8 53), .lit (.int .u8 39), .lit (.int .u8 33), .lit (.int .u8 30), .lit (.int .u8 24), .lit (.int .u8 18), .lit (.int .u8 12), .lit (.int .u8 5), .lit (.int .u8 63), .lit (.int .u8 55), .lit (.int .u8 48), .lit (.int .u8 27), .lit (.int .u8 60), .lit (.int .u8 41), .lit (.int .u8 37), .lit (.int .u8 16), .lit (.int .u8 46), .lit (.int .u8 35), .lit (.int .u8 44), .lit (.int .u8 21), .lit (.int .u8 52), .lit (.int .u8 32), .lit (.int .u8 23), .lit (.int .u8 11), .lit (.int .u8 54), .lit (.int .u8 26), .lit (.int .u8 40), .lit (.int .u8 15), .lit (.int .u8 34), .lit (.int .u8 20), .lit (.int .u8 31), .lit (.int .u8 10), .lit (.int .u8 25), .lit (.int .u8 14), .lit (.int .u8 19), .lit (.int .u8 9), .lit (.int .u8 13), .lit (.int .u8 8), .lit (.int .u8 7), .lit (.int .u8 6)]

/-- 'periscopelaw06.DfaLives': WHATEVER THE INPUT: true; the input reads as it did. -/
def dfaLivesSpec : ChangeSpec := { name := "dfaLives", fn := fun _ => fun
  | [d] => { results := [.lit (.bool true)], args := [d] }
  | _ => none }
def dfaLivesRow : OpenClaim := { program := "ytjcfnmjjkadaeaagreatdoor", sum := "28a2fa621e6a6f0de11428420b8fc43f8fd831bb0da5baea23aa010be44e6ee0", func := "periscope/periscopelaw06.DfaLives", spec := "dfaLives", inPlace := ["internal/bytealg.Compare", "sync/atomic.LoadInt64", "sync/atomic.CompareAndSwapInt64", "sync/atomic.LoadUint32", "(*internal/sync.Mutex).Lock", "internal/race.Disable", "sync/atomic.CompareAndSwapInt32", "internal/race.Enable", "internal/race.Acquire", "(*internal/sync.Mutex).lockSlow", "internal/sync.runtime_canSpin", "internal/sync.runtime_doSpin", "internal/sync.throw", "internal/sync.runtime_nanotime", "internal/sync.runtime_SemacquireMutex", "sync/atomic.AddInt32", "(*internal/sync.Mutex).Unlock", "internal/race.ReleaseMerge", "(*internal/sync.Mutex).unlockSlow", "internal/sync.fatal", "internal/sync.runtime_Semrelease", "sync/atomic.StoreUint32"], unfollowed := true, recurses := true, named := ["math/bits.deBruijn64tab"], loops := true, apart := false, laid := [("math/bits.deBruijn64tab", laid_math_bits_deBruijn64tab)] }
def DfaLivesSaid : Prop := dfaLivesRow.holds Tryz.pinned (OpenSpec.ofChange dfaLivesSpec)

/-- ITS FALSE NEIGHBOUR: 'it returns false'. Refute it at one input. -/
def dfaLivesWrong : ChangeSpec := { name := "dfaLives", fn := fun _ => fun
  | [d] => { results := [.lit (.bool false)], args := [d] }
  | _ => none }
def DfaLivesWrongFalsely : Prop := dfaLivesRow.holds Tryz.pinned (OpenSpec.ofChange dfaLivesWrong)

/-- 'periscopelaw07.AutoWitness': WHATEVER THE INPUT: true; the input reads as it did. -/
def autoWitnessSpec : ChangeSpec := { name := "autoWitness", fn := fun _ => fun
  | [d] => { results := [.lit (.bool true)], args := [d] }
  | _ => none }
def autoWitnessRow : OpenClaim := { program := "ytjcfnmjjkadaeaagreatdoor", sum := "28a2fa621e6a6f0de11428420b8fc43f8fd831bb0da5baea23aa010be44e6ee0", func := "periscope/periscopelaw07.AutoWitness", spec := "autoWitness", inPlace := ["internal/bytealg.Compare", "sync/atomic.LoadInt64", "sync/atomic.CompareAndSwapInt64"], unfollowed := true, recurses := true, named := ["math/bits.deBruijn64tab"], loops := true, apart := false, laid := [("math/bits.deBruijn64tab", laid_math_bits_deBruijn64tab)] }
def AutoWitnessSaid : Prop := autoWitnessRow.holds Tryz.pinned (OpenSpec.ofChange autoWitnessSpec)

/-- ITS FALSE NEIGHBOUR: 'it returns false'. Refute it at one input. -/
def autoWitnessWrong : ChangeSpec := { name := "autoWitness", fn := fun _ => fun
  | [d] => { results := [.lit (.bool false)], args := [d] }
  | _ => none }
def AutoWitnessWrongFalsely : Prop := autoWitnessRow.holds Tryz.pinned (OpenSpec.ofChange autoWitnessWrong)

/-- 'periscopelaw07.AutoPairs': WHATEVER THE INPUT: true; the input reads as it did. -/
def autoPairsSpec : ChangeSpec := { name := "autoPairs", fn := fun _ => fun
  | [d1, d2] => { results := [.lit (.bool true)], args := [d1, d2] }
  | _ => none }
def autoPairsRow : OpenClaim := { program := "ytjcfnmjjkadaeaagreatdoor", sum := "28a2fa621e6a6f0de11428420b8fc43f8fd831bb0da5baea23aa010be44e6ee0", func := "periscope/periscopelaw07.AutoPairs", spec := "autoPairs", inPlace := ["internal/bytealg.Compare", "sync/atomic.LoadInt64", "sync/atomic.CompareAndSwapInt64"], unfollowed := true, recurses := true, named := ["math/bits.deBruijn64tab"], loops := true, apart := false, laid := [("math/bits.deBruijn64tab", laid_math_bits_deBruijn64tab)] }
def AutoPairsSaid : Prop := autoPairsRow.holds Tryz.pinned (OpenSpec.ofChange autoPairsSpec)

/-- ITS FALSE NEIGHBOUR: 'it returns false'. Refute it at one input. -/
def autoPairsWrong : ChangeSpec := { name := "autoPairs", fn := fun _ => fun
  | [d1, d2] => { results := [.lit (.bool false)], args := [d1, d2] }
  | _ => none }
def AutoPairsWrongFalsely : Prop := autoPairsRow.holds Tryz.pinned (OpenSpec.ofChange autoPairsWrong)

/-- 'periscopelaw07.AutoGroups': WHATEVER THE INPUT: true; the input reads as it did. -/
def autoGroupsSpec : ChangeSpec := { name := "autoGroups", fn := fun _ => fun
  | [d] => { results := [.lit (.bool true)], args := [d] }
  | _ => none }
def autoGroupsRow : OpenClaim := { program := "ytjcfnmjjkadaeaagreatdoor", sum := "28a2fa621e6a6f0de11428420b8fc43f8fd831bb0da5baea23aa010be44e6ee0", func := "periscope/periscopelaw07.AutoGroups", spec := "autoGroups", inPlace := ["internal/bytealg.Compare", "sync/atomic.LoadInt64", "sync/atomic.CompareAndSwapInt64"], unfollowed := true, recurses := true, named := ["math/bits.deBruijn64tab"], loops := true, apart := false, laid := [("math/bits.deBruijn64tab", laid_math_bits_deBruijn64tab)] }
def AutoGroupsSaid : Prop := autoGroupsRow.holds Tryz.pinned (OpenSpec.ofChange autoGroupsSpec)

/-- ITS FALSE NEIGHBOUR: 'it returns false'. Refute it at one input. -/
def autoGroupsWrong : ChangeSpec := { name := "autoGroups", fn := fun _ => fun
  | [d] => { results := [.lit (.bool false)], args := [d] }
  | _ => none }
def AutoGroupsWrongFalsely : Prop := autoGroupsRow.holds Tryz.pinned (OpenSpec.ofChange autoGroupsWrong)

/-- 'periscopelaw07.AutoLeast': WHATEVER THE INPUT: true; the input reads as it did. -/
def autoLeastSpec : ChangeSpec := { name := "autoLeast", fn := fun _ => fun
  | [d1, d2] => { results := [.lit (.bool true)], args := [d1, d2] }
  | _ => none }
def autoLeastRow : OpenClaim := { program := "ytjcfnmjjkadaeaagreatdoor", sum := "28a2fa621e6a6f0de11428420b8fc43f8fd831bb0da5baea23aa010be44e6ee0", func := "periscope/periscopelaw07.AutoLeast", spec := "autoLeast", inPlace := ["internal/bytealg.Compare", "sync/atomic.LoadInt64", "sync/atomic.CompareAndSwapInt64"], unfollowed := true, recurses := true, named := ["math/bits.deBruijn64tab"], loops := true, apart := false, laid := [("math/bits.deBruijn64tab", laid_math_bits_deBruijn64tab)] }
def AutoLeastSaid : Prop := autoLeastRow.holds Tryz.pinned (OpenSpec.ofChange autoLeastSpec)

/-- ITS FALSE NEIGHBOUR: 'it returns false'. Refute it at one input. -/
def autoLeastWrong : ChangeSpec := { name := "autoLeast", fn := fun _ => fun
  | [d1, d2] => { results := [.lit (.bool false)], args := [d1, d2] }
  | _ => none }
def AutoLeastWrongFalsely : Prop := autoLeastRow.holds Tryz.pinned (OpenSpec.ofChange autoLeastWrong)

/- THE SECOND FORM. 'bulk': how many values and letters a reading holds, each counted each time it is reached (what is shared counts as often as it is met; a slice's spare places count too). A statement '..UptoSaid' is the law's where the arguments, and the package variables that the reading takes, are together of bulk at most 1048576: NARROWER than '..Said'. Prove '..Said' where nothing that the law and all that it calls make is longer than what came in: it says more and counts as full. Else prove '..UptoSaid'. A law counts once. -/
mutual
def uptoBulk {H : Type} : DataW H → Nat
  | .lit (.string bytes) => bytes.length + 1
  | .lit _ => 1
  | .nil => 1
  | .ptr d => uptoBulk d + 1
  | .slice elems spare => uptoBulkAll elems + uptoBulkAll spare + 1
  | .agg parts => uptoBulkAll parts + 1
  | .iface _ d => uptoBulk d + 1
  | .map entries => uptoBulkEntries entries + 1
  | .held _ => 1
def uptoBulkAll {H : Type} : List (DataW H) → Nat
  | [] => 0
  | d :: r => uptoBulk d + uptoBulkAll r
def uptoBulkEntries {H : Type} : List (Lit × DataW H) → Nat
  | [] => 0
  | x :: r => uptoBulkEntry x + uptoBulkEntries r
def uptoBulkEntry {H : Type} : Lit × DataW H → Nat
  | (.string bytes, d) => bytes.length + uptoBulk d + 1
  | (_, d) => uptoBulk d + 1
 end
def uptoSmall : (H : Type) → List (DataW H) → Bool := fun _ ds => decide (uptoBulkAll ds ≤ 1048576)
def OpenSpec.upto (s : _root_.Go.ChangeSpec) : _root_.Go.OpenSpec := { _root_.Go.OpenSpec.ofChange s with cond := some uptoSmall }

/-- 'periscopelaw06.DfaLives', WHERE WHAT IT READS IS OF BULK AT MOST 1048576: true; the input reads as it did. -/
def dfaLivesUptoRow : OpenClaim := { program := "ytjcfnmjjkadaeaagreatdoor", sum := "28a2fa621e6a6f0de11428420b8fc43f8fd831bb0da5baea23aa010be44e6ee0", func := "periscope/periscopelaw06.DfaLives", spec := "dfaLives", inPlace := ["internal/bytealg.Compare", "sync/atomic.LoadInt64", "sync/atomic.CompareAndSwapInt64", "sync/atomic.LoadUint32", "(*internal/sync.Mutex).Lock", "internal/race.Disable", "sync/atomic.CompareAndSwapInt32", "internal/race.Enable", "internal/race.Acquire", "(*internal/sync.Mutex).lockSlow", "internal/sync.runtime_canSpin", "internal/sync.runtime_doSpin", "internal/sync.throw", "internal/sync.runtime_nanotime", "internal/sync.runtime_SemacquireMutex", "sync/atomic.AddInt32", "(*internal/sync.Mutex).Unlock", "internal/race.ReleaseMerge", "(*internal/sync.Mutex).unlockSlow", "internal/sync.fatal", "internal/sync.runtime_Semrelease", "sync/atomic.StoreUint32"], unfollowed := true, recurses := true, named := ["math/bits.deBruijn64tab"], loops := true, apart := false, laid := [("math/bits.deBruijn64tab", laid_math_bits_deBruijn64tab)], narrowed := true }
def DfaLivesUptoSaid : Prop := dfaLivesUptoRow.holds Tryz.pinned (OpenSpec.upto dfaLivesSpec)

/-- 'periscopelaw07.AutoWitness', WHERE WHAT IT READS IS OF BULK AT MOST 1048576: true; the input reads as it did. -/
def autoWitnessUptoRow : OpenClaim := { program := "ytjcfnmjjkadaeaagreatdoor", sum := "28a2fa621e6a6f0de11428420b8fc43f8fd831bb0da5baea23aa010be44e6ee0", func := "periscope/periscopelaw07.AutoWitness", spec := "autoWitness", inPlace := ["internal/bytealg.Compare", "sync/atomic.LoadInt64", "sync/atomic.CompareAndSwapInt64"], unfollowed := true, recurses := true, named := ["math/bits.deBruijn64tab"], loops := true, apart := false, laid := [("math/bits.deBruijn64tab", laid_math_bits_deBruijn64tab)], narrowed := true }
def AutoWitnessUptoSaid : Prop := autoWitnessUptoRow.holds Tryz.pinned (OpenSpec.upto autoWitnessSpec)

/-- 'periscopelaw07.AutoPairs', WHERE WHAT IT READS IS OF BULK AT MOST 1048576: true; the input reads as it did. -/
def autoPairsUptoRow : OpenClaim := { program := "ytjcfnmjjkadaeaagreatdoor", sum := "28a2fa621e6a6f0de11428420b8fc43f8fd831bb0da5baea23aa010be44e6ee0", func := "periscope/periscopelaw07.AutoPairs", spec := "autoPairs", inPlace := ["internal/bytealg.Compare", "sync/atomic.LoadInt64", "sync/atomic.CompareAndSwapInt64"], unfollowed := true, recurses := true, named := ["math/bits.deBruijn64tab"], loops := true, apart := false, laid := [("math/bits.deBruijn64tab", laid_math_bits_deBruijn64tab)], narrowed := true }
def AutoPairsUptoSaid : Prop := autoPairsUptoRow.holds Tryz.pinned (OpenSpec.upto autoPairsSpec)

/-- 'periscopelaw07.AutoGroups', WHERE WHAT IT READS IS OF BULK AT MOST 1048576: true; the input reads as it did. -/
def autoGroupsUptoRow : OpenClaim := { program := "ytjcfnmjjkadaeaagreatdoor", sum := "28a2fa621e6a6f0de11428420b8fc43f8fd831bb0da5baea23aa010be44e6ee0", func := "periscope/periscopelaw07.AutoGroups", spec := "autoGroups", inPlace := ["internal/bytealg.Compare", "sync/atomic.LoadInt64", "sync/atomic.CompareAndSwapInt64"], unfollowed := true, recurses := true, named := ["math/bits.deBruijn64tab"], loops := true, apart := false, laid := [("math/bits.deBruijn64tab", laid_math_bits_deBruijn64tab)], narrowed := true }
def AutoGroupsUptoSaid : Prop := autoGroupsUptoRow.holds Tryz.pinned (OpenSpec.upto autoGroupsSpec)

/-- 'periscopelaw07.AutoLeast', WHERE WHAT IT READS IS OF BULK AT MOST 1048576: true; the input reads as it did. -/
def autoLeastUptoRow : OpenClaim := { program := "ytjcfnmjjkadaeaagreatdoor", sum := "28a2fa621e6a6f0de11428420b8fc43f8fd831bb0da5baea23aa010be44e6ee0", func := "periscope/periscopelaw07.AutoLeast", spec := "autoLeast", inPlace := ["internal/bytealg.Compare", "sync/atomic.LoadInt64", "sync/atomic.CompareAndSwapInt64"], unfollowed := true, recurses := true, named := ["math/bits.deBruijn64tab"], loops := true, apart := false, laid := [("math/bits.deBruijn64tab", laid_math_bits_deBruijn64tab)], narrowed := true }
def AutoLeastUptoSaid : Prop := autoLeastUptoRow.holds Tryz.pinned (OpenSpec.upto autoLeastSpec)

end Rows
end Go.Proofs.YtjcfnmjjkadaeaaGreatDoor
