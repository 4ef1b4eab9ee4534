/-
  NARROWER THAN 'FOR EVERY INPUT', by the rows' own cells (each row's printed sentence says how): DfaBuilds: loops, laid · DfaTexts: loops, laid · DfaBytes: loops, laid · DfaLives: loops, laid · DfaBudgets: laid.
  DERIVED. THE GIVEN ROWS OF THIS SEAT. 5 by the template 'for every input the law returns true; each argument reads behind the call as it read before'; 0 by the template 'total and deterministic' (their statements: YtaljhelldobghaaGreatDoorTotals.lean).
  GIVEN WITH THE SEED: the statements are not yours to turn. If you find one false, say at which input.
  Laid BY PROGRAM, IN A SANDBOX (cutbox-rows.mjs): the forced cells as the released guide's own fill.sh prints them over the translation 092988eda2836181… (all of the seat's roots in one cut). By AI agents, Wed Nov 11 2026. No macro, syntax, notation, axiom, sorry.
-/
import Derived.Test.YtaljhelldobghaaGreatDoorChecked
import GoSem.Claim
import GoSem.ClaimJoined
import GoSem.ClaimMapViews
import Derived.JoinedTies
import Derived.KernelRfl
namespace Go.Proofs.YtaljhelldobghaaGreatDoor
/- THE CELL 'sum', in the pinned program and in every row, IS THE sha256 OF THE DUMP (.gsa) THAT YtaljhelldobghaaGreatDoorProg.lean LOADS. Nothing in Lean hashes anything: it is a label: what it is worth is what the hold of that sum in a sandbox is worth. -/
noncomputable def Tryz.pinned : Pinned := { name := "ytaljhelldobghaagreatdoor", sum := "092988eda28361816f2f75b4c06f675a516c3f2667b108d30b2dae313617c094", checked := Tryz.checked }
namespace Rows
def none {H : Type} : Left H := { results := [], args := [] }

/- WHAT THE LISTED PACKAGE-LEVEL VARIABLES READ AS WHEN THE CALL BEGINS. Each datum BY PROGRAM (the guide's laid-datum.mjs) off the statement by which the dump's own 'gosem.cut.vars' lays the variable. In a bare row this is a premise. The card (YtaljhelldobghaaGreatDoorCards.lean) ties it to the program's text. -/
def laid_math_bits_deBruijn64tab {H : Type} : DataW H := .agg [.lit (.int .u8 0), .lit (.int .u8 1), .lit (.int .u8 56), .lit (.int .u8 2), .lit (.int .u8 57), .lit (.int .u8 49), .lit (.int .u8 28), .lit (.int .u8 3), .lit (.int .u8 61), .lit (.int .u8 58), .lit (.int .u8 42), .lit (.int .u8 50), .lit (.int .u8 38), .lit (.int .u8 29), .lit (.int .u8 17), .lit (.int .u8 4), .lit (.int .u8 62), .lit (.int .u8 47), .lit (.int .u8 59), .lit (.int .u8 36), .lit (.int .u8 45), .lit (.int .u8 43), .lit (.int .u8 51), .lit (.int .u8 22), .lit (.int .u8 53), .lit (.int .u8 39), .lit (.int .u8 33), .lit (.int .u8 30), .lit (.int .u8 24), .lit (.int .u8 18), .lit (.int .u8 12), .lit (.int .u8 5), .lit (.int .u8 63), .lit (.int .u8 55), .lit (.int .u8 48), .lit (.int .u8 27), .lit (.int .u8 60), .lit (.int .u8 41), .lit (.int .u8 37), .lit (.int .u8 16), .lit (.int .u8 46), .lit (.int .u8 35), .lit (.int .u8 44), .lit (.int .u8 21), .lit (.int .u8 52), .lit (.int .u8 32), .lit (.int .u8 23), .lit (.int .u8 11), .lit (.int .u8 54), .lit (.int .u8 26), .lit (.int .u8 40), .lit (.int .u8 15), .lit (.int .u8 34), .lit (.int .u8 20), .lit (.int .u8 31), .lit (.int .u8 10), .lit (.int .u8 25), .lit (.int .u8 14), .lit (.int .u8 19), .lit (.int .u8 9), .lit (.int .u8 13), .lit (.int .u8 8), .lit (.int .u8 7), .lit (.int .u8 6)]

/-- 'periscopelaw06.DfaBuilds': WHATEVER THE INPUT: true; the input reads as it did. -/
def dfaBuildsSpec : ChangeSpec := { name := "dfaBuilds", fn := fun _ => fun
  | [d] => { results := [.lit (.bool true)], args := [d] }
  | _ => none }
def dfaBuildsRow : OpenClaim := { program := "ytaljhelldobghaagreatdoor", sum := "092988eda28361816f2f75b4c06f675a516c3f2667b108d30b2dae313617c094", func := "periscope/periscopelaw06.DfaBuilds", spec := "dfaBuilds", inPlace := ["internal/bytealg.Compare", "sync/atomic.LoadInt64", "sync/atomic.CompareAndSwapInt64"], unfollowed := true, recurses := true, named := ["math/bits.deBruijn64tab"], loops := true, apart := false, laid := [("math/bits.deBruijn64tab", laid_math_bits_deBruijn64tab)] }
def DfaBuildsSaid : Prop := dfaBuildsRow.holds Tryz.pinned (OpenSpec.ofChange dfaBuildsSpec)

/-- ITS FALSE NEIGHBOUR: 'it returns false'. Refute it at one input. -/
def dfaBuildsWrong : ChangeSpec := { name := "dfaBuilds", fn := fun _ => fun
  | [d] => { results := [.lit (.bool false)], args := [d] }
  | _ => none }
def DfaBuildsWrongFalsely : Prop := dfaBuildsRow.holds Tryz.pinned (OpenSpec.ofChange dfaBuildsWrong)

/-- 'periscopelaw06.DfaTexts': WHATEVER THE INPUT: true; the input reads as it did. -/
def dfaTextsSpec : ChangeSpec := { name := "dfaTexts", fn := fun _ => fun
  | [d1, d2, d3] => { results := [.lit (.bool true)], args := [d1, d2, d3] }
  | _ => none }
def dfaTextsRow : OpenClaim := { program := "ytaljhelldobghaagreatdoor", sum := "092988eda28361816f2f75b4c06f675a516c3f2667b108d30b2dae313617c094", func := "periscope/periscopelaw06.DfaTexts", spec := "dfaTexts", inPlace := ["internal/bytealg.Compare", "sync/atomic.LoadInt64", "sync/atomic.CompareAndSwapInt64"], unfollowed := true, recurses := true, named := ["math/bits.deBruijn64tab"], loops := true, apart := false, laid := [("math/bits.deBruijn64tab", laid_math_bits_deBruijn64tab)] }
def DfaTextsSaid : Prop := dfaTextsRow.holds Tryz.pinned (OpenSpec.ofChange dfaTextsSpec)

/-- ITS FALSE NEIGHBOUR: 'it returns false'. Refute it at one input. -/
def dfaTextsWrong : ChangeSpec := { name := "dfaTexts", fn := fun _ => fun
  | [d1, d2, d3] => { results := [.lit (.bool false)], args := [d1, d2, d3] }
  | _ => none }
def DfaTextsWrongFalsely : Prop := dfaTextsRow.holds Tryz.pinned (OpenSpec.ofChange dfaTextsWrong)

/-- 'periscopelaw06.DfaBytes': WHATEVER THE INPUT: true; the input reads as it did. -/
def dfaBytesSpec : ChangeSpec := { name := "dfaBytes", fn := fun _ => fun
  | [d] => { results := [.lit (.bool true)], args := [d] }
  | _ => none }
def dfaBytesRow : OpenClaim := { program := "ytaljhelldobghaagreatdoor", sum := "092988eda28361816f2f75b4c06f675a516c3f2667b108d30b2dae313617c094", func := "periscope/periscopelaw06.DfaBytes", spec := "dfaBytes", inPlace := ["internal/bytealg.Compare", "sync/atomic.LoadInt64", "sync/atomic.CompareAndSwapInt64"], unfollowed := true, recurses := true, named := ["math/bits.deBruijn64tab"], loops := true, apart := false, laid := [("math/bits.deBruijn64tab", laid_math_bits_deBruijn64tab)] }
def DfaBytesSaid : Prop := dfaBytesRow.holds Tryz.pinned (OpenSpec.ofChange dfaBytesSpec)

/-- ITS FALSE NEIGHBOUR: 'it returns false'. Refute it at one input. -/
def dfaBytesWrong : ChangeSpec := { name := "dfaBytes", fn := fun _ => fun
  | [d] => { results := [.lit (.bool false)], args := [d] }
  | _ => none }
def DfaBytesWrongFalsely : Prop := dfaBytesRow.holds Tryz.pinned (OpenSpec.ofChange dfaBytesWrong)

/-- 'periscopelaw06.DfaLives': WHATEVER THE INPUT: true; the input reads as it did. -/
def dfaLivesSpec : ChangeSpec := { name := "dfaLives", fn := fun _ => fun
  | [d] => { results := [.lit (.bool true)], args := [d] }
  | _ => none }
def dfaLivesRow : OpenClaim := { program := "ytaljhelldobghaagreatdoor", sum := "092988eda28361816f2f75b4c06f675a516c3f2667b108d30b2dae313617c094", func := "periscope/periscopelaw06.DfaLives", spec := "dfaLives", inPlace := ["internal/bytealg.Compare", "sync/atomic.LoadInt64", "sync/atomic.CompareAndSwapInt64", "sync/atomic.LoadUint32", "(*internal/sync.Mutex).Lock", "internal/race.Disable", "sync/atomic.CompareAndSwapInt32", "internal/race.Enable", "internal/race.Acquire", "(*internal/sync.Mutex).lockSlow", "internal/sync.runtime_canSpin", "internal/sync.runtime_doSpin", "internal/sync.throw", "internal/sync.runtime_nanotime", "internal/sync.runtime_SemacquireMutex", "sync/atomic.AddInt32", "(*internal/sync.Mutex).Unlock", "internal/race.ReleaseMerge", "(*internal/sync.Mutex).unlockSlow", "internal/sync.fatal", "internal/sync.runtime_Semrelease", "sync/atomic.StoreUint32"], unfollowed := true, recurses := true, named := ["math/bits.deBruijn64tab"], loops := true, apart := false, laid := [("math/bits.deBruijn64tab", laid_math_bits_deBruijn64tab)] }
def DfaLivesSaid : Prop := dfaLivesRow.holds Tryz.pinned (OpenSpec.ofChange dfaLivesSpec)

/-- ITS FALSE NEIGHBOUR: 'it returns false'. Refute it at one input. -/
def dfaLivesWrong : ChangeSpec := { name := "dfaLives", fn := fun _ => fun
  | [d] => { results := [.lit (.bool false)], args := [d] }
  | _ => none }
def DfaLivesWrongFalsely : Prop := dfaLivesRow.holds Tryz.pinned (OpenSpec.ofChange dfaLivesWrong)

/-- 'periscopelaw06.DfaBudgets': WHATEVER THE INPUT: true; the input reads as it did. -/
def dfaBudgetsSpec : ChangeSpec := { name := "dfaBudgets", fn := fun _ => fun
  | [d1, d2] => { results := [.lit (.bool true)], args := [d1, d2] }
  | _ => none }
def dfaBudgetsRow : OpenClaim := { program := "ytaljhelldobghaagreatdoor", sum := "092988eda28361816f2f75b4c06f675a516c3f2667b108d30b2dae313617c094", func := "periscope/periscopelaw06.DfaBudgets", spec := "dfaBudgets", inPlace := ["internal/bytealg.Compare", "sync/atomic.LoadInt64", "sync/atomic.CompareAndSwapInt64"], unfollowed := true, recurses := true, named := ["math/bits.deBruijn64tab"], apart := false, laid := [("math/bits.deBruijn64tab", laid_math_bits_deBruijn64tab)] }
def DfaBudgetsSaid : Prop := dfaBudgetsRow.holds Tryz.pinned (OpenSpec.ofChange dfaBudgetsSpec)

/-- ITS FALSE NEIGHBOUR: 'it returns false'. Refute it at one input. -/
def dfaBudgetsWrong : ChangeSpec := { name := "dfaBudgets", fn := fun _ => fun
  | [d1, d2] => { results := [.lit (.bool false)], args := [d1, d2] }
  | _ => none }
def DfaBudgetsWrongFalsely : Prop := dfaBudgetsRow.holds Tryz.pinned (OpenSpec.ofChange dfaBudgetsWrong)

/- THE SECOND FORM. 'bulk': how many values and letters a reading holds, each counted each time it is reached (what is shared counts as often as it is met; a slice's spare places count too). A statement '..UptoSaid' is the law's where the arguments, and the package variables that the reading takes, are together of bulk at most 1048576: NARROWER than '..Said'. Prove '..Said' where nothing that the law and all that it calls make is longer than what came in: it says more and counts as full. Else prove '..UptoSaid'. A law counts once. -/
mutual
def uptoBulk {H : Type} : DataW H → Nat
  | .lit (.string bytes) => bytes.length + 1
  | .lit _ => 1
  | .nil => 1
  | .ptr d => uptoBulk d + 1
  | .slice elems spare => uptoBulkAll elems + uptoBulkAll spare + 1
  | .agg parts => uptoBulkAll parts + 1
  | .iface _ d => uptoBulk d + 1
  | .map entries => uptoBulkEntries entries + 1
  | .held _ => 1
def uptoBulkAll {H : Type} : List (DataW H) → Nat
  | [] => 0
  | d :: r => uptoBulk d + uptoBulkAll r
def uptoBulkEntries {H : Type} : List (Lit × DataW H) → Nat
  | [] => 0
  | x :: r => uptoBulkEntry x + uptoBulkEntries r
def uptoBulkEntry {H : Type} : Lit × DataW H → Nat
  | (.string bytes, d) => bytes.length + uptoBulk d + 1
  | (_, d) => uptoBulk d + 1
 end
def uptoSmall : (H : Type) → List (DataW H) → Bool := fun _ ds => decide (uptoBulkAll ds ≤ 1048576)
def OpenSpec.upto (s : _root_.Go.ChangeSpec) : _root_.Go.OpenSpec := { _root_.Go.OpenSpec.ofChange s with cond := some uptoSmall }

/-- 'periscopelaw06.DfaBuilds', WHERE WHAT IT READS IS OF BULK AT MOST 1048576: true; the input reads as it did. -/
def dfaBuildsUptoRow : OpenClaim := { program := "ytaljhelldobghaagreatdoor", sum := "092988eda28361816f2f75b4c06f675a516c3f2667b108d30b2dae313617c094", func := "periscope/periscopelaw06.DfaBuilds", spec := "dfaBuilds", inPlace := ["internal/bytealg.Compare", "sync/atomic.LoadInt64", "sync/atomic.CompareAndSwapInt64"], unfollowed := true, recurses := true, named := ["math/bits.deBruijn64tab"], loops := true, apart := false, laid := [("math/bits.deBruijn64tab", laid_math_bits_deBruijn64tab)], narrowed := true }
def DfaBuildsUptoSaid : Prop := dfaBuildsUptoRow.holds Tryz.pinned (OpenSpec.upto dfaBuildsSpec)

/-- 'periscopelaw06.DfaTexts', WHERE WHAT IT READS IS OF BULK AT MOST 1048576: true; the input reads as it did. -/
def dfaTextsUptoRow : OpenClaim := { program := "ytaljhelldobghaagreatdoor", sum := "092988eda28361816f2f75b4c06f675a516c3f2667b108d30b2dae313617c094", func := "periscope/periscopelaw06.DfaTexts", spec := "dfaTexts", inPlace := ["internal/bytealg.Compare", "sync/atomic.LoadInt64", "sync/atomic.CompareAndSwapInt64"], unfollowed := true, recurses := true, named := ["math/bits.deBruijn64tab"], loops := true, apart := false, laid := [("math/bits.deBruijn64tab", laid_math_bits_deBruijn64tab)], narrowed := true }
def DfaTextsUptoSaid : Prop := dfaTextsUptoRow.holds Tryz.pinned (OpenSpec.upto dfaTextsSpec)

/-- 'periscopelaw06.DfaBytes', WHERE WHAT IT READS IS OF BULK AT MOST 1048576: true; the input reads as it did. -/
def dfaBytesUptoRow : OpenClaim := { program := "ytaljhelldobghaagreatdoor", sum := "092988eda28361816f2f75b4c06f675a516c3f2667b108d30b2dae313617c094", func := "periscope/periscopelaw06.DfaBytes", spec := "dfaBytes", inPlace := ["internal/bytealg.Compare", "sync/atomic.LoadInt64", "sync/atomic.CompareAndSwapInt64"], unfollowed := true, recurses := true, named := ["math/bits.deBruijn64tab"], loops := true, apart := false, laid := [("math/bits.deBruijn64tab", laid_math_bits_deBruijn64tab)], narrowed := true }
def DfaBytesUptoSaid : Prop := dfaBytesUptoRow.holds Tryz.pinned (OpenSpec.upto dfaBytesSpec)

/-- 'periscopelaw06.DfaLives', WHERE WHAT IT READS IS OF BULK AT MOST 1048576: true; the input reads as it did. -/
def dfaLivesUptoRow : OpenClaim := { program := "ytaljhelldobghaagreatdoor", sum := "092988eda28361816f2f75b4c06f675a516c3f2667b108d30b2dae313617c094", func := "periscope/periscopelaw06.DfaLives", spec := "dfaLives", inPlace := ["internal/bytealg.Compare", "sync/atomic.LoadInt64", "sync/atomic.CompareAndSwapInt64", "sync/atomic.LoadUint32", "(*internal/sync.Mutex).Lock", "internal/race.Disable", "sync/atomic.CompareAndSwapInt32", "internal/race.Enable", "internal/race.Acquire", "(*internal/sync.Mutex).lockSlow", "internal/sync.runtime_canSpin", "internal/sync.runtime_doSpin", "internal/sync.throw", "internal/sync.runtime_nanotime", "internal/sync.runtime_SemacquireMutex", "sync/atomic.AddInt32", "(*internal/sync.Mutex).Unlock", "internal/race.ReleaseMerge", "(*internal/sync.Mutex).unlockSlow", "internal/sync.fatal", "internal/sync.runtime_Semrelease", "sync/atomic.StoreUint32"], unfollowed := true, recurses := true, named := ["math/bits.deBruijn64tab"], loops := true, apart := false, laid := [("math/bits.deBruijn64tab", laid_math_bits_deBruijn64tab)], narrowed := true }
def DfaLivesUptoSaid : Prop := dfaLivesUptoRow.holds Tryz.pinned (OpenSpec.upto dfaLivesSpec)

/-- 'periscopelaw06.DfaBudgets', WHERE WHAT IT READS IS OF BULK AT MOST 1048576: true; the input reads as it did. -/
def dfaBudgetsUptoRow : OpenClaim := { program := "ytaljhelldobghaagreatdoor", sum := "092988eda28361816f2f75b4c06f675a516c3f2667b108d30b2dae313617c094", func := "periscope/periscopelaw06.DfaBudgets", spec := "dfaBudgets", inPlace := ["internal/bytealg.Compare", "sync/atomic.LoadInt64", "sync/atomic.CompareAndSwapInt64"], unfollowed := true, recurses := true, named := ["math/bits.deBruijn64tab"], apart := false, laid := [("math/bits.deBruijn64tab", laid_math_bits_deBruijn64tab)], narrowed := true }
def DfaBudgetsUptoSaid : Prop := dfaBudgetsUptoRow.holds Tryz.pinned (OpenSpec.upto dfaBudgetsSpec)

end Rows
end Go.Proofs.YtaljhelldobghaaGreatDoor
