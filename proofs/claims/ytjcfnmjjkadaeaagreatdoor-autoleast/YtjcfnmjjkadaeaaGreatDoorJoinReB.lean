/- Texts of this claim put together: Row, MathNext, Marks, Gen, ReA, MathBud, ReB. -/
import Derived.Test.YtjcfnmjjkadaeaaGreatDoorJoinSetD
import Derived.Test.YtjcfnmjjkadaeaaGreatDoorJoinSetG
import Derived.Deep.AppendLies
import Derived.Deep.MidRow
import Derived.Laws.BytesArg
import Derived.BigGuardIn
import Derived.LaidEqlPtr
/- Slices that came in. -/
namespace Go.Proofs.YtjcfnmjjkadaeaaGreatDoor
set_option maxRecDepth 100000
open Go.RowKit

/-- A slice of bytes that came in. -/
def BytesRow (w : World) (v : Value) (l : List Nat) : Prop :=
  (∀ x ∈ l, x < 256) ∧ l.length ≤ 9223372036854775807 ∧ ∃ a cap, v = .slice a l.length cap ∧ ∀ k, k < l.length → ∃ b off, a = some ⟨b, off, none⟩ ∧ b < w.heap.size ∧ w.cell? ⟨b, off + k, none⟩ = some (.int .u8 (l.getD k 0))

/-- A slice of sets. -/
def SetsRow (w : World) (v : Value) (l : List (BitVec 256)) : Prop :=
  l.length ≤ 9223372036854775807 ∧ ∃ a cap, v = .slice a l.length cap ∧ ∀ k, k < l.length → ∃ b off, a = some ⟨b, off, none⟩ ∧ b < w.heap.size ∧ ∀ j, j < 4 → w.cell? ⟨b, off + k * 4 + j, none⟩ = some (.int .u64 (wd (l.getD k 0) j))
theorem SetsRow.below {w w' : World} {v : Value} {l : List (BitVec 256)} (h : SetsRow w v l) (hb : Below w.heap.size w w') : SetsRow w' v l := by
  obtain ⟨h1, a, cap, rfl, h2⟩ := h
  refine ⟨h1, a, cap, rfl, fun k hk => ?_⟩
  obtain ⟨b, off, e, hlt, hc⟩ := h2 k hk
  refine ⟨b, off, e, Nat.lt_of_lt_of_le hlt hb.size, fun j hj => ?_⟩
  rw [← hc j hj]
  exact World.cell?_of_block (w := w) (hb.block b hlt)

end Go.Proofs.YtjcfnmjjkadaeaaGreatDoor
/- What comes next in a set: bytes and runs, in order. -/
namespace Go.Proofs.YtjcfnmjjkadaeaaGreatDoor
set_option maxRecDepth 100000

/-- One above the last byte that came. -/
def nxt (pre : List Nat) : Nat := (pre.getLast?.map (· + 1)).getD 0
theorem mem_bytes (s : BitVec 256) (j : Nat) : j ∈ bytesOf s ↔ j < 256 ∧ s.getLsbD j = true := by
  rw [bytesOf_filter, List.mem_filter, List.mem_range]
/-- The bytes of a run. -/
def runB (r : Nat × Nat) : List Nat := List.range' r.1 (r.2 + 1 - r.1)
/-- Runs that lie apart, each not empty. -/
def RunsOk (rs : List (Nat × Nat)) : Prop := (∀ r ∈ rs, r.1 ≤ r.2) ∧ rs.Pairwise fun r q => r.2 + 1 < q.1
/-- One above the last run that came. -/
def nxr (pre : List (Nat × Nat)) : Nat := (pre.getLast?.map (·.2 + 1)).getD 0
/-- How many bytes are in some runs. -/
def tot (rs : List (Nat × Nat)) : Nat := (rs.flatMap runB).length
end Go.Proofs.YtjcfnmjjkadaeaaGreatDoor
/- Leaving a function that ranged over functions: several marks. -/
namespace Go.Proofs.YtjcfnmjjkadaeaaGreatDoor
set_option maxRecDepth 100000
open Go.RowKit

/-- Several blocks for deferred calls, shut one behind the other. -/
def shutAll (W : World) : List Nat → World
  | [] => W
  | D :: Ds => shutAll (W.putObj D (.deferred none)) Ds
theorem leaves_marks {P : Program} {fn : Func} {R : Ending → World → Prop} {tmps : Array Value} {v : Value} : ∀ (Ds : List Nat) (W : World), Ds.Nodup → (∀ D ∈ Ds, W.heap[D]? = some (.deferred (some []))) →
    (results fn tmps).run P (shutAll W Ds) = .ok v (shutAll W Ds) → R (.returned v) (shutAll W Ds) → LeavesInM Fence.wide 0 P fn tmps R (Ds.map fun D => { target := .collected D, args := #[] }) .returning W
  | [], W, _, _, hr, hR => ⟨_, hr, hR⟩
  | D :: Ds, W, hn, hD, hr, hR => by
    refine ⟨by simp, .inl ⟨D, _, rfl, run_takeDeferred (hD D (by simp)), ?_⟩⟩
    refine leaves_marks Ds _ (List.nodup_cons.1 hn).2 (fun D' h' => ?_) hr hR
    have hne : D' ≠ D := fun e => (List.nodup_cons.1 hn).1 (e ▸ h')
    exact (World.putObj_heap_other hne).trans (hD D' (by simp [h']))
theorem Blk.shutAll {b : Nat} {c : Array Value} {t : TypeId} : ∀ (Ds : List Nat) {w : World}, Blk w b c t → (∀ D ∈ Ds, b ≠ D) → Blk (shutAll w Ds) b c t
  | [], _, h, _ => h
  | D :: Ds, _, h, hn => Blk.shutAll Ds (h.putObj D _ (hn D (by simp))) (fun D' h' => hn D' (by simp [h']))
theorem below_shutAll {B : Nat} {a : World} : ∀ (Ds : List Nat) {w : World}, Below B a w → (∀ D ∈ Ds, B ≤ D) → Below B a (shutAll w Ds)
  | [], _, h, _ => h
  | D :: Ds, _, h, hn => below_shutAll Ds (below_put h (hn D (by simp)) _) (fun D' h' => hn D' (by simp [h']))
end Go.Proofs.YtjcfnmjjkadaeaaGreatDoor
/- General laws: operations of regions, appends, what is kept. -/
namespace Go.Proofs.YtjcfnmjjkadaeaaGreatDoor
set_option maxRecDepth 100000
open Go.RowKit

def sA : BitVec 256 := setOf [97]
def sAB : BitVec 256 := setOf [97, 98]
def sB : BitVec 256 := setOf [98]

theorem own_below {base e size n : Nat} {v : Value} {xs : List Value} {W W' : World} (h : W.ownsRow base e size v n xs) (hb : Below W.heap.size W W') : W'.ownsRow base e size v n xs := by
  refine ⟨h.1, ?_⟩
  rcases h.2 with h2 | ⟨g, cap, cur, h1, h2, h3, h4⟩
  · exact .inl h2
  · exact .inr ⟨g, cap, cur, h1, h2, (hb.block g (Array.getElem?_eq_some_iff.1 h3).1).trans h3, h4⟩

theorem below_setCells {B : Nat} {a : World} (b : Nat) (hb : B ≤ b) : ∀ (vs : List Value) (o : Nat) {w : World}, Below B a w → Below B a (w.setCells b o vs)
  | [], _, _, h => h
  | _ :: r, _, _, h => below_setCells b hb r _ (h.setCell hb _)
theorem heap_setCells (b k : Nat) (hk : k ≠ b) : ∀ (vs : List Value) (o : Nat) (w : World), (w.setCells b o vs).heap[k]? = w.heap[k]?
  | [], _, _ => rfl
  | _ :: r, _, _ => (heap_setCells b k hk r _ _).trans (Below.heap_setCell _ _ _ _ hk)

theorem size_setCells (b : Nat) : ∀ (vs : List Value) (o : Nat) (w : World), (w.setCells b o vs).heap.size = w.heap.size
  | [], _, _ => rfl
  | _ :: r, _, _ => (size_setCells b r _ _).trans (by simp [World.setCell])

theorem x_loadAt (ρ : Operand → Value) (d : Option Tmp) (x : Operand) (t : TypeId) (pos : String) (af : Array Edge) (g : Option (Nat × Bool)) (b o : Nat) (s : BitVec 256) (hx : ρ x = .pointer (some ⟨b, o, none⟩)) (w : World) (hB : ∀ j, j < 4 → w.cell? ⟨b, o + j, none⟩ = some (.int .u64 (wd s j))) :
    (execOp ρ { dst := d, op := .load 89 x, type := t, pos := pos, after := af, guard := g }).run Tryz.prog w = .ok (.value (SV s)) w := by
  have c0 := hB 0 (by omega); have c1 := hB 1 (by omega); have c2 := hB 2 (by omega); have c3 := hB 3 (by omega)
  rw [Nat.add_zero] at c0
  simp [go_sem, hx, c0, c1, c2, c3]
section
variable {ops : Array Oper} {S : World → Prop} {Q : Exit → Act → World → Prop} {fuel : Nat} {listed : Array Bool} {a : Act} {w : World} {oi : Oper} {rest : List Oper}
/-- Whatever is ready alone. -/
theorem h_oper (i : Nat) (hi : ops.toList.drop i = oi :: rest) (hr : Region.ready .any ops listed = [i]) (hw : Region.wanted oi (yielded ops a.tmps) = true)
    (h : oi.wp Tryz.prog a w (fun a' w' => S w' ∧ wpAnyH Tryz.prog .any ops (NoPanic Q) S fuel (listed.setIfInBounds i true) a' w') (NoPanic Q)) : wpAnyH Tryz.prog .any ops (NoPanic Q) S (fuel + 1) listed a w := by
  refine wpAnyH_all hr (by simp) ?_
  intro j hj
  obtain rfl : j = i := by simpa using hj
  unfold wpOp
  simp only [at_drop hi, hw, if_true]
  exact .inl h
/-- A call that is ready alone, with all that it tells. -/
theorem h_callE (i : Nat) (f : FuncId) (vs : Array Value) (R : Value → World → Prop) (hi : ops.toList.drop i = oi :: rest) (hr : Region.ready .any ops listed = [i])
    (hw : Region.wanted oi (yielded ops a.tmps) = true) (hv : (execOp a.eval oi).run Tryz.prog w = .ok (.enter f vs) w)
    (hc : Calls Tryz.prog f vs w fun e w' => ∃ v, e = .returned v ∧ R v w') (hRS : ∀ v w', R v w' → S w')
    (h : ∀ v w', R v w' → wpAnyH Tryz.prog .any ops (NoPanic Q) S fuel (listed.setIfInBounds i true) (a.put oi.dst v) w') : wpAnyH Tryz.prog .any ops (NoPanic Q) S (fuel + 1) listed a w := by
  refine h_oper i hi hr hw ?_
  unfold Oper.wp
  rw [hv, Oper.upon_enter]
  refine hc.mono ?_
  rintro e w' ⟨v, rfl, hR⟩
  exact ⟨hRS v w' hR, h v w' hR⟩
end

theorem x_neqS (ρ : Operand → Value) (d : Option Tmp) (x y : Operand) (t : TypeId) (pos : String) (af : Array Edge) (g : Option (Nat × Bool)) (u v : BitVec 256) (hx : ρ x = SV u) (hy : ρ y = SV v) (w : World) :
    (execOp ρ { dst := d, op := .binOp .neq 89 x y 89, type := t, pos := pos, after := af, guard := g }).run Tryz.prog w = .ok (.value (.bool (u != v))) w := by
  have h := eqSV u v
  simp [go_sem, hx, hy, h, bne]
theorem below_grown {N : Nat} {w0 W W' : World} {v : Value} {e size n : Nat} {xs : List Value} (h : Below N w0 W) (hg : W.grownBy W' v.ownBlock) (ho : W.ownsRow N e size v n xs) (hN : N ≤ w0.heap.size) : Below N w0 W' := by
  have hne : ∀ k, k < N → some k ≠ v.ownBlock := fun k hk e => by
    rcases ho.2 with ⟨rfl, -⟩ | ⟨g, cap, cur, rfl, h2, -⟩
    · cases e
    · simp [Value.ownBlock] at e; omega
  exact ⟨hg.os.trans h.os, hg.tape.trans h.tape, hg.output.trans h.output, Nat.le_trans h.size hg.size, fun k hk => (hg.block k (by have := h.size; omega) (hne k hk)).trans (h.block k hk)⟩
/-- The number in a block of one cell. -/
def cellNat (W : World) (b : Nat) : Nat := match W.cell? ⟨b, 0, none⟩ with | some v => (intOf v).toNat | none => 0
theorem bytesOf_le (s : BitVec 256) : (bytesOf s).length ≤ 256 := by
  have h2 := List.length_filter_le (fun b => s.getLsbD b) (List.range 256)
  rw [← bytesOf_filter] at h2
  simpa using h2

theorem enters_runs : ∀ args w, (callFunc 158 args).run Tryz.prog w = .ok (.enter 158 args) w := enters_of Tryz.func158 (by kernel_rfl) rfl
/-- The text that the example gathers. -/
def outS (l : List (Nat × Nat)) : ByteArray := ⟨(l.flatMap fun r => [UInt8.ofNat r.1, UInt8.ofNat r.2]).toArray⟩
end Go.Proofs.YtjcfnmjjkadaeaaGreatDoor
/- Expressions: trees, and how they lie in memory. -/
namespace Go.Proofs.YtjcfnmjjkadaeaaGreatDoor
set_option maxRecDepth 100000
set_option linter.unusedSimpArgs false
set_option linter.unusedVariables false
open Go.RowKit

/-- An expression: its op, its set, its kids. -/
inductive RE : Type where
  | mk (op : Nat) (set : BitVec 256) (kids : List RE) : RE
def RE.op : RE → Nat | .mk o _ _ => o
def RE.set : RE → BitVec 256 | .mk _ s _ => s
def RE.kids : RE → List RE | .mk _ _ ks => ks
theorem RE.eta (r : RE) : r = .mk r.op r.set r.kids := by cases r; rfl

theorem RE.ind {P : RE → Prop} (h : ∀ o s ks, (∀ k ∈ ks, P k) → P (.mk o s ks)) (r : RE) : P r := by
  cases r with
  | mk o s ks => exact h o s ks fun k hk => RE.ind h k
termination_by SizeOf.sizeOf r
decreasing_by
  have := List.sizeOf_lt_of_mem hk
  simp; omega

/-- One and the sizes of the kids, up to the greatest int. -/
def sat (n k : Nat) : Nat := min (n + k) 9223372036854775807
def RE.size : RE → Nat
  | .mk _ _ ks => (ks.map fun k => k.size).foldl sat 1
theorem RE.size_mk (o : Nat) (s : BitVec 256) (ks : List RE) : (RE.mk o s ks).size = (ks.map RE.size).foldl sat 1 := by rw [RE.size]
def sizeL (ks : List RE) : Nat := (ks.map RE.size).foldl sat 1
theorem sat_le (n k : Nat) : sat n k ≤ 9223372036854775807 := by unfold sat; omega
theorem foldl_sat_le : ∀ (l : List Nat) (n : Nat), n ≤ 9223372036854775807 → l.foldl sat n ≤ 9223372036854775807
  | [], n, h => h
  | x :: r, n, _ => foldl_sat_le r (sat n x) (sat_le n x)
theorem sizeL_le (ks : List RE) : sizeL ks ≤ 9223372036854775807 := foldl_sat_le _ 1 (by omega)
theorem RE.size_le (r : RE) : r.size ≤ 9223372036854775807 := by cases r; rw [RE.size_mk]; exact sizeL_le _
theorem sizeL_succ (ks : List RE) (k : Nat) (h : k < ks.length) : sizeL (ks.take (k + 1)) = sat (sizeL (ks.take k)) (ks[k]).size := by
  unfold sizeL
  rw [List.take_succ_eq_append_getElem h, List.map_append, List.foldl_append]; rfl

/-- Is the text of no bytes one of its texts? -/
def RE.null : RE → Bool
  | .mk o _ ks =>
    let ns := ks.map fun k => k.null
    if o = 1 ∨ o = 5 then true else if o = 3 ∨ o = 6 then ns.all id else if o = 4 then ns.any id else if o = 7 then ns.getD 0 false && !(ns.getD 1 false) else false
theorem RE.null_mk (o : Nat) (s : BitVec 256) (ks : List RE) : (RE.mk o s ks).null =
    if o = 1 ∨ o = 5 then true else if o = 3 ∨ o = 6 then (ks.map RE.null).all id else if o = 4 then (ks.map RE.null).any id else if o = 7 then (ks.map RE.null).getD 0 false && !((ks.map RE.null).getD 1 false) else false := by rw [RE.null]

/-- A pointer to a block's first cell. -/
def PT (b : Nat) : Value := .pointer (some ⟨b, 0, none⟩)
/-- A slice is as long as its capacity at most. -/
def capOk (v : Value) : Prop := ∀ a m c, v = .slice a m c → m ≤ c
theorem capOk.mk {a : Option Addr} {m c : Nat} (h : m ≤ c) : capOk (.slice a m c) := fun _ _ _ e => by injection e with _ e2 e3; omega
/-- Blocks that no row of kids may lie in (rows of one's own that are written to while expressions are made). -/
class Forb where
  no : Nat → Prop
/-- None. -/
instance forbNone : Forb := ⟨fun _ => False⟩
/-- All of them lie below n. -/
def FL [Forb] (n : Nat) : Prop := ∀ b, Forb.no b → b < n
theorem FL.none (n : Nat) : @FL forbNone n := fun _ h => h.elim
theorem FL.mono [Forb] {n m : Nat} (h : FL n) (hm : n ≤ m) : FL m := fun b hb => Nat.lt_of_lt_of_le (h b hb) hm
theorem FL.new [Forb] {n b : Nat} (h : FL n) (hb : n ≤ b) : ¬ Forb.no b := fun hn => Nat.not_lt_of_le hb (h b hn)
/-- A row that lies in none of them. -/
structure KidOk [Forb] (w : World) (v : Value) : Prop where
  cap : capOk v
  fl : FL w.heap.size
  out : ∀ ad m c, v = .slice (some ad) m c → 0 < m → ¬ Forb.no ad.block
theorem KidOk.of [Forb] {w : World} {a : Option Addr} {m c : Nat} (h : m ≤ c) (hf : FL w.heap.size) (ho : ∀ ad, a = some ad → 0 < m → ¬ Forb.no ad.block) : KidOk w (.slice a m c) :=
  ⟨.mk h, hf, fun ad m' c' e h0 => by injection e with e1 e2 _; subst e2; exact ho ad e1 h0⟩
theorem KidOk.zero [Forb] {w : World} {a : Option Addr} {c : Nat} (hf : FL w.heap.size) : KidOk w (.slice a 0 c) := .of (Nat.zero_le _) hf fun _ _ h => absurd h (Nat.lt_irrefl _)
/-- A row in a block that is new. -/
theorem KidOk.new [Forb] {w : World} {b o n m c : Nat} (h : m ≤ c) (hf : FL w.heap.size) (hn : FL n) (hb : n ≤ b) : KidOk w (.slice (some ⟨b, o, Option.none⟩) m c) :=
  .of h hf fun ad e _ => by injection e with e; subst e; exact hn.new hb
theorem KidOk.keep [Forb] {w w' : World} {v : Value} (h : KidOk w v) (hs : w.heap.size ≤ w'.heap.size) : KidOk w' v := ⟨h.cap, h.fl.mono hs, h.out⟩
/-- A slice of n pointers. -/
def PtrRow [Forb] (w : World) (v : Value) (bs : Nat → Nat) (n : Nat) : Prop :=
  (n ≤ 4611686018427387904 ∧ KidOk w v) ∧ ∃ a cap, v = .slice a n cap ∧ ∀ k, k < n → ∃ b off, a = some ⟨b, off, none⟩ ∧ b < w.heap.size ∧ w.cell? ⟨b, off + k, none⟩ = some (PT (bs k))
theorem PtrRow.below [Forb] {w w' : World} {v : Value} {bs : Nat → Nat} {n : Nat} (h : PtrRow w v bs n) (hb : Below w.heap.size w w') : PtrRow w' v bs n := by
  obtain ⟨h1, a, cap, rfl, h2⟩ := h
  refine ⟨⟨h1.1, h1.2.keep hb.size⟩, a, cap, rfl, fun k hk => ?_⟩
  obtain ⟨b, off, e, hlt, hc⟩ := h2 k hk
  refine ⟨b, off, e, Nat.lt_of_lt_of_le hlt hb.size, ?_⟩
  rw [← hc]
  exact World.cell?_of_block (w := w) (hb.block b hlt)

/-- The cells of an expression. -/
def reC (b o : Nat) (s : BitVec 256) (v : Value) (nul : Bool) (sz : Nat) : Array Value :=
  #[.int .i64 o, .int .u64 (wd s 0), .int .u64 (wd s 1), .int .u64 (wd s 2), .int .u64 (wd s 3), v, PT b, .bool nul, .int .i64 sz]

/-- Block b holds an expression that package re made. -/
inductive ReAt [Forb] (w : World) : Nat → RE → Prop where
  | mk (b o : Nat) (s : BitVec 256) (ks : List RE) (v : Value) (bs : Nat → Nat) (blk : Blk w b (reC b o s v (RE.mk o s ks).null (RE.mk o s ks).size) 110)
      (row : PtrRow w v bs ks.length) (kid : ∀ i k, ks[i]? = some k → ReAt w (bs i) k) : ReAt w b (.mk o s ks)
theorem ReAt.keep [Forb] {w w' : World} {b : Nat} {r : RE} (h : ReAt w b r) (hb : Below w.heap.size w w') : ReAt w' b r := by
  induction h with
  | mk b o s ks v bs blk row kid ih => exact .mk b o s ks v bs (blk.below hb blk.lt) (row.below hb) ih
theorem ReAt.open [Forb] {w : World} {b : Nat} {r : RE} (h : ReAt w b r) : ∃ v bs, Blk w b (reC b r.op r.set v r.null r.size) 110 ∧ PtrRow w v bs r.kids.length ∧ ∀ i k, r.kids[i]? = some k → ReAt w (bs i) k := by
  cases h with
  | mk b o s ks v bs blk row kid => exact ⟨v, bs, blk, row, kid⟩
theorem ReAt.lt [Forb] {w : World} {b : Nat} {r : RE} (h : ReAt w b r) : b < w.heap.size := by
  obtain ⟨_, _, blk, _⟩ := h.open
  exact blk.lt
/-- A block holds one expression at most. -/
theorem ReAt.one [Forb] {w : World} {b : Nat} {r r' : RE} (h : ReAt w b r) (h' : ReAt w b r') : r = r' := by
  induction h generalizing r' with
  | mk b o s ks v bs blk row kid ih =>
    cases h' with
    | mk _ o' s' ks' v' bs' blk' row' kid' =>
      have e : reC b o s v (RE.mk o s ks).null (RE.mk o s ks).size = reC b o' s' v' (RE.mk o' s' ks').null (RE.mk o' s' ks').size := by
        have h1 := blk.of_cells.symm.trans blk'.of_cells
        injection h1 with h1; injection h1
      simp only [reC, Array.mk.injEq, List.cons.injEq, Value.int.injEq, true_and] at e
      obtain ⟨e0, e1, e2, e3, e4, rfl, -⟩ := e
      have hs : s = s' := wd_ext (by omega) (by omega) (by omega) (by omega)
      have ho : o = o' := by omega
      obtain ⟨_, a, cap, hv, hc⟩ := row
      obtain ⟨_, a', cap', hv', hc'⟩ := row'
      rw [hv] at hv'
      injection hv' with ha hn hcap
      subst ha hs ho
      have hks : ks = ks' := by
        apply List.ext_getElem hn
        intro i h1 h2
        obtain ⟨b1, o1, e1, _, c1⟩ := hc i h1
        obtain ⟨b2, o2, e2, _, c2⟩ := hc' i h2
        rw [e1] at e2
        injection e2 with e2; injection e2 with e3 e4; subst e3 e4
        have e5 : PT (bs i) = PT (bs' i) := Option.some.inj (c1.symm.trans c2)
        have e6 : bs i = bs' i := by simpa [PT] using e5
        exact ih i _ (List.getElem?_eq_getElem h1) (e6 ▸ kid' i _ (List.getElem?_eq_getElem h2))
      rw [hks]

/-- A slice of expressions that package re made. -/
def ResRow [Forb] (w : World) (v : Value) (l : List RE) : Prop := ∃ bs, PtrRow w v bs l.length ∧ ∀ i k, l[i]? = some k → ReAt w (bs i) k
theorem ResRow.below [Forb] {w w' : World} {v : Value} {l : List RE} (h : ResRow w v l) (hb : Below w.heap.size w w') : ResRow w' v l := by
  obtain ⟨bs, h1, h2⟩ := h
  exact ⟨bs, h1.below hb, fun i k hk => (h2 i k hk).keep hb⟩
theorem ReAt.row [Forb] {w : World} {b : Nat} {r : RE} (h : ReAt w b r) : ∃ v, Blk w b (reC b r.op r.set v r.null r.size) 110 ∧ ResRow w v r.kids := by
  obtain ⟨v, bs, h1, h2, h3⟩ := h.open
  exact ⟨v, h1, bs, h2, h3⟩
theorem ReAt.ofRow [Forb] {w : World} {b o : Nat} {s : BitVec 256} {ks : List RE} {v : Value} (hb : Blk w b (reC b o s v (RE.mk o s ks).null (RE.mk o s ks).size) 110) (h : ResRow w v ks) : ReAt w b (.mk o s ks) := by
  obtain ⟨bs, h1, h2⟩ := h
  exact .mk b o s ks v bs hb h1 h2
/-- What lies at one place of a slice. -/
theorem ResRow.at [Forb] {w : World} {v : Value} {l : List RE} (h : ResRow w v l) : l.length ≤ 4611686018427387904 ∧ ∃ a cap, v = .slice a l.length cap ∧ ∀ k (hk : k < l.length), ∃ b off bk, a = some ⟨b, off, none⟩ ∧ b < w.heap.size ∧ w.cell? ⟨b, off + k, none⟩ = some (PT bk) ∧ ReAt w bk l[k] := by
  obtain ⟨bs, ⟨h0, a, cap, rfl, h1⟩, h2⟩ := h
  refine ⟨h0.1, a, cap, rfl, fun k hk => ?_⟩
  obtain ⟨b, off, e, hlt, hc⟩ := h1 k hk
  exact ⟨b, off, bs k, e, hlt, hc, h2 k _ (List.getElem?_eq_getElem hk)⟩
theorem ResRow.cap [Forb] {w : World} {v : Value} {l : List RE} (h : ResRow w v l) : capOk v := by
  obtain ⟨bs, ⟨h0, -⟩, -⟩ := h
  exact h0.2.cap
theorem ResRow.fl [Forb] {w : World} {v : Value} {l : List RE} (h : ResRow w v l) : FL w.heap.size := by
  obtain ⟨bs, ⟨h0, -⟩, -⟩ := h
  exact h0.2.fl
theorem ReAt.fl [Forb] {w : World} {b : Nat} {r : RE} (h : ReAt w b r) : FL w.heap.size := by
  obtain ⟨_, _, _, h0, _⟩ := h.open
  exact h0.1.2.fl
end Go.Proofs.YtjcfnmjjkadaeaaGreatDoor
/- A budget, as numbers. -/
namespace Go.Proofs.YtjcfnmjjkadaeaaGreatDoor
set_option maxRecDepth 100000
set_option linter.unusedSimpArgs false
set_option linter.unusedVariables false
open Go.RowKit

/-! ## A budget: g were granted, t were taken (below 0: the complement) -/
def aft (g t n : Int) : Int × Bool := if n = 0 then (t, true) else if t < 0 then (t, false) else if g - t < n then (-t - 1, false) else (t + n, true)
def usedI (t : Int) : Int := if t < 0 then -t - 1 else t
/-- What is known of a budget at any time. -/
def BudOk (g t : Int) : Prop := 0 ≤ usedI t ∧ usedI t ≤ g
theorem aft_ok {g t n : Int} (h : BudOk g t) (hn : 0 ≤ n) : BudOk g (aft g t n).1 := by
  unfold BudOk usedI aft at *
  repeat' split
  all_goals (simp only; repeat' split at *)
  all_goals omega
end Go.Proofs.YtjcfnmjjkadaeaaGreatDoor
/- Contracts of package re: Size, Null, made, and the calls that make one expression. -/
namespace Go.Proofs.YtjcfnmjjkadaeaaGreatDoor
set_option maxRecDepth 100000
set_option linter.unusedSimpArgs false
set_option linter.unusedVariables false
open Go.RowKit

theorem ptr_same (a : Addr) (w : World) : (binOp .eql 30 (.pointer (some a)) (.pointer (some a))).run Tryz.prog w = .ok (.bool true) w := by
  obtain ⟨j, hj⟩ : ∃ j, Tryz.prog.info? 110 = some j := Option.isSome_iff_exists.1 (by kernel_rfl)
  exact run_eql_ptr_same w a Tryz.underlying30 hj
theorem ptr_other {a b : Nat} {ca cb : Array Value} {ta tb : TypeId} (w : World) (hne : a ≠ b) (ha : Blk w a ca ta) (hb : Blk w b cb tb) : (binOp .eql 30 (.pointer (some ⟨a, 0, none⟩)) (.pointer (some ⟨b, 0, none⟩))).run Tryz.prog w = .ok (.bool false) w := by
  have h : (Tryz.prog.info? 110).map (·.size) = some 9 := by kernel_rfl
  cases hi : Tryz.prog.info? 110 with
  | none => rw [hi] at h; cases h
  | some i =>
    rw [hi] at h; simp at h
    exact run_eql_ptr_other w Tryz.underlying30 hi (by omega) (by simp [hne]) ha hb

theorem size_any [Forb] (b : Nat) (r : RE) (w : World) (h : ReAt w b r) :
    Calls Tryz.prog 39 #[PT b] w fun e w' => e = .returned (.int .i64 r.size) ∧ w' = w := by
  obtain ⟨v, hb, -⟩ := h.row
  have c6 := hb.cell 6; have c8 := hb.cell 8
  simp only [reC, List.getElem?_toArray, List.getElem?_cons_zero, List.getElem?_cons_succ, PT] at c6 c8
  have hself := ptr_same ⟨b, 0, none⟩
  unfold PT
  go_enter Tryz.func39, Tryz.ntmps39
  go_wp2
  go_ret
  exact ⟨rfl, rfl⟩

theorem settled_any [Forb] (b : Nat) (r : RE) (w : World) (h : ReAt w b r) :
    Calls Tryz.prog 71 #[PT b] w fun e w' => e = .returned (PT b) ∧ w' = w := by
  obtain ⟨v, hb, -⟩ := h.row
  have c6 := hb.cell 6
  simp only [reC, List.getElem?_toArray, List.getElem?_cons_zero, List.getElem?_cons_succ, PT] at c6
  have hself := ptr_same ⟨b, 0, none⟩
  unfold PT
  go_enter Tryz.func71, Tryz.ntmps71
  go_wp2
  go_ret
  exact ⟨rfl, rfl⟩

theorem null_any [Forb] (b : Nat) (r : RE) (w : World) (h : ReAt w b r) :
    Calls Tryz.prog 45 #[PT b] w fun e w' => e = .returned (.bool r.null) ∧ w' = w := by
  obtain ⟨v, hb, -⟩ := h.row
  have c7 := hb.cell 7
  simp only [reC, List.getElem?_toArray, List.getElem?_cons_zero, List.getElem?_cons_succ, PT] at c7
  have hself := ptr_same ⟨b, 0, none⟩
  unfold PT
  go_enter Tryz.func45, Tryz.ntmps45
  go_wp2_with fail
  refine (settled_any b r w h).mono ?_
  rintro e w1 ⟨rfl, rfl⟩
  unfold PT
  go_wp2
  go_ret
  exact ⟨rfl, rfl⟩

theorem fails_any [Forb] (b : Nat) (r : RE) (w : World) (h : ReAt w b r) :
    Calls Tryz.prog 133 #[PT b] w fun e w' => e = .returned (.bool (!r.null)) ∧ w' = w := by
  go_enter Tryz.func133, Tryz.ntmps133
  go_wp2_with fail
  refine (null_any b r w h).mono ?_
  rintro e w1 ⟨rfl, rfl⟩
  go_wp2
  go_ret
  exact ⟨rfl, rfl⟩

set_option maxHeartbeats 400000 in
theorem sizeOf_any [Forb] (l : List RE) (v : Value) (w : World) (h : ResRow w v l) :
    Calls Tryz.prog 73 #[v] w fun e w' => e = .returned (.int .i64 (sizeL l)) ∧ w' = w := by
  obtain ⟨hn, ad, cap, rfl, hc⟩ := h.at
  go_enter Tryz.func73, Tryz.ntmps73
  go_wp2
  go_loopw [3, 9] (fun n i wr => ∃ k : Nat, k ≤ l.length ∧ i = .int .i64 k ∧ n = .int .i64 (sizeL (l.take k)) ∧ wr = w) (fun _ i _ => l.length - (intOf i).toNat)
  case atStart => exact ⟨0, by omega, rfl, rfl, rfl⟩
  case round =>
    obtain ⟨k, hk, rfl, rfl, rfl⟩ := hrel
    by_cases hlt : k < l.length
    · obtain ⟨b, off, bk, rfl, hb, hcell, hre⟩ := hc k hlt
      unfold PT at hcell
      have hkd : decide (k < l.length) = true := by simp [hlt]
      have HS := hide (sizeL_succ l k hlt)
      have h1 := sizeL_le (l.take k)
      have h2 := (l[k]).size_le
      generalize hsz : (l[k]).size = sz at *
      generalize hsn : sizeL (l.take k) = sn at *
      go_wp2_with fail
      refine (size_any bk _ _ hre).mono ?_
      rintro e w1 ⟨rfl, rfl⟩
      rw [hsz]
      go_wp2
      refine ⟨⟨k + 1, by omega, by go_num, ?_, trivial⟩, by simp [intOf]; omega⟩
      rw [HS.out]
      unfold sat
      congr 1
      omega
    · obtain rfl : k = l.length := by omega
      rw [List.take_length]
      go_wp2
      go_ret
      exact ⟨rfl, rfl⟩

/-- slices.IndexFunc at expressions, of a function that only reads. -/
theorem indexFunc_any [Forb] (fid : FuncId) (ent : ∀ args w, (callFunc fid args).run Tryz.prog w = .ok (.enter fid args) w) (p : RE → Bool) (l : List RE) (v : Value) (w : World) (h : ResRow w v l)
    (hp : ∀ b r, ReAt w b r → Calls Tryz.prog fid #[PT b] w fun e w' => e = .returned (.bool (p r)) ∧ w' = w) :
    Calls Tryz.prog 157 #[v, .func (.func fid) #[] #[]] w fun e w' => ∃ i : Int, e = .returned (.int .i64 i) ∧ decide (0 ≤ i) = l.any p ∧ w' = w := by
  obtain ⟨hn, ad, cap, rfl, hc⟩ := h.at
  go_enter Tryz.func157, Tryz.ntmps157
  go_wp2
  go_loopw [8] (fun i wr => ∃ k : Nat, k ≤ l.length ∧ i = .int .i64 k ∧ (l.take k).any p = false ∧ wr = w) (fun i _ => l.length - (intOf i).toNat)
  case atStart => exact ⟨0, by omega, rfl, rfl, rfl⟩
  case round =>
    obtain ⟨k, hk, rfl, hany, rfl⟩ := hrel
    by_cases hlt : k < l.length
    · obtain ⟨b, off, bk, rfl, hb, hcell, hre⟩ := hc k hlt
      unfold PT at hcell
      have hkd : decide (k < l.length) = true := by simp [hlt]
      have hany2 : (l.take (k + 1)).any p = p l[k] := by
        rw [List.take_succ_eq_append_getElem hlt, List.any_append, hany]; simp
      have hmem : l[k] ∈ l := List.getElem_mem hlt
      generalize hr : l[k] = r at *
      have HA := hide hany2
      clear hany hany2
      go_wp2_with fail
      refine (hp bk _ hre).mono ?_
      rintro e w1 ⟨rfl, rfl⟩
      cases hpr : p r with
      | true =>
        go_wp2
        go_ret
        refine ⟨_, rfl, ?_, rfl⟩
        have : l.any p = true := List.any_eq_true.2 ⟨r, hmem, hpr⟩
        rw [this]; simp
      | false =>
        rw [hpr] at HA
        go_wp2
        exact ⟨⟨k + 1, by omega, by go_num, HA.out, trivial⟩, by simp [intOf]; omega⟩
    · obtain rfl : k = l.length := by omega
      rw [List.take_length] at hany
      have HA := hide hany
      clear hany
      go_wp2
      go_ret
      exact ⟨_, rfl, by rw [HA.out]; rfl, rfl⟩
theorem containsFunc_any [Forb] (fid : FuncId) (ent : ∀ args w, (callFunc fid args).run Tryz.prog w = .ok (.enter fid args) w) (p : RE → Bool) (l : List RE) (v : Value) (w : World) (h : ResRow w v l)
    (hp : ∀ b r, ReAt w b r → Calls Tryz.prog fid #[PT b] w fun e w' => e = .returned (.bool (p r)) ∧ w' = w) :
    Calls Tryz.prog 132 #[v, .func (.func fid) #[] #[]] w fun e w' => e = .returned (.bool (l.any p)) ∧ w' = w := by
  go_enter Tryz.func132, Tryz.ntmps132
  go_wp2_with fail
  refine (indexFunc_any fid ent p l v w h hp).mono ?_
  rintro e w1 ⟨i, rfl, hi, rfl⟩
  have HI := hide hi
  clear hi
  go_wp2
  go_ret
  exact ⟨congrArg (fun x => Ending.returned (Value.bool x)) HI.out, rfl⟩

theorem any_not (l : List RE) : (!(l.any fun r => !r.null)) = (l.map RE.null).all id := by
  induction l with
  | nil => rfl
  | cons x r ih =>
    simp only [List.any_cons, List.map_cons, List.all_cons, id, ← ih, Bool.not_or, Bool.not_not]

set_option maxHeartbeats 1000000 in
theorem hasNull_any [Forb] (b o : Nat) (s : BitVec 256) (ks : List RE) (v : Value) (w : World) (ho : o ≤ 7) (h7 : o = 7 → ks.length = 2)
    (c0 : w.cell? ⟨b, 0, none⟩ = some (.int .i64 o)) (c5 : w.cell? ⟨b, 5, none⟩ = some v) (h : ResRow w v ks) :
    Calls Tryz.prog 103 #[PT b] w fun e w' => e = .returned (.bool (RE.mk o s ks).null) ∧ w' = w := by
  obtain ⟨nv, hnv⟩ : ∃ nv, nv = (RE.mk o s ks).null := ⟨_, rfl⟩
  rw [← hnv]
  rw [RE.null_mk] at hnv
  have HN := hide hnv
  clear hnv
  have e39 := enters_of Tryz.func45 (by kernel_rfl) rfl
  have e105 := enters_of Tryz.func133 (by kernel_rfl) rfl
  unfold PT
  have ho' : o = 0 ∨ o = 1 ∨ o = 2 ∨ o = 3 ∨ o = 4 ∨ o = 5 ∨ o = 6 ∨ o = 7 := by omega
  rcases ho' with rfl | rfl | rfl | rfl | rfl | rfl | rfl | rfl
  · go_enter Tryz.func103, Tryz.ntmps103
    go_wp2
    go_ret
    exact ⟨congrArg (fun x => Ending.returned (Value.bool x)) (Eq.symm HN.out), rfl⟩
  · go_enter Tryz.func103, Tryz.ntmps103
    go_wp2
    go_ret
    exact ⟨congrArg (fun x => Ending.returned (Value.bool x)) (Eq.symm HN.out), rfl⟩
  · go_enter Tryz.func103, Tryz.ntmps103
    go_wp2
    go_ret
    exact ⟨congrArg (fun x => Ending.returned (Value.bool x)) (Eq.symm HN.out), rfl⟩
  · go_enter Tryz.func103, Tryz.ntmps103
    go_wp2_with fail
    refine (containsFunc_any _ e105 (fun r => !r.null) ks v w h fun b r hr => fails_any b r w hr).mono ?_
    rintro e w1 ⟨rfl, rfl⟩
    go_wp2
    go_ret
    exact ⟨congrArg (fun x => Ending.returned (Value.bool x)) ((any_not ks).trans HN.out.symm), rfl⟩
  · go_enter Tryz.func103, Tryz.ntmps103
    go_wp2_with fail
    refine (containsFunc_any _ e39 RE.null ks v w h fun b r hr => null_any b r w hr).mono ?_
    rintro e w1 ⟨rfl, rfl⟩
    go_wp2
    go_ret
    exact ⟨congrArg (fun x => Ending.returned (Value.bool x)) ((show ks.any RE.null = (ks.map RE.null).any id from by simp [List.any_map]).trans HN.out.symm), rfl⟩
  · go_enter Tryz.func103, Tryz.ntmps103
    go_wp2
    go_ret
    exact ⟨congrArg (fun x => Ending.returned (Value.bool x)) (Eq.symm HN.out), rfl⟩
  · go_enter Tryz.func103, Tryz.ntmps103
    go_wp2_with fail
    refine (containsFunc_any _ e105 (fun r => !r.null) ks v w h fun b r hr => fails_any b r w hr).mono ?_
    rintro e w1 ⟨rfl, rfl⟩
    go_wp2
    go_ret
    exact ⟨congrArg (fun x => Ending.returned (Value.bool x)) ((any_not ks).trans HN.out.symm), rfl⟩
  · have hk2 := h7 rfl
    obtain ⟨hn, ad, cap, rfl, hc⟩ := h.at
    match ks, hk2 with
    | [x, y], _ =>
    obtain ⟨bb, off, b0, rfl, -, d0, h0⟩ := hc 0 (by simp)
    obtain ⟨bb', off', b1, e, -, d1, h1⟩ := hc 1 (by simp)
    cases e
    simp only [List.length_cons, List.length_nil] at *
    simp only [List.getElem_cons_zero, List.getElem_cons_succ] at h0 h1
    unfold PT at d0 d1
    rw [Nat.add_zero] at d0
    go_enter Tryz.func103, Tryz.ntmps103
    go_wp2_with fail
    refine (null_any b0 x w h0).mono ?_
    rintro e w1 ⟨rfl, rfl⟩
    cases hx : x.null with
    | false =>
      go_wp2
      go_ret
      exact ⟨congrArg (fun x => Ending.returned (Value.bool x)) ((show false = _ from by simp [hx]).trans HN.out.symm), rfl⟩
    | true =>
      go_wp2_with fail
      refine (fails_any b1 y _ h1).mono ?_
      rintro e w1 ⟨rfl, rfl⟩
      go_wp2
      go_ret
      exact ⟨congrArg (fun x => Ending.returned (Value.bool x)) ((show (!y.null) = _ from by simp [hx]).trans HN.out.symm), rfl⟩

theorem resRow_nil [Forb] (w : World) (hf : FL w.heap.size) : ResRow w (.slice none 0 0) [] := ⟨fun _ => 0, ⟨⟨by simp, .zero hf⟩, none, 0, rfl, fun k hk => by simp at hk⟩, fun i k hk => by simp at hk⟩

/-- The cells of a new expression, ahead of what made stores into it. -/
def reC0 (o : Nat) (s : BitVec 256) (v : Value) (sz : Nat) : Array Value :=
  #[.int .i64 o, .int .u64 (wd s 0), .int .u64 (wd s 1), .int .u64 (wd s 2), .int .u64 (wd s 3), v, .pointer none, .bool false, .int .i64 sz]
theorem x_buildRe (ρ : Operand → Value) (d : Option Tmp) (x y z u : Operand) (t : TypeId) (pos : String) (af : Array Edge) (g : Option (Nat × Bool)) (o : Nat) (s : BitVec 256) (a : Option Addr) (n cap : Nat) (sz : Nat)
    (hx : ρ x = .int .i64 o) (hy : ρ y = SV s) (hz : ρ z = .slice a n cap) (hu : ρ u = .int .i64 sz) (w : World) :
    (execOp ρ { dst := d, op := .build 110 #[(0, x), (1, y), (2, z), (5, u)], type := t, pos := pos, after := af, guard := g }).run Tryz.prog w = .ok (.value (.agg (reC0 o s (.slice a n cap) sz))) w := by
  simp [go_sem, hx, hy, hz, hu, reC0]
theorem x_boxRe (ρ : Operand → Value) (d : Option Tmp) (x : Operand) (t : TypeId) (pos : String) (af : Array Edge) (g : Option (Nat × Bool)) (c : Array Value) (hx : ρ x = .agg c) (w : World) :
    (execOp ρ { dst := d, op := .box 110 x, type := t, pos := pos, after := af, guard := g }).run Tryz.prog w = .ok (.value (PT w.heap.size)) (w.alloc (.cells c 110)) := by
  simp [go_sem, hx, PT]

set_option maxHeartbeats 1000000 in
theorem made_any [Forb] (o : Nat) (s : BitVec 256) (ks : List RE) (v : Value) (w : World) (ho : o ≤ 7) (h7 : o = 7 → ks.length = 2) (h : ResRow w v ks) :
    Calls Tryz.prog 69 #[.int .i64 o, SV s, v] w fun e w' => ∃ b, e = .returned (PT b) ∧ ReAt w' b (.mk o s ks) ∧ Below w.heap.size w w' := by
  obtain ⟨hn, ad, cap, rfl, -⟩ := h.at
  go_enter Tryz.func69, Tryz.ntmps69
  go_wp2
  obtain ⟨S, hSd⟩ : ∃ S : World → Prop, S = fun W => Blk W w.heap.size (WS s) 89 ∧ Below w.heap.size w W := ⟨_, rfl⟩
  have hSk : ∀ W, S W → Blk W w.heap.size (WS s) 89 := fun W h => by rw [hSd] at h; exact h.1
  have hSb : ∀ W, S W → Below w.heap.size w W := fun W h => by rw [hSd] at h; exact h.2
  have hSg : ∀ W W', S W → Below W.heap.size W W' → S W' := fun W W' h hb => by
    rw [hSd] at h ⊢
    exact ⟨h.1.below hb h.1.lt, h.2.trans (hb.mono h.2.size)⟩
  have hS : S { w.alloc (.cells (WS s) 89) with drawn := (w.alloc (.cells (WS s) 89)).drawn + 1 } := by
    rw [hSd]
    have hb := (Below.refl w.heap.size w).alloc (Nat.le_refl _) (.cells (WS s) 89)
    exact ⟨Blk.newAt rfl _ _, ⟨hb.os, hb.tape, hb.output, hb.size, hb.block⟩⟩
  clear hSd
  refine wp_region_noPanic (wp_region_held (S := S) (by kernel_rfl) ?_)
  show wpAnyH _ _ _ _ _ 8 #[false, false, false, false, false, false, false, false] _ _
  generalize ({ w.alloc (.cells (WS s) 89) with drawn := (w.alloc (.cells (WS s) 89)).drawn + 1 } : World) = W at hS ⊢
  refine h_take 0 (.int .i64 o) rfl (by kernel_rfl) (by kernel_rfl) (by kernel_rfl) rfl (fun w hw => x_move _ _ _ _ _ _ _ _ rfl w) hS ?_
  simp only [Act.put, List.setIfInBounds_toArray, List.set_cons_succ, List.set_cons_zero]
  refine h_take 1 (SV s) rfl (by kernel_rfl) (by kernel_rfl) (by kernel_rfl) rfl (fun w hw => x_loadSet _ _ _ _ _ _ _ _ s rfl w (hSk w hw)) hS ?_
  simp only [Act.put, List.setIfInBounds_toArray, List.set_cons_succ, List.set_cons_zero]
  refine h_take 2 (.slice ad ks.length cap) rfl (by kernel_rfl) (by kernel_rfl) (by kernel_rfl) rfl (fun w hw => x_move _ _ _ _ _ _ _ _ rfl w) hS ?_
  simp only [Act.put, List.setIfInBounds_toArray, List.set_cons_succ, List.set_cons_zero]
  refine h_take 3 (.slice ad ks.length cap) rfl (by kernel_rfl) (by kernel_rfl) (by kernel_rfl) rfl (fun w hw => x_move _ _ _ _ _ _ _ _ rfl w) hS ?_
  simp only [Act.put, List.setIfInBounds_toArray, List.set_cons_succ, List.set_cons_zero]
  have hr := h.below (hSb _ hS)
  refine h_callE 4 73 #[.slice ad ks.length cap] (fun v w' => v = .int .i64 (sizeL ks) ∧ w' = W) rfl (by kernel_rfl) rfl (x_call1 _ _ _ _ _ _ _ _ _ _ rfl rfl (enters_of Tryz.func73 (by kernel_rfl) rfl) _) ((sizeOf_any ks _ W hr).mono fun e w' h => ⟨_, h.1, rfl, h.2⟩) (fun v w' h => h.2 ▸ hS) ?_
  rintro v3 W3 ⟨rfl, rfl⟩
  simp only [Act.put, List.setIfInBounds_toArray, List.set_cons_succ, List.set_cons_zero]
  refine h_take 5 (.agg (reC0 o s (.slice ad ks.length cap) (sizeL ks))) rfl (by kernel_rfl) (by kernel_rfl) (by kernel_rfl) rfl (fun w hw => x_buildRe _ _ _ _ _ _ _ _ _ _ o s _ _ _ _ rfl rfl rfl rfl w) hS ?_
  simp only [Act.put, List.setIfInBounds_toArray, List.set_cons_succ, List.set_cons_zero]
  have hb6 := (Below.refl W3.heap.size W3).alloc (Nat.le_refl _) (.cells (reC0 o s (.slice ad ks.length cap) (sizeL ks)) 110)
  refine h_alloc 6 (PT W3.heap.size) (W3.alloc (.cells (reC0 o s (.slice ad ks.length cap) (sizeL ks)) 110)) rfl (by kernel_rfl) rfl (x_boxRe _ _ _ _ _ _ _ _ rfl _) (hSg _ _ hS hb6) ?_
  simp only [Act.put, List.setIfInBounds_toArray, List.set_cons_succ, List.set_cons_zero]
  refine h_take 7 (PT W3.heap.size) rfl (by kernel_rfl) (by kernel_rfl) (by kernel_rfl) rfl (fun w hw => x_assign _ _ _ _ _ _ _ _ rfl w) (hSg _ _ hS hb6) ?_
  simp only [Act.put, List.setIfInBounds_toArray, List.set_cons_succ, List.set_cons_zero]
  refine wpAnyH_done (by kernel_rfl) ?_ _
  refine NoPanic.normal ?_
  have HW := hide (hSb _ hS)
  have HR := hide hr
  obtain ⟨B, hB⟩ : ∃ B, B = W3.heap.size := ⟨_, rfl⟩
  rw [← hB]
  have kb := Blk.newAt hB (reC0 o s (.slice ad ks.length cap) (sizeL ks)) 110
  have HR2 := hide (hr.below hb6)
  have HB6 := hide hb6
  clear hSk hSb hSg hS hr hb6 h
  generalize W3.alloc (.cells (reC0 o s (.slice ad ks.length cap) (sizeL ks)) 110) = W4 at kb HR2 HB6 ⊢
  have HBE := hide hB
  clear hB
  have c0 := kb.cell 0; have c5 := kb.cell 5
  simp only [reC0, List.getElem?_toArray, List.getElem?_cons_zero, List.getElem?_cons_succ] at c0 c5
  have HK := hide kb
  clear kb
  unfold PT
  go_wp2_with fail
  refine (hasNull_any B o s ks _ _ ho h7 c0 c5 HR2.out).mono ?_
  rintro e w4 ⟨rfl, rfl⟩
  have f7 := HK.out.frozen 7; have f6 := HK.out.frozen 6
  have c7 := HK.out.cell 7; have c6 := HK.out.cell 6
  simp only [reC0, List.getElem?_toArray, List.getElem?_cons_zero, List.getElem?_cons_succ] at c6 c7
  go_wp2
  go_ret
  have hw := HW.out.size
  have hbe := HBE.out
  have hlt := HK.out.lt
  have hset := ((HK.out.set 7 (.bool (RE.mk o s ks).null)).set 6 (PT B))
  have hbel : Below w.heap.size w ((w4.setCell ⟨B, 7, none⟩ (.bool (RE.mk o s ks).null)).setCell ⟨B, 6, none⟩ (PT B)) :=
    ((HW.out.trans (HB6.out.mono hw)).setCell (by simp; omega) _).setCell (by simp; omega) _
  refine ⟨B, rfl, ReAt.ofRow (v := .slice ad ks.length cap) ?_ ?_, hbel⟩
  · rw [show (RE.mk o s ks).size = sizeL ks from RE.size_mk o s ks]
    exact hset
  · refine HR.out.below ?_
    exact (HB6.out.setCell (by simp; omega) _).setCell (by simp; omega) _

/-- What the calls make. -/
def rNothing : RE := .mk 0 0#256 []
def rEmpty : RE := .mk 1 0#256 []
def rOne (s : BitVec 256) : RE := if s = 0#256 then rNothing else .mk 2 s []
def rJoin (o : Nat) (l : List RE) : RE := match l with
  | [r] => r
  | l => .mk o 0#256 l
theorem rJoin_one (o : Nat) (r : RE) : rJoin o [r] = r := rfl
theorem rJoin_more (o : Nat) (l : List RE) (h : l.length ≠ 1) : rJoin o l = .mk o 0#256 l := by
  unfold rJoin
  split
  · simp at h
  · rfl

theorem nothing_any [Forb] (w : World) (hf : FL w.heap.size) : Calls Tryz.prog 34 #[] w fun e w' => ∃ b, e = .returned (PT b) ∧ ReAt w' b rNothing ∧ Below w.heap.size w w' := by
  go_enter Tryz.func34, Tryz.ntmps34
  go_wp2_with fail
  refine (made_any 0 0#256 [] _ w (by omega) (by simp) (resRow_nil w hf)).mono ?_
  rintro e w1 ⟨b, rfl, h1, h2⟩
  go_wp2
  go_ret
  exact ⟨b, rfl, h1, h2⟩
theorem empty_re [Forb] (w : World) (hf : FL w.heap.size) : Calls Tryz.prog 47 #[] w fun e w' => ∃ b, e = .returned (PT b) ∧ ReAt w' b rEmpty ∧ Below w.heap.size w w' := by
  go_enter Tryz.func47, Tryz.ntmps47
  go_wp2_with fail
  refine (made_any 1 0#256 [] _ w (by omega) (by simp) (resRow_nil w hf)).mono ?_
  rintro e w1 ⟨b, rfl, h1, h2⟩
  go_wp2
  go_ret
  exact ⟨b, rfl, h1, h2⟩
theorem one_any [Forb] (s : BitVec 256) (w : World) (hf : FL w.heap.size) : Calls Tryz.prog 49 #[SV s] w fun e w' => ∃ b, e = .returned (PT b) ∧ ReAt w' b (rOne s) ∧ Below w.heap.size w w' := by
  go_enter Tryz.func49, Tryz.ntmps49
  go_wp2_with fail
  refine (empty_any s _).mono ?_
  rintro e w1 ⟨rfl, hb⟩
  have hB := ((Below.refl w.heap.size w).alloc (Nat.le_refl _) (.cells (WS s) 89)).trans (hb.mono (by simp))
  have kb := (Blk.newAt (w := w) rfl (WS s) 89).below hb (by simp)
  have c0 := kb.cell 0; have c1 := kb.cell 1; have c2 := kb.cell 2; have c3 := kb.cell 3
  simp only [List.getElem?_toArray, List.getElem?_cons_zero, List.getElem?_cons_succ] at c0 c1 c2 c3
  have HB := hide hB
  clear hB hb kb
  by_cases he : s = 0#256
  · rw [show (s == 0#256) = true from by simp [he]]
    have HE := hide he
    clear he
    go_wp2_with fail
    refine (nothing_any _ (hf.mono HB.out.size)).mono ?_
    rintro e w2 ⟨b, rfl, h1, h2⟩
    go_wp2
    go_ret
    exact ⟨b, rfl, by rw [rOne, if_pos HE.out]; exact h1, HB.out.trans (h2.mono HB.out.size)⟩
  · rw [show (s == 0#256) = false from by simp [he]]
    have HE := hide he
    clear he
    go_wp2_with fail
    refine (made_any 2 s [] _ _ (by omega) (by simp) (resRow_nil _ (hf.mono HB.out.size))).mono ?_
    rintro e w2 ⟨b, rfl, h1, h2⟩
    go_wp2
    go_ret
    exact ⟨b, rfl, by rw [rOne, if_neg HE.out]; exact h1, HB.out.trans (h2.mono HB.out.size)⟩
theorem join_any [Forb] (o : Nat) (l : List RE) (v : Value) (w : World) (ho : o ≤ 7) (h7 : o = 7 → l.length = 2) (h : ResRow w v l) :
    Calls Tryz.prog 67 #[.int .i64 o, v] w fun e w' => ∃ b, e = .returned (PT b) ∧ ReAt w' b (rJoin o l) ∧ Below w.heap.size w w' := by
  obtain ⟨hn, ad, cap, rfl, hc⟩ := h.at
  by_cases h1 : l.length = 1
  · match l, h1 with
    | [r], _ =>
    obtain ⟨bb, off, b0, rfl, -, d0, h0⟩ := hc 0 (by simp)
    unfold PT at d0
    rw [Nat.add_zero] at d0
    simp only [List.length_cons, List.length_nil, Nat.zero_add] at *
    simp only [List.getElem_cons_zero] at h0
    go_enter Tryz.func67, Tryz.ntmps67
    go_wp2
    go_ret
    exact ⟨b0, rfl, h0, Below.refl _ _⟩
  · have hd : ((l.length : Int) == 1) = false := beq_eq_false_iff_ne.2 (by omega)
    have HR := hide h
    clear h hc
    go_enter Tryz.func67, Tryz.ntmps67
    go_wp2_with fail
    refine (made_any o 0#256 l _ w ho h7 HR.out).mono ?_
    rintro e w1 ⟨b, rfl, h2, h3⟩
    go_wp2
    go_ret
    exact ⟨b, rfl, by rw [rJoin_more o l h1]; exact h2, h3⟩
end Go.Proofs.YtjcfnmjjkadaeaaGreatDoor
