/- Expressions: trees, and how they lie in memory. -/
import Derived.Test.YtkjmjppmpcnejaaGreatDoorGen
import Derived.Test.YtkjmjppmpcnejaaGreatDoorQuiet3
namespace Go.Proofs.YtkjmjppmpcnejaaGreatDoor
set_option maxRecDepth 100000
set_option linter.unusedSimpArgs false
set_option linter.unusedVariables false
open Go.RowKit

/-- An expression: its op, its set, its kids. -/
inductive RE : Type where
  | mk (op : Nat) (set : BitVec 256) (kids : List RE) : RE
def RE.op : RE → Nat | .mk o _ _ => o
def RE.set : RE → BitVec 256 | .mk _ s _ => s
def RE.kids : RE → List RE | .mk _ _ ks => ks
theorem RE.eta (r : RE) : r = .mk r.op r.set r.kids := by cases r; rfl

theorem RE.ind {P : RE → Prop} (h : ∀ o s ks, (∀ k ∈ ks, P k) → P (.mk o s ks)) (r : RE) : P r := by
  cases r with
  | mk o s ks => exact h o s ks fun k hk => RE.ind h k
termination_by SizeOf.sizeOf r
decreasing_by
  have := List.sizeOf_lt_of_mem hk
  simp; omega

/-- One and the sizes of the kids, up to the greatest int. -/
def sat (n k : Nat) : Nat := min (n + k) 9223372036854775807
def RE.size : RE → Nat
  | .mk _ _ ks => (ks.map fun k => k.size).foldl sat 1
theorem RE.size_mk (o : Nat) (s : BitVec 256) (ks : List RE) : (RE.mk o s ks).size = (ks.map RE.size).foldl sat 1 := by rw [RE.size]
def sizeL (ks : List RE) : Nat := (ks.map RE.size).foldl sat 1
theorem sat_le (n k : Nat) : sat n k ≤ 9223372036854775807 := by unfold sat; omega
theorem foldl_sat_le : ∀ (l : List Nat) (n : Nat), n ≤ 9223372036854775807 → l.foldl sat n ≤ 9223372036854775807
  | [], n, h => h
  | x :: r, n, _ => foldl_sat_le r (sat n x) (sat_le n x)
theorem sizeL_le (ks : List RE) : sizeL ks ≤ 9223372036854775807 := foldl_sat_le _ 1 (by omega)
theorem RE.size_le (r : RE) : r.size ≤ 9223372036854775807 := by cases r; rw [RE.size_mk]; exact sizeL_le _
theorem sizeL_succ (ks : List RE) (k : Nat) (h : k < ks.length) : sizeL (ks.take (k + 1)) = sat (sizeL (ks.take k)) (ks[k]).size := by
  unfold sizeL
  rw [List.take_succ_eq_append_getElem h, List.map_append, List.foldl_append]; rfl

/-- Is the text of no bytes one of its texts? -/
def RE.null : RE → Bool
  | .mk o _ ks =>
    let ns := ks.map fun k => k.null
    if o = 1 ∨ o = 5 then true else if o = 3 ∨ o = 6 then ns.all id else if o = 4 then ns.any id else if o = 7 then ns.getD 0 false && !(ns.getD 1 false) else false
theorem RE.null_mk (o : Nat) (s : BitVec 256) (ks : List RE) : (RE.mk o s ks).null =
    if o = 1 ∨ o = 5 then true else if o = 3 ∨ o = 6 then (ks.map RE.null).all id else if o = 4 then (ks.map RE.null).any id else if o = 7 then (ks.map RE.null).getD 0 false && !((ks.map RE.null).getD 1 false) else false := by rw [RE.null]

/-- A pointer to a block's first cell. -/
def PT (b : Nat) : Value := .pointer (some ⟨b, 0, none⟩)
/-- A slice is as long as its capacity at most. -/
def capOk (v : Value) : Prop := ∀ a m c, v = .slice a m c → m ≤ c
theorem capOk.mk {a : Option Addr} {m c : Nat} (h : m ≤ c) : capOk (.slice a m c) := fun _ _ _ e => by injection e with _ e2 e3; omega
/-- A slice of n pointers. -/
def PtrRow (w : World) (v : Value) (bs : Nat → Nat) (n : Nat) : Prop :=
  (n ≤ 4611686018427387904 ∧ capOk v) ∧ ∃ a cap, v = .slice a n cap ∧ ∀ k, k < n → ∃ b off, a = some ⟨b, off, none⟩ ∧ b < w.heap.size ∧ w.cell? ⟨b, off + k, none⟩ = some (PT (bs k))
theorem PtrRow.below {w w' : World} {v : Value} {bs : Nat → Nat} {n : Nat} (h : PtrRow w v bs n) (hb : Below w.heap.size w w') : PtrRow w' v bs n := by
  obtain ⟨h1, a, cap, rfl, h2⟩ := h
  refine ⟨h1, a, cap, rfl, fun k hk => ?_⟩
  obtain ⟨b, off, e, hlt, hc⟩ := h2 k hk
  refine ⟨b, off, e, Nat.lt_of_lt_of_le hlt hb.size, ?_⟩
  rw [← hc]
  exact World.cell?_of_block (w := w) (hb.block b hlt)

/-- The cells of an expression. -/
def reC (b o : Nat) (s : BitVec 256) (v : Value) (nul : Bool) (sz : Nat) : Array Value :=
  #[.int .i64 o, .int .u64 (wd s 0), .int .u64 (wd s 1), .int .u64 (wd s 2), .int .u64 (wd s 3), v, PT b, .bool nul, .int .i64 sz]

/-- Block b holds an expression that package re made. -/
inductive ReAt (w : World) : Nat → RE → Prop where
  | mk (b o : Nat) (s : BitVec 256) (ks : List RE) (v : Value) (bs : Nat → Nat) (blk : Blk w b (reC b o s v (RE.mk o s ks).null (RE.mk o s ks).size) 73)
      (row : PtrRow w v bs ks.length) (kid : ∀ i k, ks[i]? = some k → ReAt w (bs i) k) : ReAt w b (.mk o s ks)
theorem ReAt.keep {w w' : World} {b : Nat} {r : RE} (h : ReAt w b r) (hb : Below w.heap.size w w') : ReAt w' b r := by
  induction h with
  | mk b o s ks v bs blk row kid ih => exact .mk b o s ks v bs (blk.below hb blk.lt) (row.below hb) ih
theorem ReAt.open {w : World} {b : Nat} {r : RE} (h : ReAt w b r) : ∃ v bs, Blk w b (reC b r.op r.set v r.null r.size) 73 ∧ PtrRow w v bs r.kids.length ∧ ∀ i k, r.kids[i]? = some k → ReAt w (bs i) k := by
  cases h with
  | mk b o s ks v bs blk row kid => exact ⟨v, bs, blk, row, kid⟩
theorem ReAt.lt {w : World} {b : Nat} {r : RE} (h : ReAt w b r) : b < w.heap.size := by
  obtain ⟨_, _, blk, _⟩ := h.open
  exact blk.lt
/-- A block holds one expression at most. -/
theorem ReAt.one {w : World} {b : Nat} {r r' : RE} (h : ReAt w b r) (h' : ReAt w b r') : r = r' := by
  induction h generalizing r' with
  | mk b o s ks v bs blk row kid ih =>
    cases h' with
    | mk _ o' s' ks' v' bs' blk' row' kid' =>
      have e : reC b o s v (RE.mk o s ks).null (RE.mk o s ks).size = reC b o' s' v' (RE.mk o' s' ks').null (RE.mk o' s' ks').size := by
        have h1 := blk.of_cells.symm.trans blk'.of_cells
        injection h1 with h1; injection h1
      simp only [reC, Array.mk.injEq, List.cons.injEq, Value.int.injEq, true_and] at e
      obtain ⟨e0, e1, e2, e3, e4, rfl, -⟩ := e
      have hs : s = s' := wd_ext (by omega) (by omega) (by omega) (by omega)
      have ho : o = o' := by omega
      obtain ⟨_, a, cap, hv, hc⟩ := row
      obtain ⟨_, a', cap', hv', hc'⟩ := row'
      rw [hv] at hv'
      injection hv' with ha hn hcap
      subst ha hs ho
      have hks : ks = ks' := by
        apply List.ext_getElem hn
        intro i h1 h2
        obtain ⟨b1, o1, e1, _, c1⟩ := hc i h1
        obtain ⟨b2, o2, e2, _, c2⟩ := hc' i h2
        rw [e1] at e2
        injection e2 with e2; injection e2 with e3 e4; subst e3 e4
        have e5 : PT (bs i) = PT (bs' i) := Option.some.inj (c1.symm.trans c2)
        have e6 : bs i = bs' i := by simpa [PT] using e5
        exact ih i _ (List.getElem?_eq_getElem h1) (e6 ▸ kid' i _ (List.getElem?_eq_getElem h2))
      rw [hks]

/-- A slice of expressions that package re made. -/
def ResRow (w : World) (v : Value) (l : List RE) : Prop := ∃ bs, PtrRow w v bs l.length ∧ ∀ i k, l[i]? = some k → ReAt w (bs i) k
theorem ResRow.below {w w' : World} {v : Value} {l : List RE} (h : ResRow w v l) (hb : Below w.heap.size w w') : ResRow w' v l := by
  obtain ⟨bs, h1, h2⟩ := h
  exact ⟨bs, h1.below hb, fun i k hk => (h2 i k hk).keep hb⟩
theorem ReAt.row {w : World} {b : Nat} {r : RE} (h : ReAt w b r) : ∃ v, Blk w b (reC b r.op r.set v r.null r.size) 73 ∧ ResRow w v r.kids := by
  obtain ⟨v, bs, h1, h2, h3⟩ := h.open
  exact ⟨v, h1, bs, h2, h3⟩
theorem ReAt.ofRow {w : World} {b o : Nat} {s : BitVec 256} {ks : List RE} {v : Value} (hb : Blk w b (reC b o s v (RE.mk o s ks).null (RE.mk o s ks).size) 73) (h : ResRow w v ks) : ReAt w b (.mk o s ks) := by
  obtain ⟨bs, h1, h2⟩ := h
  exact .mk b o s ks v bs hb h1 h2
/-- What lies at one place of a slice. -/
theorem ResRow.at {w : World} {v : Value} {l : List RE} (h : ResRow w v l) : l.length ≤ 4611686018427387904 ∧ ∃ a cap, v = .slice a l.length cap ∧ ∀ k (hk : k < l.length), ∃ b off bk, a = some ⟨b, off, none⟩ ∧ b < w.heap.size ∧ w.cell? ⟨b, off + k, none⟩ = some (PT bk) ∧ ReAt w bk l[k] := by
  obtain ⟨bs, ⟨h0, a, cap, rfl, h1⟩, h2⟩ := h
  refine ⟨h0.1, a, cap, rfl, fun k hk => ?_⟩
  obtain ⟨b, off, e, hlt, hc⟩ := h1 k hk
  exact ⟨b, off, bs k, e, hlt, hc, h2 k _ (List.getElem?_eq_getElem hk)⟩
theorem ResRow.cap {w : World} {v : Value} {l : List RE} (h : ResRow w v l) : capOk v := by
  obtain ⟨bs, ⟨h0, -⟩, -⟩ := h
  exact h0.2
end Go.Proofs.YtkjmjppmpcnejaaGreatDoor
