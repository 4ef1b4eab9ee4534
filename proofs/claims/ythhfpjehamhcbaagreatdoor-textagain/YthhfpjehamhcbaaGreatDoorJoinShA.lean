/- Texts of this claim put together: Open2, ShA. -/
import Derived.Test.YthhfpjehamhcbaaGreatDoorJoinOpen
import Derived.Test.YthhfpjehamhcbaaGreatDoorJoinRow
import Derived.Deep.Slices
import Derived.Test.YthhfpjehamhcbaaGreatDoorJoinMathWf
/- A slice of sets that came in. -/
namespace Go.Proofs.YthhfpjehamhcbaaGreatDoor
set_option maxRecDepth 100000
open Go.ChangeShapes Go.WideShapes Go.ChangeAt Go.WideMaps Go.WideElems Go.RowKit

theorem elem_set {H : Type} {enc : TypeId × Value → H} {w : World} {base : Nat} {sp : Nat → Bool} {held : Bool} {n : Nat} {cs : List Value} {x : DataW H × List MemPlace}
    (hf : DataW.trod enc Tryz.prog w base sp held n 49 cs = some x) : ∃ s, cs = [.int .u64 (wd s 0), .int .u64 (wd s 1), .int .u64 (wd s 2), .int .u64 (wd s 3)] := by
  obtain ⟨xs, m, rfl, hx, hl, hn, hel⟩ := DataW.trod_array Tryz.underlying49 hf
  rw [cells4] at hl
  have h0 := hel 0 (by omega); have h1 := hel 1 (by omega); have h2 := hel 2 (by omega); have h3 := hel 3 (by omega)
  rw [cells1] at h0 h1 h2 h3
  match cs, hl, xs, hn with
  | [c0, c1, c2, c3], _, [x0, x1, x2, x3], _ =>
    simp only [List.getElem?_cons_zero, List.getElem?_cons_succ] at h0 h1 h2 h3
    obtain ⟨a, e0, rfl, w0⟩ := DataW.trod_int Tryz.underlying47 h0
    obtain ⟨b, e1, rfl, w1⟩ := DataW.trod_int Tryz.underlying47 h1
    obtain ⟨c, e2, rfl, w2⟩ := DataW.trod_int Tryz.underlying47 h2
    obtain ⟨d', e3, rfl, w3⟩ := DataW.trod_int Tryz.underlying47 h3
    simp at e0 e1 e2 e3
    subst e0 e1 e2 e3
    have b0 := bounds_u64 w0; have b1 := bounds_u64 w1; have b2 := bounds_u64 w2; have b3 := bounds_u64 w3
    obtain ⟨a, rfl⟩ := Int.eq_ofNat_of_zero_le b0.1
    obtain ⟨b, rfl⟩ := Int.eq_ofNat_of_zero_le b1.1
    obtain ⟨c, rfl⟩ := Int.eq_ofNat_of_zero_le b2.1
    obtain ⟨d', rfl⟩ := Int.eq_ofNat_of_zero_le b3.1
    obtain ⟨s, g0, g1, g2, g3⟩ := mk_set a b c d' (by omega) (by omega) (by omega) (by omega)
    subst g0 g1 g2 g3
    exact ⟨s, rfl⟩

theorem open_sets {H : Type} {enc : TypeId × Value → H} {w : World} {r : Reach} {b0 base : Nat} {sp : Nat → Bool} {held : Bool} {v : Value} {d : DataW H} {p : List MemPlace}
    (hv : Value.okWide Tryz.prog w r b0 64 v) (h : DataW.Trod enc Tryz.prog w base sp held 64 v d p) : ∃ l, SetsRow w v l := by
  obtain ⟨a, len, cap, rfl⟩ := okWide_slice Tryz.underlying64 hv
  obtain ⟨fuel, hf⟩ := h
  rcases Go.Deep.open_slice Tryz.underlying64 hf with ⟨hcs, _⟩ | ⟨x, l, c, m, n, D, Pl, hcs, _, hl, hm, hmm, _, hel⟩
  · simp [Value.cells] at hcs
    obtain ⟨rfl, rfl, rfl⟩ := hcs
    exact ⟨[], by simp, none, 0, rfl, fun k hk => by simp at hk⟩
  · simp [Value.cells] at hcs
    obtain ⟨rfl, rfl, rfl⟩ := hcs
    have hlm : len ≤ m := by rw [hmm]; split <;> omega
    unfold maxLen at hm
    have key : ∀ i, ∃ s : BitVec 256, i < len → ∀ j, j < 4 → w.cell? ((x.add (i * 4)).add j) = some (.int .u64 (wd s j)) := fun i => by
      by_cases hi : i < len
      · obtain ⟨cs', h1, h2⟩ := hel i (by omega)
        rw [cells4] at h1
        obtain ⟨s, rfl⟩ := elem_set h2
        obtain ⟨_, h4, h5⟩ := World.cells?_some h1
        refine ⟨s, fun _ j hj => ?_⟩
        rw [h5 j hj]
        match j, hj with
        | 0, _ => rfl
        | 1, _ => rfl
        | 2, _ => rfl
        | 3, _ => rfl
      · exact ⟨0, fun h => absurd h hi⟩
    let f : Nat → BitVec 256 := fun i => Classical.choose (key i)
    have hfs : ∀ i, i < len → ∀ j, j < 4 → w.cell? ((x.add (i * 4)).add j) = some (.int .u64 (wd (f i) j)) := fun i => Classical.choose_spec (key i)
    refine ⟨(List.range len).map f, by simp; omega, some x, cap, by simp, fun k hk => ?_⟩
    have hk' : k < len := by simpa using hk
    obtain ⟨b, off, spot⟩ := x
    have hspot : spot = none := by
      have := World.cell?_spot (hfs 0 (by omega) 0 (by omega))
      simpa [Addr.add] using this
    subst hspot
    have hadd : ∀ j, ((⟨b, off, none⟩ : Addr).add (k * 4)).add j = ⟨b, off + k * 4 + j, none⟩ := fun j => by rw [Go.WideShapes.add_plain, Go.WideShapes.add_plain]
    refine ⟨b, off, rfl, ?_, fun j hj => ?_⟩
    · have h0 := hfs k hk' 0 (by omega)
      rw [hadd] at h0
      exact World.block_lt_of_cell? _ _ h0
    · have h0 := hfs k hk' j hj
      rw [hadd] at h0
      rw [h0]
      simp [List.getD_eq_getElem?_getD, hk']
end Go.Proofs.YthhfpjehamhcbaaGreatDoor
/- The statements' shapes: trees that came in. -/
namespace Go.Proofs.YthhfpjehamhcbaaGreatDoor
set_option maxRecDepth 100000
set_option linter.unusedSimpArgs false
set_option linter.unusedVariables false
open Go.RowKit

inductive SHP : Type where
  | mk (op : Int) (lo hi : Nat) (text : ByteArray) (kids : List SHP) : SHP
def SHP.op : SHP → Int | .mk o _ _ _ _ => o
def SHP.lo : SHP → Nat | .mk _ l _ _ _ => l
def SHP.hi : SHP → Nat | .mk _ _ h _ _ => h
def SHP.text : SHP → ByteArray | .mk _ _ _ t _ => t
def SHP.kids : SHP → List SHP | .mk _ _ _ _ ks => ks
theorem SHP.ind {P : SHP → Prop} (h : ∀ o l u t ks, (∀ k ∈ ks, P k) → P (.mk o l u t ks)) (s : SHP) : P s := by
  cases s with
  | mk o l u t ks => exact h o l u t ks fun k hk => SHP.ind h k
termination_by SizeOf.sizeOf s
decreasing_by
  have := List.sizeOf_lt_of_mem hk
  simp; omega

/-- The elements of a slice of shapes, five cells each. -/
def ShRow (w : World) (v : Value) (n : Nat) (cells : Nat → List Value) : Prop :=
  (n ≤ 9223372036854775807 ∧ capOk v) ∧ ∃ a cap, v = .slice a n cap ∧ ∀ k, k < n → (cells k).length = 5 ∧ ∃ b off, a = some ⟨b, off, none⟩ ∧ b < w.heap.size ∧ ∀ j u, (cells k)[j]? = some u → w.cell? ⟨b, off + k * 5 + j, none⟩ = some u
theorem ShRow.keep {w w' : World} {v : Value} {n : Nat} {cells : Nat → List Value} (h : ShRow w v n cells) (hb : Below w.heap.size w w') : ShRow w' v n cells := by
  obtain ⟨h0, a, cap, rfl, h1⟩ := h
  refine ⟨h0, a, cap, rfl, fun k hk => ?_⟩
  obtain ⟨h2, b, off, e, hlt, hc⟩ := h1 k hk
  exact ⟨h2, b, off, e, Nat.lt_of_lt_of_le hlt hb.size, fun j u hu => (World.cell?_of_block (w := w) (hb.block b hlt)).trans (hc j u hu)⟩
inductive ShC (w : World) : List Value → SHP → Prop where
  | mk (o : Int) (l u : Nat) (t : ByteArray) (ks : List SHP) (v : Value) (cells : Nat → List Value) (ho : -9223372036854775808 ≤ o ∧ o ≤ 9223372036854775807) (hl : l < 256) (hu : u < 256) (ht : t.size ≤ 9223372036854775807)
      (hrow : ShRow w v ks.length cells) (hk : ∀ i k, ks[i]? = some k → ShC w (cells i) k) : ShC w [.int .i64 o, .int .u8 l, .int .u8 u, .string t, v] (.mk o l u t ks)
theorem ShC.keep {w w' : World} {cs : List Value} {s : SHP} (h : ShC w cs s) (hb : Below w.heap.size w w') : ShC w' cs s := by
  induction h with
  | mk o l u t ks v cells ho hl hu ht hrow hk ih => exact .mk o l u t ks v cells ho hl hu ht (hrow.keep hb) ih
/-- A slice of shapes. -/
def ShsRow (w : World) (v : Value) (ks : List SHP) : Prop := ∃ cells, ShRow w v ks.length cells ∧ ∀ i k, ks[i]? = some k → ShC w (cells i) k
theorem ShsRow.keep {w w' : World} {v : Value} {ks : List SHP} (h : ShsRow w v ks) (hb : Below w.heap.size w w') : ShsRow w' v ks := by
  obtain ⟨cells, h1, h2⟩ := h
  exact ⟨cells, h1.keep hb, fun i k hk => (h2 i k hk).keep hb⟩
theorem ShC.open {w : World} {cs : List Value} {s : SHP} (h : ShC w cs s) : ∃ v, cs = [.int .i64 s.op, .int .u8 s.lo, .int .u8 s.hi, .string s.text, v] ∧ ShsRow w v s.kids ∧ (-9223372036854775808 ≤ s.op ∧ s.op ≤ 9223372036854775807) ∧ s.lo < 256 ∧ s.hi < 256 ∧ s.text.size ≤ 9223372036854775807 := by
  cases h with
  | mk o l u t ks v cells ho hl hu ht hrow hk => exact ⟨v, rfl, ⟨cells, hrow, hk⟩, ho, hl, hu, ht⟩
/-- One element of a slice. -/
theorem ShsRow.at {w : World} {v : Value} {ks : List SHP} (h : ShsRow w v ks) : ks.length ≤ 9223372036854775807 ∧ ∃ a cap, v = .slice a ks.length cap ∧ ∀ k (hk : k < ks.length), ∃ b off kv, a = some ⟨b, off, none⟩ ∧ b < w.heap.size ∧
    (w.cell? ⟨b, off + k * 5, none⟩ = some (.int .i64 ks[k].op) ∧ w.cell? ⟨b, off + k * 5 + 1, none⟩ = some (.int .u8 ks[k].lo) ∧ w.cell? ⟨b, off + k * 5 + 2, none⟩ = some (.int .u8 ks[k].hi) ∧ w.cell? ⟨b, off + k * 5 + 3, none⟩ = some (.string ks[k].text) ∧ w.cell? ⟨b, off + k * 5 + 4, none⟩ = some kv) ∧
    ShC w [.int .i64 ks[k].op, .int .u8 ks[k].lo, .int .u8 ks[k].hi, .string ks[k].text, kv] ks[k] := by
  obtain ⟨cells, ⟨h0, a, cap, rfl, h1⟩, h2⟩ := h
  refine ⟨h0.1, a, cap, rfl, fun k hk => ?_⟩
  obtain ⟨h3, b, off, e, hlt, hc⟩ := h1 k hk
  have h4 := h2 k _ (List.getElem?_eq_getElem hk)
  obtain ⟨kv, e5, -⟩ := h4.open
  refine ⟨b, off, kv, e, hlt, ⟨?_, ?_, ?_, ?_, ?_⟩, by rw [← e5]; exact h4⟩
  · have := hc 0 _ (by rw [e5]; rfl); simpa using this
  · exact hc 1 _ (by rw [e5]; rfl)
  · exact hc 2 _ (by rw [e5]; rfl)
  · exact hc 3 _ (by rw [e5]; rfl)
  · exact hc 4 _ (by rw [e5]; rfl)

theorem ShsRow.cap {w : World} {v : Value} {ks : List SHP} (h : ShsRow w v ks) : capOk v := by
  obtain ⟨cells, ⟨h0, -⟩, -⟩ := h
  exact h0.2

section
open Go.ChangeShapes Go.WideShapes Go.ChangeAt Go.WideMaps Go.WideElems
theorem cells5 : Tryz.prog.cellsOf 24 = 5 := by kernel_rfl
theorem cellsI : Tryz.prog.cellsOf 3 = 1 := by kernel_rfl
theorem cellsU : Tryz.prog.cellsOf 5 = 1 := by kernel_rfl
theorem cellsT : Tryz.prog.cellsOf 9 = 1 := by kernel_rfl
theorem cellsK : Tryz.prog.cellsOf 22 = 1 := by kernel_rfl
/-- Slices of shapes, where what one element reads as is known. -/
theorem open_shapesF {H : Type} {enc : TypeId × Value → H} {w : World} {base : Nat} {sp : Nat → Bool} {held : Bool} {fuel : Nat} {v : Value} {x : DataW H × List MemPlace}
    (ih : ∀ n, n < fuel → ∀ cs y, DataW.trod enc Tryz.prog w base sp held n 24 cs = some y → ∃ s, ShC w cs s)
    (h : DataW.trod enc Tryz.prog w base sp held fuel 22 [v] = some x) : ∃ ks, ShsRow w v ks := by
  rcases DataW.trod_slice Tryz.underlying22 h with ⟨hcs, -⟩ | ⟨a, len, cap, elems, rest, n, rfl, hcs, -, hb, hl, hm, hlen, hel, -, -⟩
  · simp at hcs
    subst hcs
    exact ⟨[], fun _ => [], ⟨⟨by simp, .mk (by omega)⟩, none, 0, rfl, fun k hk => by simp at hk⟩, fun i k hk => by simp at hk⟩
  · simp at hcs
    subst hcs
    have key : ∀ i, ∃ (cs : List Value) (s : SHP), i < len → w.cells? base (a.add (i * 5)) 5 = some cs ∧ ShC w cs s := fun i => by
      by_cases hi : i < len
      · have h1 := hel i hi
        rw [cells5, List.getElem?_eq_getElem (by omega)] at h1
        obtain ⟨cs, h2, h3⟩ := Option.bind_eq_some_iff.1 h1
        obtain ⟨s, hs⟩ := ih n (by omega) cs _ h3
        exact ⟨cs, s, fun _ => ⟨h2, hs⟩⟩
      · exact ⟨[], .mk 0 0 0 .empty [], fun h => absurd h hi⟩
    obtain ⟨f, hf⟩ : ∃ f : Nat → List Value, ∀ i, ∃ s : SHP, i < len → w.cells? base (a.add (i * 5)) 5 = some (f i) ∧ ShC w (f i) s := ⟨fun i => Classical.choose (key i), fun i => Classical.choose_spec (key i)⟩
    obtain ⟨g, hg⟩ : ∃ g : Nat → SHP, ∀ i, i < len → w.cells? base (a.add (i * 5)) 5 = some (f i) ∧ ShC w (f i) (g i) := ⟨fun i => Classical.choose (hf i), fun i => Classical.choose_spec (hf i)⟩
    refine ⟨(List.range len).map g, f, ⟨⟨by simp; unfold maxLen at hm; omega, .mk hl⟩, some a, cap, by simp, fun k hk => ?_⟩, fun i k hk => ?_⟩
    · have hk' : k < len := by simpa using hk
      obtain ⟨h1, -⟩ := hg k hk'
      obtain ⟨h2, h3, h4⟩ := World.cells?_some h1
      obtain ⟨b, off, spot⟩ := a
      have hspot : spot = none := by
        have h0 := (hg 0 (by omega)).1
        obtain ⟨-, h3', h4'⟩ := World.cells?_some h0
        have q := h4' 0 (by omega)
        rw [List.getElem?_eq_getElem (by omega)] at q
        have := World.cell?_spot q
        simpa [Addr.add] using this
      subst hspot
      have hadd : ∀ j, ((⟨b, off, none⟩ : Addr).add (k * 5)).add j = ⟨b, off + k * 5 + j, none⟩ := fun j => by rw [Go.WideShapes.add_plain, Go.WideShapes.add_plain]
      refine ⟨h3, b, off, rfl, ?_, fun j u hu => ?_⟩
      · have h0 := h4 0 (by omega)
        rw [hadd] at h0
        cases e : w.cell? ⟨b, off + k * 5 + 0, none⟩ with
        | none => rw [e] at h0; rw [List.getElem?_eq_getElem (by omega)] at h0; cases h0
        | some u => exact World.block_lt_of_cell? _ _ e
      · have hj : j < 5 := by have := (List.getElem?_eq_some_iff.1 hu).1; omega
        have h0 := h4 j hj
        rw [hadd, hu] at h0
        exact h0
    · have hi : i < len := by have := (List.getElem?_eq_some_iff.1 hk).1; simpa using this
      rw [List.getElem?_map] at hk
      simp [hi] at hk
      rw [← hk]; exact (hg i hi).2
theorem open_shapeF {H : Type} {enc : TypeId × Value → H} {w : World} {base : Nat} {sp : Nat → Bool} {held : Bool} : ∀ (fuel : Nat) (cs : List Value) (x : DataW H × List MemPlace),
    DataW.trod enc Tryz.prog w base sp held fuel 24 cs = some x → ∃ s, ShC w cs s := by
  intro fuel
  induction fuel using Nat.strongRecOn with
  | _ fuel ih =>
    intro cs x h
    obtain ⟨xs, n, rfl, -, hl, hx, hf⟩ := DataW.trod_struct Tryz.underlying24 h
    rw [cells5] at hl
    have f0 : DataW.trod enc Tryz.prog w base sp held n 3 ((cs.drop 0).take (Tryz.prog.cellsOf 3)) = xs[0]? := hf 0 _ rfl
    have f1 : DataW.trod enc Tryz.prog w base sp held n 5 ((cs.drop 1).take (Tryz.prog.cellsOf 5)) = xs[1]? := hf 1 _ rfl
    have f2 : DataW.trod enc Tryz.prog w base sp held n 5 ((cs.drop 2).take (Tryz.prog.cellsOf 5)) = xs[2]? := hf 2 _ rfl
    have f3 : DataW.trod enc Tryz.prog w base sp held n 9 ((cs.drop 3).take (Tryz.prog.cellsOf 9)) = xs[3]? := hf 3 _ rfl
    have f4 : DataW.trod enc Tryz.prog w base sp held n 22 ((cs.drop 4).take (Tryz.prog.cellsOf 22)) = xs[4]? := hf 4 _ rfl
    rw [cellsI] at f0
    rw [cellsU] at f1 f2
    rw [cellsT] at f3
    rw [cellsK] at f4
    have hx5 : xs.length = 5 := hx
    match cs, hl, xs, hx5 with
    | [c0, c1, c2, c3, c4], _, [y0, y1, y2, y3, y4], _ =>
      simp only [List.drop_zero, List.drop_succ_cons, List.take_succ_cons, List.take_zero, List.getElem?_cons_zero, List.getElem?_cons_succ] at f0 f1 f2 f3 f4
      obtain ⟨o, e0, -, w0⟩ := DataW.trod_int Tryz.underlying3 f0
      obtain ⟨l, e1, -, w1⟩ := DataW.trod_int Tryz.underlying5 f1
      obtain ⟨u, e2, -, w2⟩ := DataW.trod_int Tryz.underlying5 f2
      simp at e0 e1 e2
      subst e0 e1 e2
      obtain ⟨t, e3, ht⟩ : ∃ t : ByteArray, c3 = .string t ∧ t.size ≤ maxLen := by
        cases n with
        | zero => simp [DataW.trod] at f3
        | succ m =>
          unfold DataW.trod at f3
          rw [Tryz.underlying9] at f3
          split at f3 <;> simp_all
      subst e3
      obtain ⟨ks, hks⟩ := open_shapesF (fun m hm => ih m (by omega)) f4
      obtain ⟨cells, hr, hk⟩ := hks
      have b0 := bounds_i64 w0; have b1 := bounds_u8 w1; have b2 := bounds_u8 w2
      obtain ⟨l, rfl⟩ := Int.eq_ofNat_of_zero_le b1.1
      obtain ⟨u, rfl⟩ := Int.eq_ofNat_of_zero_le b2.1
      exact ⟨.mk o l u t ks, .mk o l u t ks c4 cells (by omega) (by omega) (by omega) (by unfold maxLen at ht; omega) hr hk⟩
end
end Go.Proofs.YthhfpjehamhcbaaGreatDoor
