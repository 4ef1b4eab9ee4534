/- Texts of this claim put together: Open2, ShA, TrA, TrB, TwA, TwB, TwC. -/
import Derived.Test.YtdbdjjjmomociaaGreatDoorJoinOpen
import Derived.Test.YtdbdjjjmomociaaGreatDoorJoinGen
import Derived.Deep.Slices
import Derived.Test.YtdbdjjjmomociaaGreatDoorJoinReO
import Derived.Lib.Bytealg
import Derived.Lib.AppendStr
/- A slice of sets that came in. -/
namespace Go.Proofs.YtdbdjjjmomociaaGreatDoor
set_option maxRecDepth 100000
open Go.ChangeShapes Go.WideShapes Go.ChangeAt Go.WideMaps Go.WideElems Go.RowKit

theorem elem_set {H : Type} {enc : TypeId × Value → H} {w : World} {base : Nat} {sp : Nat → Bool} {held : Bool} {n : Nat} {cs : List Value} {x : DataW H × List MemPlace}
    (hf : DataW.trod enc Tryz.prog w base sp held n 44 cs = some x) : ∃ s, cs = [.int .u64 (wd s 0), .int .u64 (wd s 1), .int .u64 (wd s 2), .int .u64 (wd s 3)] := by
  obtain ⟨xs, m, rfl, hx, hl, hn, hel⟩ := DataW.trod_array Tryz.underlying44 hf
  rw [cells4] at hl
  have h0 := hel 0 (by omega); have h1 := hel 1 (by omega); have h2 := hel 2 (by omega); have h3 := hel 3 (by omega)
  rw [cells1] at h0 h1 h2 h3
  match cs, hl, xs, hn with
  | [c0, c1, c2, c3], _, [x0, x1, x2, x3], _ =>
    simp only [List.getElem?_cons_zero, List.getElem?_cons_succ] at h0 h1 h2 h3
    obtain ⟨a, e0, rfl, w0⟩ := DataW.trod_int Tryz.underlying42 h0
    obtain ⟨b, e1, rfl, w1⟩ := DataW.trod_int Tryz.underlying42 h1
    obtain ⟨c, e2, rfl, w2⟩ := DataW.trod_int Tryz.underlying42 h2
    obtain ⟨d', e3, rfl, w3⟩ := DataW.trod_int Tryz.underlying42 h3
    simp at e0 e1 e2 e3
    subst e0 e1 e2 e3
    have b0 := bounds_u64 w0; have b1 := bounds_u64 w1; have b2 := bounds_u64 w2; have b3 := bounds_u64 w3
    obtain ⟨a, rfl⟩ := Int.eq_ofNat_of_zero_le b0.1
    obtain ⟨b, rfl⟩ := Int.eq_ofNat_of_zero_le b1.1
    obtain ⟨c, rfl⟩ := Int.eq_ofNat_of_zero_le b2.1
    obtain ⟨d', rfl⟩ := Int.eq_ofNat_of_zero_le b3.1
    obtain ⟨s, g0, g1, g2, g3⟩ := mk_set a b c d' (by omega) (by omega) (by omega) (by omega)
    subst g0 g1 g2 g3
    exact ⟨s, rfl⟩

theorem open_sets {H : Type} {enc : TypeId × Value → H} {w : World} {r : Reach} {b0 base : Nat} {sp : Nat → Bool} {held : Bool} {v : Value} {d : DataW H} {p : List MemPlace}
    (hv : Value.okWide Tryz.prog w r b0 63 v) (h : DataW.Trod enc Tryz.prog w base sp held 63 v d p) : ∃ l, SetsRow w v l := by
  obtain ⟨a, len, cap, rfl⟩ := okWide_slice Tryz.underlying63 hv
  obtain ⟨fuel, hf⟩ := h
  rcases Go.Deep.open_slice Tryz.underlying63 hf with ⟨hcs, _⟩ | ⟨x, l, c, m, n, D, Pl, hcs, _, hl, hm, hmm, _, hel⟩
  · simp [Value.cells] at hcs
    obtain ⟨rfl, rfl, rfl⟩ := hcs
    exact ⟨[], by simp, none, 0, rfl, fun k hk => by simp at hk⟩
  · simp [Value.cells] at hcs
    obtain ⟨rfl, rfl, rfl⟩ := hcs
    have hlm : len ≤ m := by rw [hmm]; split <;> omega
    unfold maxLen at hm
    have key : ∀ i, ∃ s : BitVec 256, i < len → ∀ j, j < 4 → w.cell? ((x.add (i * 4)).add j) = some (.int .u64 (wd s j)) := fun i => by
      by_cases hi : i < len
      · obtain ⟨cs', h1, h2⟩ := hel i (by omega)
        rw [cells4] at h1
        obtain ⟨s, rfl⟩ := elem_set h2
        obtain ⟨_, h4, h5⟩ := World.cells?_some h1
        refine ⟨s, fun _ j hj => ?_⟩
        rw [h5 j hj]
        match j, hj with
        | 0, _ => rfl
        | 1, _ => rfl
        | 2, _ => rfl
        | 3, _ => rfl
      · exact ⟨0, fun h => absurd h hi⟩
    let f : Nat → BitVec 256 := fun i => Classical.choose (key i)
    have hfs : ∀ i, i < len → ∀ j, j < 4 → w.cell? ((x.add (i * 4)).add j) = some (.int .u64 (wd (f i) j)) := fun i => Classical.choose_spec (key i)
    refine ⟨(List.range len).map f, by simp; omega, some x, cap, by simp, fun k hk => ?_⟩
    have hk' : k < len := by simpa using hk
    obtain ⟨b, off, spot⟩ := x
    have hspot : spot = none := by
      have := World.cell?_spot (hfs 0 (by omega) 0 (by omega))
      simpa [Addr.add] using this
    subst hspot
    have hadd : ∀ j, ((⟨b, off, none⟩ : Addr).add (k * 4)).add j = ⟨b, off + k * 4 + j, none⟩ := fun j => by rw [Go.WideShapes.add_plain, Go.WideShapes.add_plain]
    refine ⟨b, off, rfl, ?_, fun j hj => ?_⟩
    · have h0 := hfs k hk' 0 (by omega)
      rw [hadd] at h0
      exact World.block_lt_of_cell? _ _ h0
    · have h0 := hfs k hk' j hj
      rw [hadd] at h0
      rw [h0]
      simp [List.getD_eq_getElem?_getD, hk']
end Go.Proofs.YtdbdjjjmomociaaGreatDoor
/- The statements' shapes: trees that came in. -/
namespace Go.Proofs.YtdbdjjjmomociaaGreatDoor
set_option maxRecDepth 100000
set_option linter.unusedSimpArgs false
set_option linter.unusedVariables false
open Go.RowKit

inductive SHP : Type where
  | mk (op : Int) (lo hi : Nat) (text : ByteArray) (kids : List SHP) : SHP
def SHP.op : SHP → Int | .mk o _ _ _ _ => o
def SHP.lo : SHP → Nat | .mk _ l _ _ _ => l
def SHP.hi : SHP → Nat | .mk _ _ h _ _ => h
def SHP.text : SHP → ByteArray | .mk _ _ _ t _ => t
def SHP.kids : SHP → List SHP | .mk _ _ _ _ ks => ks
theorem SHP.ind {P : SHP → Prop} (h : ∀ o l u t ks, (∀ k ∈ ks, P k) → P (.mk o l u t ks)) (s : SHP) : P s := by
  cases s with
  | mk o l u t ks => exact h o l u t ks fun k hk => SHP.ind h k
termination_by SizeOf.sizeOf s
decreasing_by
  have := List.sizeOf_lt_of_mem hk
  simp; omega

/-- The elements of a slice of shapes, five cells each. -/
def ShRow (w : World) (v : Value) (n : Nat) (cells : Nat → List Value) : Prop :=
  (n ≤ 9223372036854775807 ∧ capOk v) ∧ ∃ a cap, v = .slice a n cap ∧ ∀ k, k < n → (cells k).length = 5 ∧ ∃ b off, a = some ⟨b, off, none⟩ ∧ b < w.heap.size ∧ ∀ j u, (cells k)[j]? = some u → w.cell? ⟨b, off + k * 5 + j, none⟩ = some u
theorem ShRow.keep {w w' : World} {v : Value} {n : Nat} {cells : Nat → List Value} (h : ShRow w v n cells) (hb : Below w.heap.size w w') : ShRow w' v n cells := by
  obtain ⟨h0, a, cap, rfl, h1⟩ := h
  refine ⟨h0, a, cap, rfl, fun k hk => ?_⟩
  obtain ⟨h2, b, off, e, hlt, hc⟩ := h1 k hk
  exact ⟨h2, b, off, e, Nat.lt_of_lt_of_le hlt hb.size, fun j u hu => (World.cell?_of_block (w := w) (hb.block b hlt)).trans (hc j u hu)⟩
inductive ShC (w : World) : List Value → SHP → Prop where
  | mk (o : Int) (l u : Nat) (t : ByteArray) (ks : List SHP) (v : Value) (cells : Nat → List Value) (ho : -9223372036854775808 ≤ o ∧ o ≤ 9223372036854775807) (hl : l < 256) (hu : u < 256) (ht : t.size ≤ 9223372036854775807)
      (hrow : ShRow w v ks.length cells) (hk : ∀ i k, ks[i]? = some k → ShC w (cells i) k) : ShC w [.int .i64 o, .int .u8 l, .int .u8 u, .string t, v] (.mk o l u t ks)
theorem ShC.keep {w w' : World} {cs : List Value} {s : SHP} (h : ShC w cs s) (hb : Below w.heap.size w w') : ShC w' cs s := by
  induction h with
  | mk o l u t ks v cells ho hl hu ht hrow hk ih => exact .mk o l u t ks v cells ho hl hu ht (hrow.keep hb) ih
/-- A slice of shapes. -/
def ShsRow (w : World) (v : Value) (ks : List SHP) : Prop := ∃ cells, ShRow w v ks.length cells ∧ ∀ i k, ks[i]? = some k → ShC w (cells i) k
theorem ShsRow.keep {w w' : World} {v : Value} {ks : List SHP} (h : ShsRow w v ks) (hb : Below w.heap.size w w') : ShsRow w' v ks := by
  obtain ⟨cells, h1, h2⟩ := h
  exact ⟨cells, h1.keep hb, fun i k hk => (h2 i k hk).keep hb⟩
theorem ShC.open {w : World} {cs : List Value} {s : SHP} (h : ShC w cs s) : ∃ v, cs = [.int .i64 s.op, .int .u8 s.lo, .int .u8 s.hi, .string s.text, v] ∧ ShsRow w v s.kids ∧ (-9223372036854775808 ≤ s.op ∧ s.op ≤ 9223372036854775807) ∧ s.lo < 256 ∧ s.hi < 256 ∧ s.text.size ≤ 9223372036854775807 := by
  cases h with
  | mk o l u t ks v cells ho hl hu ht hrow hk => exact ⟨v, rfl, ⟨cells, hrow, hk⟩, ho, hl, hu, ht⟩
/-- One element of a slice. -/
theorem ShsRow.at {w : World} {v : Value} {ks : List SHP} (h : ShsRow w v ks) : ks.length ≤ 9223372036854775807 ∧ ∃ a cap, v = .slice a ks.length cap ∧ ∀ k (hk : k < ks.length), ∃ b off kv, a = some ⟨b, off, none⟩ ∧ b < w.heap.size ∧
    (w.cell? ⟨b, off + k * 5, none⟩ = some (.int .i64 ks[k].op) ∧ w.cell? ⟨b, off + k * 5 + 1, none⟩ = some (.int .u8 ks[k].lo) ∧ w.cell? ⟨b, off + k * 5 + 2, none⟩ = some (.int .u8 ks[k].hi) ∧ w.cell? ⟨b, off + k * 5 + 3, none⟩ = some (.string ks[k].text) ∧ w.cell? ⟨b, off + k * 5 + 4, none⟩ = some kv) ∧
    ShC w [.int .i64 ks[k].op, .int .u8 ks[k].lo, .int .u8 ks[k].hi, .string ks[k].text, kv] ks[k] := by
  obtain ⟨cells, ⟨h0, a, cap, rfl, h1⟩, h2⟩ := h
  refine ⟨h0.1, a, cap, rfl, fun k hk => ?_⟩
  obtain ⟨h3, b, off, e, hlt, hc⟩ := h1 k hk
  have h4 := h2 k _ (List.getElem?_eq_getElem hk)
  obtain ⟨kv, e5, -⟩ := h4.open
  refine ⟨b, off, kv, e, hlt, ⟨?_, ?_, ?_, ?_, ?_⟩, by rw [← e5]; exact h4⟩
  · have := hc 0 _ (by rw [e5]; rfl); simpa using this
  · exact hc 1 _ (by rw [e5]; rfl)
  · exact hc 2 _ (by rw [e5]; rfl)
  · exact hc 3 _ (by rw [e5]; rfl)
  · exact hc 4 _ (by rw [e5]; rfl)

theorem ShsRow.cap {w : World} {v : Value} {ks : List SHP} (h : ShsRow w v ks) : capOk v := by
  obtain ⟨cells, ⟨h0, -⟩, -⟩ := h
  exact h0.2

section
open Go.ChangeShapes Go.WideShapes Go.ChangeAt Go.WideMaps Go.WideElems
theorem cells5 : Tryz.prog.cellsOf 61 = 5 := by kernel_rfl
theorem cellsI : Tryz.prog.cellsOf 3 = 1 := by kernel_rfl
theorem cellsU : Tryz.prog.cellsOf 5 = 1 := by kernel_rfl
theorem cellsT : Tryz.prog.cellsOf 9 = 1 := by kernel_rfl
theorem cellsK : Tryz.prog.cellsOf 59 = 1 := by kernel_rfl
/-- Slices of shapes, where what one element reads as is known. -/
theorem open_shapesF {H : Type} {enc : TypeId × Value → H} {w : World} {base : Nat} {sp : Nat → Bool} {held : Bool} {fuel : Nat} {v : Value} {x : DataW H × List MemPlace}
    (ih : ∀ n, n < fuel → ∀ cs y, DataW.trod enc Tryz.prog w base sp held n 61 cs = some y → ∃ s, ShC w cs s)
    (h : DataW.trod enc Tryz.prog w base sp held fuel 59 [v] = some x) : ∃ ks, ShsRow w v ks := by
  rcases DataW.trod_slice Tryz.underlying59 h with ⟨hcs, -⟩ | ⟨a, len, cap, elems, rest, n, rfl, hcs, -, hb, hl, hm, hlen, hel, -, -⟩
  · simp at hcs
    subst hcs
    exact ⟨[], fun _ => [], ⟨⟨by simp, .mk (by omega)⟩, none, 0, rfl, fun k hk => by simp at hk⟩, fun i k hk => by simp at hk⟩
  · simp at hcs
    subst hcs
    have key : ∀ i, ∃ (cs : List Value) (s : SHP), i < len → w.cells? base (a.add (i * 5)) 5 = some cs ∧ ShC w cs s := fun i => by
      by_cases hi : i < len
      · have h1 := hel i hi
        rw [cells5, List.getElem?_eq_getElem (by omega)] at h1
        obtain ⟨cs, h2, h3⟩ := Option.bind_eq_some_iff.1 h1
        obtain ⟨s, hs⟩ := ih n (by omega) cs _ h3
        exact ⟨cs, s, fun _ => ⟨h2, hs⟩⟩
      · exact ⟨[], .mk 0 0 0 .empty [], fun h => absurd h hi⟩
    obtain ⟨f, hf⟩ : ∃ f : Nat → List Value, ∀ i, ∃ s : SHP, i < len → w.cells? base (a.add (i * 5)) 5 = some (f i) ∧ ShC w (f i) s := ⟨fun i => Classical.choose (key i), fun i => Classical.choose_spec (key i)⟩
    obtain ⟨g, hg⟩ : ∃ g : Nat → SHP, ∀ i, i < len → w.cells? base (a.add (i * 5)) 5 = some (f i) ∧ ShC w (f i) (g i) := ⟨fun i => Classical.choose (hf i), fun i => Classical.choose_spec (hf i)⟩
    refine ⟨(List.range len).map g, f, ⟨⟨by simp; unfold maxLen at hm; omega, .mk hl⟩, some a, cap, by simp, fun k hk => ?_⟩, fun i k hk => ?_⟩
    · have hk' : k < len := by simpa using hk
      obtain ⟨h1, -⟩ := hg k hk'
      obtain ⟨h2, h3, h4⟩ := World.cells?_some h1
      obtain ⟨b, off, spot⟩ := a
      have hspot : spot = none := by
        have h0 := (hg 0 (by omega)).1
        obtain ⟨-, h3', h4'⟩ := World.cells?_some h0
        have q := h4' 0 (by omega)
        rw [List.getElem?_eq_getElem (by omega)] at q
        have := World.cell?_spot q
        simpa [Addr.add] using this
      subst hspot
      have hadd : ∀ j, ((⟨b, off, none⟩ : Addr).add (k * 5)).add j = ⟨b, off + k * 5 + j, none⟩ := fun j => by rw [Go.WideShapes.add_plain, Go.WideShapes.add_plain]
      refine ⟨h3, b, off, rfl, ?_, fun j u hu => ?_⟩
      · have h0 := h4 0 (by omega)
        rw [hadd] at h0
        cases e : w.cell? ⟨b, off + k * 5 + 0, none⟩ with
        | none => rw [e] at h0; rw [List.getElem?_eq_getElem (by omega)] at h0; cases h0
        | some u => exact World.block_lt_of_cell? _ _ e
      · have hj : j < 5 := by have := (List.getElem?_eq_some_iff.1 hu).1; omega
        have h0 := h4 j hj
        rw [hadd, hu] at h0
        exact h0
    · have hi : i < len := by have := (List.getElem?_eq_some_iff.1 hk).1; simpa using this
      rw [List.getElem?_map] at hk
      simp [hi] at hk
      rw [← hk]; exact (hg i hi).2
theorem open_shapeF {H : Type} {enc : TypeId × Value → H} {w : World} {base : Nat} {sp : Nat → Bool} {held : Bool} : ∀ (fuel : Nat) (cs : List Value) (x : DataW H × List MemPlace),
    DataW.trod enc Tryz.prog w base sp held fuel 61 cs = some x → ∃ s, ShC w cs s := by
  intro fuel
  induction fuel using Nat.strongRecOn with
  | _ fuel ih =>
    intro cs x h
    obtain ⟨xs, n, rfl, -, hl, hx, hf⟩ := DataW.trod_struct Tryz.underlying61 h
    rw [cells5] at hl
    have f0 : DataW.trod enc Tryz.prog w base sp held n 3 ((cs.drop 0).take (Tryz.prog.cellsOf 3)) = xs[0]? := hf 0 _ rfl
    have f1 : DataW.trod enc Tryz.prog w base sp held n 5 ((cs.drop 1).take (Tryz.prog.cellsOf 5)) = xs[1]? := hf 1 _ rfl
    have f2 : DataW.trod enc Tryz.prog w base sp held n 5 ((cs.drop 2).take (Tryz.prog.cellsOf 5)) = xs[2]? := hf 2 _ rfl
    have f3 : DataW.trod enc Tryz.prog w base sp held n 9 ((cs.drop 3).take (Tryz.prog.cellsOf 9)) = xs[3]? := hf 3 _ rfl
    have f4 : DataW.trod enc Tryz.prog w base sp held n 59 ((cs.drop 4).take (Tryz.prog.cellsOf 59)) = xs[4]? := hf 4 _ rfl
    rw [cellsI] at f0
    rw [cellsU] at f1 f2
    rw [cellsT] at f3
    rw [cellsK] at f4
    have hx5 : xs.length = 5 := hx
    match cs, hl, xs, hx5 with
    | [c0, c1, c2, c3, c4], _, [y0, y1, y2, y3, y4], _ =>
      simp only [List.drop_zero, List.drop_succ_cons, List.take_succ_cons, List.take_zero, List.getElem?_cons_zero, List.getElem?_cons_succ] at f0 f1 f2 f3 f4
      obtain ⟨o, e0, -, w0⟩ := DataW.trod_int Tryz.underlying3 f0
      obtain ⟨l, e1, -, w1⟩ := DataW.trod_int Tryz.underlying5 f1
      obtain ⟨u, e2, -, w2⟩ := DataW.trod_int Tryz.underlying5 f2
      simp at e0 e1 e2
      subst e0 e1 e2
      obtain ⟨t, e3, ht⟩ : ∃ t : ByteArray, c3 = .string t ∧ t.size ≤ maxLen := by
        cases n with
        | zero => simp [DataW.trod] at f3
        | succ m =>
          unfold DataW.trod at f3
          rw [Tryz.underlying9] at f3
          split at f3 <;> simp_all
      subst e3
      obtain ⟨ks, hks⟩ := open_shapesF (fun m hm => ih m (by omega)) f4
      obtain ⟨cells, hr, hk⟩ := hks
      have b0 := bounds_i64 w0; have b1 := bounds_u8 w1; have b2 := bounds_u8 w2
      obtain ⟨l, rfl⟩ := Int.eq_ofNat_of_zero_le b1.1
      obtain ⟨u, rfl⟩ := Int.eq_ofNat_of_zero_le b2.1
      exact ⟨.mk o l u t ks, .mk o l u t ks c4 cells (by omega) (by omega) (by omega) (by unfold maxLen at ht; omega) hr hk⟩
end
end Go.Proofs.YtdbdjjjmomociaaGreatDoor
/- Bytes of texts: IndexByte, plain, letter, scan. -/
namespace Go.Proofs.YtdbdjjjmomociaaGreatDoor
set_option maxRecDepth 100000
set_option linter.unusedSimpArgs false
set_option linter.unusedVariables false
open Go.RowKit

theorem bN_len (t : ByteArray) : (bytesN t).length = t.size := by unfold bytesN; rw [List.length_map]; rfl
theorem bN_lt (t : ByteArray) : ∀ x ∈ bytesN t, x < 256 := fun x hx => by
  obtain ⟨u, -, rfl⟩ := List.mem_map.1 hx
  exact u.toNat_lt
theorem bN_drop (t : ByteArray) (i : Nat) : bytesN (t.extract i t.size) = (bytesN t).drop i := by
  unfold bytesN
  rw [ByteArray.data_extract, Array.toList_extract, ← List.map_drop]
  congr 1
  show (t.data.toList.drop i).take (t.size - i) = _
  exact List.take_of_length_le (by rw [List.length_drop, Array.length_toList]; exact Nat.le_refl _)
theorem bN_get (t : ByteArray) (i : Nat) (h : i < t.size) : (bytesN t)[i]? = some (t[i]).toNat := by
  unfold bytesN
  rw [List.getElem?_map]
  have : t.data.toList[i]? = some t[i] := by
    rw [Array.getElem?_toList, Array.getElem?_eq_getElem h]; rfl
  rw [this]; rfl
theorem bN_at (t : ByteArray) (i c : Nat) (hc : (bytesN t)[i]? = some c) : ∃ h : i < t.size, (t[i]).toNat = c := by
  have h : i < t.size := by
    rw [← bN_len]
    exact (List.getElem?_eq_some_iff.1 hc).1
  refine ⟨h, ?_⟩
  rw [bN_get t i h] at hc
  injection hc
theorem x_strIdx (ρ : Operand → Value) (d : Option Tmp) (x y : Operand) (ty : TypeId) (pos : String) (af : Array Edge) (g : Option (Nat × Bool)) (t : ByteArray) (i c : Nat) (hc : (bytesN t)[i]? = some c) (hx : ρ x = .string t) (hy : ρ y = .int .i64 i) (w : World) :
    (execOp ρ { dst := d, op := .index 9 x y, type := ty, pos := pos, after := af, guard := g }).run Tryz.prog w = .ok (.value (.int .u8 c)) w := by
  obtain ⟨h, e⟩ := bN_at t i c hc
  simp [go_sem, hx, hy, h, ← e]

/-- The first place of a byte; -1: there is none. -/
def idxI (l : List Nat) (c : Nat) : Int := if l.contains c then (l.idxOf c : Int) else -1
theorem idx_eq (c : Nat) (hc : c < 256) : ∀ l : List UInt8, Lib.indexByte l c.toUInt8 = idxI (l.map UInt8.toNat) c
  | [] => rfl
  | b :: l => by
    have ih := idx_eq c hc l
    have hb : (b == c.toUInt8) = (b.toNat == c) := by
      rw [Bool.eq_iff_iff, beq_iff_eq, beq_iff_eq, ← UInt8.toNat_inj]
      have : (c.toUInt8).toNat = c := by simp [Nat.toUInt8]; omega
      rw [this]
    unfold Lib.indexByte
    rw [ih, hb]
    unfold idxI
    rw [List.map_cons, List.contains_cons, List.idxOf_cons]
    by_cases h : b.toNat = c
    · simp [h]
    · have h1 : (b.toNat == c) = false := by simpa using h
      have h2 : (c == b.toNat) = false := by simpa using fun e => h e.symm
      rw [h1, h2]
      cases hm : (l.map UInt8.toNat).contains c with
      | false => simp [hm]
      | true =>
        simp only [Bool.false_eq_true, if_false, Bool.or_true, if_true, cond_false]
        have : ((((l.map UInt8.toNat).idxOf c : Nat) : Int) == -1) = false := beq_eq_false_iff_ne.2 (by omega)
        rw [this]
        simp
theorem indexByte_any (t : ByteArray) (c : Nat) (hc : c < 256) (w : World) :
    Calls Tryz.prog 73 #[.string t, .int .u8 c] w fun e w' => e = .returned (.int .i64 (idxI (bytesN t) c)) ∧ w' = w := by
  have hx : (Extern.BytealgIndexByte.indexByte #[.string t, .int .u8 (c : Int)]).run Tryz.prog w = .ok (.int .i64 (idxI (bytesN t) c)) w := by
    rw [Lib.run_indexByteString]
    have e := idx_eq c hc t.data.toList
    rw [Int.toNat_natCast, e]; rfl
  have h1 : Calls Tryz.prog 99 #[.string t, .int .u8 c] w fun e w' => e = .returned (.int .i64 (idxI (bytesN t) c)) ∧ w' = w := by
    go_enter Tryz.func99, Tryz.ntmps99
    go_wp2
    rw [run_callFunc_extern Tryz.func124 (by kernel_rfl) (by kernel_rfl) (by kernel_rfl) (e := Extern.BytealgIndexByte.indexByte) (by kernel_rfl), hx]
    simp only [Result.andThen]
    rw [Oper.upon_value]
    go_wp2
    go_ret
    exact ⟨rfl, rfl⟩
  have H1 := hide h1
  clear h1 hx
  go_enter Tryz.func73, Tryz.ntmps73
  go_wp2_with fail
  refine H1.out.mono ?_
  rintro e w1 ⟨rfl, rfl⟩
  go_wp2
  go_ret
  exact ⟨rfl, rfl⟩
theorem idxI_neg (l : List Nat) (c : Nat) : decide (idxI l c < 0) = !l.contains c := by
  unfold idxI
  cases h : l.contains c <;> simp
theorem idxI_pos (l : List Nat) (c : Nat) : decide (0 ≤ idxI l c) = l.contains c := by
  unfold idxI
  cases h : l.contains c <;> simp

theorem plain_any (c : Nat) (w : World) : Calls Tryz.prog 145 #[.int .u8 c] w fun e w' => e = .returned (.bool (plainB c)) ∧ w' = w := by
  go_enter Tryz.func145, Tryz.ntmps145
  by_cases h1 : 32 ≤ c
  · have d1 : decide (32 ≤ c) = true := by simp [h1]
    have d2 : decide ((32 : Int) ≤ c) = true := by simp; omega
    have HR : Hid (plainB c = decide (c ≤ 126)) := by show _ = _; unfold plainB; rw [d1]; rfl
    by_cases h2 : c ≤ 126
    · have d3 : decide (c ≤ 126) = true := by simp [h2]
      have d4 : decide ((c : Int) ≤ 126) = true := by simp; omega
      go_wp2
      go_ret
      refine ⟨?_, rfl⟩
      rw [HR.out, d3]; rfl
    · have d3 : decide (c ≤ 126) = false := by simp; omega
      have d4 : decide ((c : Int) ≤ 126) = false := by simp; omega
      go_wp2
      go_ret
      refine ⟨?_, rfl⟩
      rw [HR.out, d3]; rfl
  · have d1 : decide (32 ≤ c) = false := by simp; omega
    have d2 : decide ((32 : Int) ≤ c) = false := by simp; omega
    have HR : Hid (plainB c = false) := by show _ = _; unfold plainB; rw [d1]; rfl
    go_wp2
    go_ret
    refine ⟨?_, rfl⟩
    rw [HR.out]; rfl
theorem letter_any (c : Nat) (w : World) : Calls Tryz.prog 159 #[.int .u8 c] w fun e w' => e = .returned (.bool (letterB c)) ∧ w' = w := by
  go_enter Tryz.func159, Tryz.ntmps159
  go_wp2
  all_goals
    go_ret
    refine ⟨congrArg (fun b => Ending.returned (Value.bool b)) (?_ : _ = letterB c), rfl⟩
    unfold letterB
    rw [Bool.eq_iff_iff]
    simp only [Bool.or_eq_true, Bool.and_eq_true, decide_eq_true_eq, Bool.false_eq_true, eq_self, true_iff, false_iff]
    omega
end Go.Proofs.YtdbdjjjmomociaaGreatDoor
/- scan: the byte that is written at a text's beginning. -/
namespace Go.Proofs.YtdbdjjjmomociaaGreatDoor
set_option maxRecDepth 100000
set_option linter.unusedSimpArgs false
set_option linter.unusedVariables false
open Go.RowKit

theorem bits_or_hexF : ∀ x y : Fin 16, bits .or .i64 ((x.val : Int) * 16) (y.val : Int) % 256 = 16 * (x.val : Int) + (y.val : Int) := by decide +kernel
theorem bits_or_hex (x y : Nat) (hx : x < 16) (hy : y < 16) : bits .or .i64 ((x : Int) * 16) (y : Int) % 256 = 16 * (x : Int) + (y : Int) := bits_or_hexF ⟨x, hx⟩ ⟨y, hy⟩

def scanD (l : List Nat) : Nat × Nat := match l with
  | _ :: _ :: c :: d :: _ => if digitsL.contains c && digitsL.contains d then (16 * digitsL.idxOf c + digitsL.idxOf d, 4) else (0, 0)
  | _ => (0, 0)
theorem scan_none {l : List Nat} (h : l.length < 4) : scanD l = (0, 0) := by
  match l, h with
  | [], _ => rfl
  | [_], _ => rfl
  | [_, _], _ => rfl
  | [_, _, _], _ => rfl

set_option maxHeartbeats 1000000 in
theorem scanDigits_any (t : ByteArray) (w : World) (ht : t.size ≤ 1000000) : Calls Tryz.prog 158 #[.string t] w fun e w' => e = .returned (.tuple #[.int .u8 (scanD (bytesN t)).1, .int .i64 (scanD (bytesN t)).2]) ∧ Below w.heap.size w w' := by
  by_cases h4 : t.size < 4
  · have d1 : decide ((t.size : Int) < 4) = true := by simp; omega
    have d2 : decide (t.size < 4) = true := by simp [h4]
    rw [scan_none (by rw [bN_len]; exact h4)]
    go_enter Tryz.func158, Tryz.ntmps158
    go_wp2
    exact bodyPost_ret (by simp [results, Tryz.results158, go_sem]) rfl ⟨rfl, Below.refl _ _⟩
  · have d1 : decide ((t.size : Int) < 4) = false := by simp; omega
    have d2 : decide (t.size < 4) = false := by simp; omega
    obtain ⟨a, b, c, d, r, hl⟩ : ∃ a b c d r, bytesN t = a :: b :: c :: d :: r := by
      have hlen := bN_len t
      match hb : bytesN t with
      | [] => rw [hb] at hlen; simp at hlen; omega
      | [_] => rw [hb] at hlen; simp at hlen; omega
      | [_, _] => rw [hb] at hlen; simp at hlen; omega
      | [_, _, _] => rw [hb] at hlen; simp at hlen; omega
      | a :: b :: c :: d :: r => exact ⟨a, b, c, d, r, rfl⟩
    have hc : c < 256 := bN_lt t c (by rw [hl]; simp)
    have hd : d < 256 := bN_lt t d (by rw [hl]; simp)
    have H2 : Hid ((bytesN t)[2]? = some c) := by rw [hl]; rfl
    have H3 : Hid ((bytesN t)[3]? = some d) := by rw [hl]; rfl
    have e0 : bytesN ⟨#[48, 49, 50, 51, 52, 53, 54, 55, 56, 57, 97, 98, 99, 100, 101, 102]⟩ = digitsL := by decide +kernel
    obtain ⟨x, hx⟩ : ∃ x, x = idxI digitsL c := ⟨_, rfl⟩
    obtain ⟨y, hy⟩ : ∃ y, y = idxI digitsL d := ⟨_, rfl⟩
    have HQC : Hid (∀ W, Below w.heap.size w W → Calls Tryz.prog 73 #[.string ⟨#[48, 49, 50, 51, 52, 53, 54, 55, 56, 57, 97, 98, 99, 100, 101, 102]⟩, .int .u8 c] W fun e w' => e = .returned (.int .i64 x) ∧ Below W.heap.size W w') := fun W _ => by
      rw [hx, ← e0]; exact (indexByte_any _ c hc W).mono fun e w' ⟨h1, h2⟩ => ⟨h1, h2 ▸ Below.refl _ _⟩
    have HQD : Hid (∀ W, Below w.heap.size w W → Calls Tryz.prog 73 #[.string ⟨#[48, 49, 50, 51, 52, 53, 54, 55, 56, 57, 97, 98, 99, 100, 101, 102]⟩, .int .u8 d] W fun e w' => e = .returned (.int .i64 y) ∧ Below W.heap.size W w') := fun W _ => by
      rw [hy, ← e0]; exact (indexByte_any _ d hd W).mono fun e w' ⟨h1, h2⟩ => ⟨h1, h2 ▸ Below.refl _ _⟩
    have HS : Hid (scanD (bytesN t) = if digitsL.contains c && digitsL.contains d then (16 * digitsL.idxOf c + digitsL.idxOf d, 4) else (0, 0)) := by rw [hl]; rfl
    have HX := hide hx
    have HY := hide hy
    obtain ⟨u, hu⟩ : ∃ u, u = (scanD (bytesN t)).1 := ⟨_, rfl⟩
    obtain ⟨m, hm⟩ : ∃ m, m = (scanD (bytesN t)).2 := ⟨_, rfl⟩
    rw [← hu, ← hm]
    have HU := hide hu
    have HM := hide hm
    rw [HS.out] at HU HM
    clear hl e0 hx hy hu hm HS
    go_enter Tryz.func158, Tryz.ntmps158
    go_wp2
    have hG : Grows fun W => Below w.heap.size w W := fun W W' h1 h2 => h1.trans (h2.mono h1.size)
    have hqc := HQC.out
    have hqd := HQD.out
    have h2 := H2.out
    have h3 := H3.out
    refine w_lit (C := fun W => Below w.heap.size w W) (by kernel_rfl) (by kernel_rfl) ⟨rfl, rfl, rfl, Nat.le_refl _, fun _ _ => rfl⟩ ?_
    refine w_value (.string t) (by kernel_rfl) (fun w hw => x_move _ _ _ _ _ _ _ _ rfl w) ?_
    simp only [Act.put, List.setIfInBounds_toArray, List.set_cons_succ, List.set_cons_zero]
    refine w_value (.int .u8 c) (by kernel_rfl) (fun w hw => x_strIdx _ _ _ _ _ _ _ _ t 2 c h2 rfl rfl w) ?_
    simp only [Act.put, List.setIfInBounds_toArray, List.set_cons_succ, List.set_cons_zero]
    refine w_call hG 73 #[.string ⟨#[48, 49, 50, 51, 52, 53, 54, 55, 56, 57, 97, 98, 99, 100, 101, 102]⟩, .int .u8 c] (.int .i64 x) (by kernel_rfl) (fun w => x_call2 _ _ _ _ _ _ _ _ _ _ _ _ _ rfl rfl rfl (enters_of Tryz.func73 (by kernel_rfl) rfl) w) (fun w hw => hqc w hw) ?_
    simp only [Act.put, List.setIfInBounds_toArray, List.set_cons_succ, List.set_cons_zero]
    refine w_value (.string t) (by kernel_rfl) (fun w hw => x_move _ _ _ _ _ _ _ _ rfl w) ?_
    simp only [Act.put, List.setIfInBounds_toArray, List.set_cons_succ, List.set_cons_zero]
    refine w_value (.int .u8 d) (by kernel_rfl) (fun w hw => x_strIdx _ _ _ _ _ _ _ _ t 3 d h3 rfl rfl w) ?_
    simp only [Act.put, List.setIfInBounds_toArray, List.set_cons_succ, List.set_cons_zero]
    refine w_call hG 73 #[.string ⟨#[48, 49, 50, 51, 52, 53, 54, 55, 56, 57, 97, 98, 99, 100, 101, 102]⟩, .int .u8 d] (.int .i64 y) (by kernel_rfl) (fun w => x_call2 _ _ _ _ _ _ _ _ _ _ _ _ _ rfl rfl rfl (enters_of Tryz.func73 (by kernel_rfl) rfl) w) (fun w hw => hqd w hw) ?_
    simp only [Act.put, List.setIfInBounds_toArray, List.set_cons_succ, List.set_cons_zero]
    refine w_value (.int .i64 x) (by kernel_rfl) (fun w hw => x_assign _ _ _ _ _ _ _ _ rfl w) ?_
    simp only [Act.put, List.setIfInBounds_toArray, List.set_cons_succ, List.set_cons_zero]
    refine w_value (.int .i64 y) (by kernel_rfl) (fun w hw => x_assign _ _ _ _ _ _ _ _ rfl w) ?_
    simp only [Act.put, List.setIfInBounds_toArray, List.set_cons_succ, List.set_cons_zero]
    refine w_nil ?_
    intro W hW
    have HBX := hide hW
    clear hW hG hqc hqd h2 h3 HQC HQD
    have len16 : ∀ z, digitsL.contains z = true → digitsL.idxOf z < 16 := fun z hz => by
      have := List.idxOf_lt_length_of_mem (List.contains_iff_mem.1 hz)
      exact this
    cases k1 : digitsL.contains c with
    | false =>
      have ex : x = -1 := by rw [HX.out]; unfold idxI; rw [k1]; rfl
      clear HX
      subst ex
      have HU : Hid (u = 0) := by show _ = _; rw [HU.out, k1]; rfl
      have HM : Hid (m = 0) := by show _ = _; rw [HM.out, k1]; rfl
      clear k1 len16
      go_wp2
      refine bodyPost_ret (v := .tuple #[.int .u8 (0 : Nat), .int .i64 (0 : Nat)]) (by simp [results, Tryz.results158, go_sem]) rfl ⟨?_, HBX.out⟩
      rw [HU.out, HM.out]
    | true =>
      obtain ⟨x', hx'⟩ : ∃ x', x' = digitsL.idxOf c := ⟨_, rfl⟩
      have hx16 : x' < 16 := by rw [hx']; exact len16 c k1
      have ex : x = (x' : Int) := by rw [HX.out, hx']; unfold idxI; rw [k1]; rfl
      clear HX
      subst ex
      have dx : decide ((x' : Int) < 0) = false := by simp
      cases k2 : digitsL.contains d with
      | false =>
        have ey : y = -1 := by rw [HY.out]; unfold idxI; rw [k2]; rfl
        clear HY
        subst ey
        have HU : Hid (u = 0) := by show _ = _; rw [HU.out, k1, k2]; rfl
        have HM : Hid (m = 0) := by show _ = _; rw [HM.out, k1, k2]; rfl
        clear k1 k2 len16 hx'
        go_wp2
        refine bodyPost_ret (v := .tuple #[.int .u8 (0 : Nat), .int .i64 (0 : Nat)]) (by simp [results, Tryz.results158, go_sem]) rfl ⟨?_, HBX.out⟩
        rw [HU.out, HM.out]
      | true =>
        obtain ⟨y', hy'⟩ : ∃ y', y' = digitsL.idxOf d := ⟨_, rfl⟩
        have hy16 : y' < 16 := by rw [hy']; exact len16 d k2
        have ey : y = (y' : Int) := by rw [HY.out, hy']; unfold idxI; rw [k2]; rfl
        clear HY
        subst ey
        have dy : decide ((y' : Int) < 0) = false := by simp
        have hbits := bits_or_hex x' y' hx16 hy16
        have HU : Hid (u = 16 * x' + y') := by show _ = _; rw [HU.out, k1, k2, hx', hy']; rfl
        have HM : Hid (m = 4) := by show _ = _; rw [HM.out, k1, k2]; rfl
        clear hx' hy' len16 H2 H3 k1 k2
        go_wp2
        refine bodyPost_ret (v := .tuple #[.int .u8 ((16 * x' + y' : Nat) : Int), .int .i64 (4 : Nat)]) (by simp [results, Tryz.results158, go_sem, hbits]) rfl ⟨?_, HBX.out⟩
        rw [HU.out, HM.out]

def scanM (l : List Nat) : Nat × Nat := match l with
  | _ :: b :: _ => if b = 110 then (10, 2) else if b = 116 then (9, 2) else if b = 120 then scanD l else if !plainB b || letterB b then (0, 0) else (b, 2)
  | _ => (0, 0)
theorem scan_marked (r : List Nat) : scanN (92 :: r) = scanM (92 :: r) := by
  match r with
  | [] => rfl
  | [b] => rfl
  | [b, c] => rfl
  | b :: c :: d :: _ => rfl
theorem tup_scan (a : Act) (fn : Func) : True := trivial
set_option maxHeartbeats 1000000 in
theorem scanMarked_any (t : ByteArray) (w : World) (ht : t.size ≤ 1000000) : Calls Tryz.prog 157 #[.string t] w fun e w' => e = .returned (.tuple #[.int .u8 (scanM (bytesN t)).1, .int .i64 (scanM (bytesN t)).2]) ∧ Below w.heap.size w w' := by
  obtain ⟨u, hu⟩ : ∃ u, u = (scanM (bytesN t)).1 := ⟨_, rfl⟩
  obtain ⟨m, hm⟩ : ∃ m, m = (scanM (bytesN t)).2 := ⟨_, rfl⟩
  rw [← hu, ← hm]
  have HU := hide hu
  have HM := hide hm
  clear hu hm
  by_cases h2 : t.size < 2
  · have d1 : decide ((t.size : Int) < 2) = true := by simp; omega
    have d2 : decide (t.size < 2) = true := by simp [h2]
    have HS : Hid (scanM (bytesN t) = (0, 0)) := by
      have hlen := bN_len t
      show _ = _
      match hb : bytesN t with
      | [] => rfl
      | [_] => rfl
      | _ :: _ :: _ => rw [hb] at hlen; simp at hlen; omega
    go_enter Tryz.func157, Tryz.ntmps157
    go_wp2
    refine bodyPost_ret (v := .tuple #[.int .u8 (0 : Nat), .int .i64 (0 : Nat)]) (by simp [results, Tryz.results157, go_sem]) rfl ⟨?_, Below.refl _ _⟩
    rw [HU.out, HM.out, HS.out]
  · have d1 : decide ((t.size : Int) < 2) = false := by simp; omega
    have d2 : decide (t.size < 2) = false := by simp; omega
    obtain ⟨a, b, r, hl⟩ : ∃ a b r, bytesN t = a :: b :: r := by
      have hlen := bN_len t
      match hb : bytesN t with
      | [] => rw [hb] at hlen; simp at hlen; omega
      | [_] => rw [hb] at hlen; simp at hlen; omega
      | a :: b :: r => exact ⟨a, b, r, rfl⟩
    have hb : b < 256 := bN_lt t b (by rw [hl]; simp)
    have HS : Hid (scanM (bytesN t) = if b = 110 then (10, 2) else if b = 116 then (9, 2) else if b = 120 then scanD (bytesN t) else if !plainB b || letterB b then (0, 0) else (b, 2)) := by rw [hl]; rfl
    obtain ⟨h1, e1⟩ := bN_at t 1 b (by rw [hl]; rfl)
    have HPL := hide (plain_any b w)
    have HLE := hide (letter_any b w)
    have HSD := hide (scanDigits_any t w ht)
    clear hl
    go_enter Tryz.func157, Tryz.ntmps157
    by_cases c1 : b = 110
    · have k1 : ((b : Int) == 110) = true := by simp; omega
      have HV : Hid (scanM (bytesN t) = (10, 2)) := by show _ = _; rw [HS.out, if_pos c1]
      clear c1 HPL HLE HSD HS
      go_wp2
      refine bodyPost_ret (v := .tuple #[.int .u8 (10 : Nat), .int .i64 (2 : Nat)]) (by simp [results, Tryz.results157, go_sem]) rfl ⟨?_, Below.refl _ _⟩
      rw [HU.out, HM.out, HV.out]
    have k1 : ((b : Int) == 110) = false := beq_eq_false_iff_ne.2 (by omega)
    by_cases c2 : b = 116
    · have k2 : ((b : Int) == 116) = true := by simp; omega
      have HV : Hid (scanM (bytesN t) = (9, 2)) := by show _ = _; rw [HS.out, if_neg c1, if_pos c2]
      clear c1 c2 HPL HLE HSD HS
      go_wp2
      refine bodyPost_ret (v := .tuple #[.int .u8 (9 : Nat), .int .i64 (2 : Nat)]) (by simp [results, Tryz.results157, go_sem]) rfl ⟨?_, Below.refl _ _⟩
      rw [HU.out, HM.out, HV.out]
    have k2 : ((b : Int) == 116) = false := beq_eq_false_iff_ne.2 (by omega)
    by_cases c3 : b = 120
    · have k3 : ((b : Int) == 120) = true := by simp; omega
      have HV : Hid (scanM (bytesN t) = scanD (bytesN t)) := by show _ = _; rw [HS.out, if_neg c1, if_neg c2, if_pos c3]
      obtain ⟨p, hp⟩ : ∃ p, p = (scanD (bytesN t)).1 := ⟨_, rfl⟩
      obtain ⟨q, hq⟩ : ∃ q, q = (scanD (bytesN t)).2 := ⟨_, rfl⟩
      rw [← hp, ← hq] at HSD
      have HP := hide hp
      have HQ := hide hq
      clear c1 c2 c3 HPL HLE HS hp hq
      go_wp2_with fail
      refine HSD.out.mono ?_
      rintro e w1 ⟨rfl, hb1⟩
      have HB1 := hide hb1
      clear hb1 HSD
      go_wp2
      refine bodyPost_ret (v := .tuple #[.int .u8 p, .int .i64 q]) (by simp [results, Tryz.results157, go_sem]) rfl ⟨?_, HB1.out⟩
      rw [HU.out, HM.out, HV.out, HP.out, HQ.out]
    have k3 : ((b : Int) == 120) = false := beq_eq_false_iff_ne.2 (by omega)
    have HV : Hid (scanM (bytesN t) = if !plainB b || letterB b then (0, 0) else (b, 2)) := by show _ = _; rw [HS.out, if_neg c1, if_neg c2, if_neg c3]
    obtain ⟨p, hp⟩ : ∃ p, p = plainB b := ⟨_, rfl⟩
    obtain ⟨q, hq⟩ : ∃ q, q = letterB b := ⟨_, rfl⟩
    rw [← hp] at HPL
    rw [← hq] at HLE
    rw [← hp, ← hq] at HV
    clear c1 c2 c3 HS hp hq HSD
    go_wp2_with fail
    refine HPL.out.mono ?_
    rintro e w1 ⟨rfl, rfl⟩
    cases p
    · go_wp2
      refine bodyPost_ret (v := .tuple #[.int .u8 (0 : Nat), .int .i64 (0 : Nat)]) (by simp [results, Tryz.results157, go_sem]) rfl ⟨?_, Below.refl _ _⟩
      rw [HU.out, HM.out, HV.out]; rfl
    · go_wp2_with fail
      refine HLE.out.mono ?_
      rintro e w1 ⟨rfl, rfl⟩
      cases q
      · go_wp2
        refine bodyPost_ret (v := .tuple #[.int .u8 b, .int .i64 (2 : Nat)]) (by simp [results, Tryz.results157, go_sem]) rfl ⟨?_, Below.refl _ _⟩
        rw [HU.out, HM.out, HV.out]; rfl
      · go_wp2
        refine bodyPost_ret (v := .tuple #[.int .u8 (0 : Nat), .int .i64 (0 : Nat)]) (by simp [results, Tryz.results157, go_sem]) rfl ⟨?_, Below.refl _ _⟩
        rw [HU.out, HM.out, HV.out]; rfl
set_option maxHeartbeats 1000000 in
theorem scan_any (t : ByteArray) (w : World) (ht : t.size ≤ 1000000) : Calls Tryz.prog 156 #[.string t] w fun e w' => e = .returned (.tuple #[.int .u8 (scanN (bytesN t)).1, .int .i64 (scanN (bytesN t)).2]) ∧ Below w.heap.size w w' := by
  obtain ⟨u, hu⟩ : ∃ u, u = (scanN (bytesN t)).1 := ⟨_, rfl⟩
  obtain ⟨m, hm⟩ : ∃ m, m = (scanN (bytesN t)).2 := ⟨_, rfl⟩
  rw [← hu, ← hm]
  have HU := hide hu
  have HM := hide hm
  clear hu hm
  have etl : ∀ b : Bool, t.data.toList.isEmpty = b → t.toList.isEmpty = b := fun b h => by rw [ByteArray.toList_eq]; exact h
  match hl : bytesN t with
  | [] =>
    have hemp : t.toList.isEmpty = true := etl true (by
      cases h : t.data.toList with
      | nil => rfl
      | cons x l => unfold bytesN at hl; rw [h] at hl; simp at hl)
    have HV : Hid (scanN (bytesN t) = (0, 0)) := by rw [hl]; rfl
    clear hl etl
    go_enter Tryz.func156, Tryz.ntmps156
    go_wp2
    refine bodyPost_ret (v := .tuple #[.int .u8 (0 : Nat), .int .i64 (0 : Nat)]) (by simp [results, Tryz.results156, go_sem]) rfl ⟨?_, Below.refl _ _⟩
    rw [HU.out, HM.out, HV.out]
  | a :: r =>
    have hemp : t.toList.isEmpty = false := etl false (by
      cases h : t.data.toList with
      | nil => unfold bytesN at hl; rw [h] at hl; simp at hl
      | cons x l => rfl)
    have ha : a < 256 := bN_lt t a (by rw [hl]; simp)
    obtain ⟨h0, e0⟩ := bN_at t 0 a (by rw [hl]; rfl)
    have HPL := hide (plain_any a w)
    have esg : bytesN ⟨#[32, 40, 41, 91, 93, 124, 38, 45, 42, 43, 63, 46, 92]⟩ = signsL := by decide +kernel
    have hix := indexByte_any ⟨#[32, 40, 41, 91, 93, 124, 38, 45, 42, 43, 63, 46, 92]⟩ a ha w
    rw [esg] at hix
    have HSM := hide (scanMarked_any t w ht)
    by_cases c1 : a = 92
    · have k1 : ((a : Int) == 92) = true := by simp; omega
      have HV : Hid (scanN (bytesN t) = scanM (bytesN t)) := by rw [hl, c1]; exact scan_marked r
      obtain ⟨p, hp⟩ : ∃ p, p = (scanM (bytesN t)).1 := ⟨_, rfl⟩
      obtain ⟨q, hq⟩ : ∃ q, q = (scanM (bytesN t)).2 := ⟨_, rfl⟩
      rw [← hp, ← hq] at HSM
      have HP := hide hp
      have HQ := hide hq
      clear c1 HPL hix hl etl hp hq esg
      go_enter Tryz.func156, Tryz.ntmps156
      go_wp2_with fail
      refine HSM.out.mono ?_
      rintro e w1 ⟨rfl, hb1⟩
      have HB1 := hide hb1
      clear hb1 HSM
      go_wp2
      refine bodyPost_ret (v := .tuple #[.int .u8 p, .int .i64 q]) (by simp [results, Tryz.results156, go_sem]) rfl ⟨?_, HB1.out⟩
      rw [HU.out, HM.out, HV.out, HP.out, HQ.out]
    · have k1 : ((a : Int) == 92) = false := beq_eq_false_iff_ne.2 (by omega)
      have HV : Hid (scanN (bytesN t) = if !plainB a || signsL.contains a then (0, 0) else (a, 1)) := by
        rw [hl]
        show (if a = 92 then _ else _) = _
        rw [if_neg c1]
      obtain ⟨p, hp⟩ : ∃ p, p = plainB a := ⟨_, rfl⟩
      obtain ⟨q, hq⟩ : ∃ q, q = signsL.contains a := ⟨_, rfl⟩
      obtain ⟨z, hz⟩ : ∃ z, z = idxI signsL a := ⟨_, rfl⟩
      have hzq : decide (0 ≤ z) = q := by rw [hz, hq]; exact idxI_pos _ _
      rw [← hz] at hix
      rw [← hp] at HPL
      rw [← hp, ← hq] at HV
      have HIX := hide hix
      clear c1 hl etl hp hq HSM hix hz esg
      go_enter Tryz.func156, Tryz.ntmps156
      go_wp2_with fail
      refine HPL.out.mono ?_
      rintro e w1 ⟨rfl, rfl⟩
      cases p
      · go_wp2
        refine bodyPost_ret (v := .tuple #[.int .u8 (0 : Nat), .int .i64 (0 : Nat)]) (by simp [results, Tryz.results156, go_sem]) rfl ⟨?_, Below.refl _ _⟩
        rw [HU.out, HM.out, HV.out]; rfl
      · go_wp2_with fail
        refine HIX.out.mono ?_
        rintro e w1 ⟨rfl, rfl⟩
        cases q
        · go_wp2
          refine bodyPost_ret (v := .tuple #[.int .u8 a, .int .i64 (1 : Nat)]) (by simp [results, Tryz.results156, go_sem]) rfl ⟨?_, Below.refl _ _⟩
          rw [HU.out, HM.out, HV.out]; rfl
        · go_wp2
          refine bodyPost_ret (v := .tuple #[.int .u8 (0 : Nat), .int .i64 (0 : Nat)]) (by simp [results, Tryz.results156, go_sem]) rfl ⟨?_, Below.refl _ _⟩
          rw [HU.out, HM.out, HV.out]; rfl
end Go.Proofs.YtdbdjjjmomociaaGreatDoor
/- Writing: rows of bytes that grow; appendByte. -/
namespace Go.Proofs.YtdbdjjjmomociaaGreatDoor
set_option maxRecDepth 100000
set_option linter.unusedSimpArgs false
set_option linter.unusedVariables false
open Go.RowKit Go.Shelf

def othersL : List Nat := [94, 47, 34, 35]
/-- A byte as it is written. -/
def byteW (b : Nat) : List Nat :=
  if b = 10 then [92, 110] else if b = 9 then [92, 116] else if plainB b = false then [92, 120, digitsL.getD (b / 16) 0, digitsL.getD (b % 16) 0] else if (signsL ++ othersL).contains b then [92, b] else [b]

/-- From (w, v) to (w', v'): nothing old turned but v's own row. -/
structure GB (w w' : World) (v v' : Value) : Prop where
  grown : w.grownBy w' v.ownBlock
  own : v'.ownBlock = v.ownBlock ∨ ∃ g, v'.ownBlock = some g ∧ w.heap.size ≤ g
  drawn : w.drawn ≤ w'.drawn
theorem GB.refl (w : World) (v : Value) : GB w w v v := ⟨⟨rfl, rfl, rfl, Nat.le_refl _, fun _ _ _ => rfl⟩, .inl rfl, Nat.le_refl _⟩
theorem GB.trans {w w1 w2 : World} {v v1 v2 : Value} (h : GB w w1 v v1) (k : GB w1 w2 v1 v2) : GB w w2 v v2 := by
  refine ⟨⟨k.grown.os.trans h.grown.os, k.grown.tape.trans h.grown.tape, k.grown.output.trans h.grown.output, Nat.le_trans h.grown.size k.grown.size, fun i hi hn => ?_⟩, ?_, Nat.le_trans h.drawn k.drawn⟩
  · have hs := h.grown.size
    rw [k.grown.block i (by omega) ?_, h.grown.block i hi hn]
    intro e
    rcases h.own with h1 | ⟨g, h1, h2⟩
    · exact hn (e.trans h1)
    · rw [h1] at e; injection e; omega
  · have hs := h.grown.size
    rcases k.own with h1 | ⟨g, h1, h2⟩
    · rcases h.own with h3 | ⟨g, h3, h4⟩
      · exact .inl (h1.trans h3)
      · exact .inr ⟨g, h1.trans h3, h4⟩
    · exact .inr ⟨g, h1, by omega⟩
/-- What was written since (w, v): l. -/
structure AW (w : World) (base : Nat) (v : Value) (n : Nat) (xs : List Value) (l : List Nat) (V : Value) (W : World) : Prop where
  own : OwnU W base V (n + l.length) (xs ++ byteV l)
  gb : GB w W v V
  base : base ≤ W.heap.size
theorem AW.start {w : World} {base n : Nat} {v : Value} {xs : List Value} (h : OwnU w base v n xs) (hb : base ≤ w.heap.size) : AW w base v n xs [] v w := ⟨by simpa [byteV] using h, GB.refl _ _, hb⟩
theorem AW.step {w W W' : World} {base n : Nat} {v V : Value} {xs : List Value} {l : List Nat} (h : AW w base v n xs l V W) (hb : Below W.heap.size W W') (hd : W.drawn ≤ W'.drawn) : AW w base v n xs l V W' :=
  ⟨h.own.keep fun g hg => hb.block g (h.own.own_lt hg).2, h.gb.trans ⟨⟨hb.os, hb.tape, hb.output, hb.size, fun k hk _ => hb.block k hk⟩, .inl rfl, hd⟩, Nat.le_trans h.base hb.size⟩
theorem AW.slice {w W : World} {base n : Nat} {v V : Value} {xs : List Value} {l : List Nat} (h : AW w base v n xs l V W) : ∃ a c, V = .slice a (n + l.length) c := h.own.slice
/-- What another call wrote behind it. -/
theorem AW.more {w W W' : World} {base n : Nat} {v V V' : Value} {xs : List Value} {l m : List Nat} (h : AW w base v n xs l V W) (k : AW W base V (n + l.length) (xs ++ byteV l) m V' W') : AW w base v n xs (l ++ m) V' W' := by
  refine ⟨?_, h.gb.trans k.gb, k.base⟩
  have := k.own
  rw [byteV_append, List.length_append, ← List.append_assoc, ← Nat.add_assoc]
  exact this
theorem AW.app {w W : World} {base n : Nat} {v V : Value} {xs : List Value} {l : List Nat} (h : AW w base v n xs l V W) (ty : TypeId) (g : Nat) (c : Array Value) (m : List Nat) (hg : Blk W g (byteV m).toArray 5) (hm : 0 < m.length) (hl : n + l.length + m.length ≤ 140737488355328) :
    ∃ V' W', (Builtin.append_ #[52, 52] ty #[V, .slice (some ⟨g, 0, none⟩) m.length m.length]).run Tryz.prog W = .ok V' W' ∧ AW w base v n xs (l ++ m) V' W' := by
  obtain ⟨v', w', hr, ho, hg', hob, hd⟩ := run_appendU W ty base V _ _ h.own ⟨g, 0, none⟩ m.length m.length (byteV m) (by simp [byteV]) (fun j u hu => by
      rw [Go.WideShapes.add_plain, Nat.zero_add, hg.cell]; simpa using hu) (by intro u hu; simp [byteV] at hu; obtain ⟨x, -, rfl⟩ := hu; rfl) hm hl h.base
  refine ⟨v', w', hr, ?_, h.gb.trans ⟨hg', ?_, hd⟩, Nat.le_trans h.base hg'.size⟩
  · rw [byteV_append, List.length_append, ← List.append_assoc, ← Nat.add_assoc]; exact ho
  · rcases hob with e | e
    · exact .inl e
    · exact .inr ⟨_, e, Nat.le_refl _⟩
theorem strCells_byteV (s : ByteArray) : Lib.strCells s = byteV (bytesN s) := by simp [Lib.strCells, byteV, bytesN]
/-- append of a text's bytes. -/
theorem run_appendS (w : World) (ty : TypeId) (base : Nat) (v : Value) (n : Nat) (xs : List Value) (hown : OwnU w base v n xs) (s : ByteArray) (hm : 0 < s.size) (hbytes : n + s.size ≤ 140737488355328) (hbase : base ≤ w.heap.size) :
    ∃ v' w', (Builtin.append_ #[52, 9] ty #[v, .string s]).run Tryz.prog w = .ok v' w' ∧ OwnU w' base v' (n + s.size) (xs ++ byteV (bytesN s)) ∧ GB w w' v v' := by
  obtain ⟨i, hi, hz0, hz1, hz2⟩ := info_parts infoU8
  have hbl : (byteV (bytesN s)).length = s.size := by simp [byteV, bN_len]
  have hlen : (xs ++ byteV (bytesN s)).length = n + s.size := by rw [List.length_append, hown.1, hbl]
  have hml : n + s.size ≤ maxLen := by unfold maxLen; omega
  have grown : ∀ old, OwnU (w.drew.alloc (.cells (xs.toArray ++ (byteV (bytesN s)).toArray ++ Builtin.zeroCells (Value.int .u8 0).cells (grownCap w (n + s.size) old 5 - (n + s.size))) 5)) base
        (.slice (some ⟨w.heap.size, 0, none⟩) (n + s.size) (grownCap w (n + s.size) old 5)) (n + s.size) (xs ++ byteV (bytesN s)) := by
    intro old
    have hge := grownCap_ge w (n + s.size) old 5
    have hcm : grownCap w (n + s.size) old 5 ≤ maxLen := grownCap_le_maxLen w (n + s.size) old _ hml
    refine ⟨hlen, .inr ⟨w.heap.size, _, _, _, rfl, hbase, heap_alloc_new w.drew _, hge, hcm, ?_, ?_⟩⟩
    · simp only [Array.size_append, List.size_toArray, size_zeroCells, hown.1, hbl]
      simp [Value.cells]; omega
    · simp only [Array.toList_append, List.append_assoc]
      rw [← List.append_assoc, ← hlen]
      exact List.take_left
  have gb : ∀ o u, GB w (w.drew.alloc o) v (.slice (some ⟨w.heap.size, 0, none⟩) (n + s.size) u) := fun o u => ⟨⟨rfl, rfl, rfl, by simp, fun k hk _ => heap_alloc_old w.drew _ hk⟩, .inr ⟨_, rfl, Nat.le_refl _⟩, Nat.le_succ _⟩
  have esc := strCells_byteV s
  rcases hown.2 with ⟨rfl, rfl⟩ | ⟨g, cap, cur, t, rfl, hbg, hg, hnc, hcm, hcs, htake⟩
  · have hx : xs = [] := List.eq_nil_of_length_eq_zero (by simpa using hown.1)
    subst hx
    have hr := run_append_nil_string (P := Tryz.prog) w 52 9 ty 5 i (.int .u8 0) Tryz.underlying52 Tryz.underlying9 hi hz0 s hm (by omega) (by rw [hz2]; omega)
    have e1 : (s.data.map fun b => Value.int .u8 b.toNat) = (byteV (bytesN s)).toArray := by
      rw [← esc]; apply Array.ext'; simp [Lib.strCells]
    rw [e1] at hr
    have hgr := grown 0
    have hgb := gb (.cells ((byteV (bytesN s)).toArray ++ Builtin.zeroCells (Value.int .u8 0).cells (grownCap w s.size 0 5 - s.size)) 5) (grownCap w s.size 0 5)
    simp only [Nat.zero_add, List.nil_append, Array.empty_append] at hgr hgb ⊢
    exact ⟨_, _, hr, hgr, hgb⟩
  · by_cases hroom : n + s.size ≤ cap
    · have hf := Lib.run_firstCells_string (P := Tryz.prog) w i.size s
      have hst := run_storeCells_at Tryz.prog g (n * i.size) t (Lib.strCells s) 0 cur w hg (by rw [hz1]; simpa [Lib.strCells_length, hcs] using hroom) (Lib.strCells_oneCell s)
      simp only [Nat.add_zero] at hst
      have hr : (Builtin.append_ #[52, 9] ty #[.slice (some ⟨g, 0, none⟩) n cap, .string s]).run Tryz.prog w = .ok (.slice (some ⟨g, 0, none⟩) (n + s.size) cap) (w.setRow g (cur.toList.take (n * i.size) ++ Lib.strCells s ++ cur.toList.drop (n * i.size + (Lib.strCells s).length)).toArray) := by
        simp [Builtin.append_, run_underlying Tryz.underlying52, run_underlying Tryz.underlying9, sizeOf, typeInfo, hi, Builtin.lenOf, hroom, hf, Addr.add_lit, hst]
      refine ⟨_, _, hr, ⟨hlen, .inr ⟨g, cap, _, t, rfl, hbg, setRow_heap w g cur _ t _ hg, hroom, hcm, ?_, ?_⟩⟩, ⟨⟨rfl, rfl, rfl, by simp, fun k _ hk => setRow_other w g k _ (fun e => hk (by simp [Value.ownBlock, e]))⟩, .inl rfl, Nat.le_refl _⟩⟩
      · simp only [List.size_toArray, List.length_append, List.length_take, List.length_drop, Array.length_toList, hz1, Lib.strCells_length]
        omega
      · rw [hz1, Nat.mul_one, htake, esc, ← hlen]
        exact List.take_left
    · have holds : ∀ j u, xs[j]? = some u → w.cell? ((⟨g, 0, none⟩ : Addr).add j) = some u := fun j u hu => by
        rw [Go.WideShapes.add_plain, Nat.zero_add]; exact hown.cells j u hu
      have hr := Lib.run_append_grow_string (P := Tryz.prog) w 52 9 ty 5 i (.int .u8 0) Tryz.underlying52 Tryz.underlying9 hi hz0 ⟨g, 0, none⟩ n cap xs (by rw [hz1, hown.1]; omega) holds s (by omega) (by omega) (by rw [hz2]; exact growslice_fits (by omega) (by omega))
      rw [esc] at hr
      exact ⟨_, _, hr, grown cap, gb _ _⟩
theorem AW.appS {w W : World} {base n : Nat} {v V : Value} {xs : List Value} {l : List Nat} (h : AW w base v n xs l V W) (ty : TypeId) (s : ByteArray) (m : List Nat) (hm : bytesN s = m) (h0 : 0 < m.length) (hl : n + l.length + m.length ≤ 140737488355328) :
    ∃ V' W', (Builtin.append_ #[52, 9] ty #[V, .string s]).run Tryz.prog W = .ok V' W' ∧ AW w base v n xs (l ++ m) V' W' := by
  have hsz : s.size = m.length := by rw [← hm, bN_len]
  obtain ⟨v', w', hr, ho, hgb⟩ := run_appendS W ty base V _ _ h.own s (by omega) (by omega) h.base
  refine ⟨v', w', hr, ?_, h.gb.trans hgb, Nat.le_trans h.base hgb.grown.size⟩
  rw [byteV_append, List.length_append, ← List.append_assoc, ← Nat.add_assoc, ← hsz, ← hm]; exact ho

theorem wpList_appendS_run {w w' : World} {ops : Array Oper} {rest : List Oper} {o : Oper} {a : Act} {Q : Exit → Act → World → Prop} (hg : o.guard = none) (s x : Operand) (t u : TypeId)
    (hop : o.op = Op.call { callee := Callee.builtin Builtin.append, args := #[s, x], argTypes := #[t, u] }) (v y v' : Value) (hs : a.eval s = v) (hx : a.eval x = y)
    (hrun : (Builtin.append_ #[t, u] o.type #[v, y]).run Tryz.prog w = .ok v' w') (hK : wpList Tryz.prog ops Q rest (a.put o.dst v') w') : wpList Tryz.prog ops Q (o :: rest) a w := by
  refine wpList_plain hg fun K hK' => ?_
  unfold Oper.wp execOp
  simp only [hop, resolve, invoke, builtin, Sem.run_bind, Sem.run_pure, Result.andThen_ok, List.map_toArray, List.map_cons, List.map_nil, hs, hx, hrun]
  exact hK' _ _ hK
theorem wp_append_known {o : Oper} {a : Act} {w w' : World} {K : Act → World → Prop} {Q : Exit → Act → World → Prop} (s x : Operand) (t : Array TypeId)
    (hop : o.op = Op.call { callee := Callee.builtin Builtin.append, args := #[s, x], argTypes := t }) (v y v' : Value) (hs : a.eval s = v) (hx : a.eval x = y)
    (hrun : (Builtin.append_ t o.type #[v, y]).run Tryz.prog w = .ok v' w') (hK : K (a.put o.dst v') w') : o.wp Tryz.prog a w K Q := by
  unfold Oper.wp execOp
  simp only [hop, resolve, invoke, builtin, Sem.run_bind, Sem.run_pure, Result.andThen_ok, List.map_toArray, List.map_cons, List.map_nil, hs, hx, hrun]
  exact hK
theorem u8_shr4 : ∀ c : Fin 256, (execOp (fun _ => Value.int .u8 c.val) { dst := none, op := .move (.tmp 0), type := 0, pos := "", after := #[], guard := none } = execOp (fun _ => Value.int .u8 c.val) { dst := none, op := .move (.tmp 0), type := 0, pos := "", after := #[], guard := none }) := fun _ => rfl
theorem u8_and15F : ∀ c : Fin 256, bits .and .u8 (c.val : Int) 15 = ((c.val % 16 : Nat) : Int) := by decide +kernel
theorem x_and15 (ρ : Operand → Value) (d : Option Tmp) (x : Operand) (t : TypeId) (pos : String) (af : Array Edge) (g : Option (Nat × Bool)) (c : Nat) (hc : c < 256) (hx : ρ x = .int .u8 c) (hy : ρ (.const (.int .u8 15)) = .int .u8 15) (w : World) :
    (execOp ρ { dst := d, op := .binOp .and 5 x (.const (.int .u8 15)) 5, type := t, pos := pos, after := af, guard := g }).run Tryz.prog w = .ok (.value (.int .u8 ((c % 16 : Nat) : Int))) w := by
  have e : bits .and .u8 (c : Int) 15 = ((c % 16 : Nat) : Int) := u8_and15F ⟨c, hc⟩
  simp [go_sem, hx, hy, e]
theorem x_shr4 (ρ : Operand → Value) (d : Option Tmp) (x : Operand) (t : TypeId) (pos : String) (af : Array Edge) (g : Option (Nat × Bool)) (c : Nat) (hc : c < 256) (hx : ρ x = .int .u8 c) (hy : ρ (.const (.int .u64 4)) = .int .u64 4) (w : World) :
    (execOp ρ { dst := d, op := .binOp .shr 5 x (.const (.int .u64 4)) 56, type := t, pos := pos, after := af, guard := g }).run Tryz.prog w = .ok (.value (.int .u8 ((c / 16 : Nat) : Int))) w := by
  simp [go_sem, hx, hy]
theorem x_build4 (ρ : Operand → Value) (d : Option Tmp) (x y : Operand) (t : TypeId) (pos : String) (af : Array Edge) (g : Option (Nat × Bool)) (u v : Nat) (h1 : ρ (.const (.int .u8 92)) = .int .u8 92) (h2 : ρ (.const (.int .u8 120)) = .int .u8 120) (hx : ρ x = .int .u8 u) (hy : ρ y = .int .u8 v) (w : World) :
    (execOp ρ { dst := d, op := .buildSlice 52 4 #[(0, .const (.int .u8 92)), (1, .const (.int .u8 120)), (2, x), (3, y)], type := t, pos := pos, after := af, guard := g }).run Tryz.prog w = .ok (.value (.slice (some ⟨w.heap.size, 0, none⟩) 4 4)) (w.alloc (.cells #[.int .u8 92, .int .u8 120, .int .u8 u, .int .u8 v] 5)) := by
  simp [go_sem, h1, h2, hx, hy]
end Go.Proofs.YtdbdjjjmomociaaGreatDoor
/- appendByte, hold, need, opOf. -/
namespace Go.Proofs.YtdbdjjjmomociaaGreatDoor
set_option maxRecDepth 100000
set_option linter.unusedSimpArgs false
set_option linter.unusedVariables false
open Go.RowKit Go.Shelf

theorem x_strIdx8 (ρ : Operand → Value) (d : Option Tmp) (x y : Operand) (ty : TypeId) (pos : String) (af : Array Edge) (g : Option (Nat × Bool)) (t : ByteArray) (i c : Nat) (hc : (bytesN t)[i]? = some c) (hx : ρ x = .string t) (hy : ρ y = .int .u8 i) (w : World) :
    (execOp ρ { dst := d, op := .index 9 x y, type := ty, pos := pos, after := af, guard := g }).run Tryz.prog w = .ok (.value (.int .u8 c)) w := by
  obtain ⟨h, e⟩ := bN_at t i c hc
  simp [go_sem, hx, hy, h, ← e]
theorem byteW_len (c : Nat) : 1 ≤ (byteW c).length ∧ (byteW c).length ≤ 4 := by
  unfold byteW
  repeat' split
  all_goals simp
set_option maxHeartbeats 1000000 in
theorem appendByte_any (c : Nat) (hc : c < 256) (v : Value) (n base : Nat) (xs : List Value) (w : World) (hO : OwnU w base v n xs) (hb : base ≤ w.heap.size) (hn : n ≤ 1099511627776) :
    Calls Tryz.prog 127 #[v, .int .u8 c] w fun e w' => ∃ V, e = .returned V ∧ AW w base v n xs (byteW c) V w' := by
  obtain ⟨a0, cp0, rfl⟩ := hO.slice
  have hst := AW.start hO hb
  obtain ⟨L, hL⟩ : ∃ L, L = byteW c := ⟨_, rfl⟩
  rw [← hL]
  have HL := hide hL
  clear hL
  go_enter Tryz.func127, Tryz.ntmps127
  by_cases c1 : c = 10
  · have k1 : ((c : Int) == 10) = true := by simp; omega
    obtain ⟨V, W, hr, hA⟩ := hst.appS 52 ⟨#[92, 110]⟩ [92, 110] (by decide +kernel) (by simp) (by simp; omega)
    have HA := hide hA
    have HE : Hid (L = [] ++ [92, 110]) := by show _ = _; rw [HL.out]; unfold byteW; rw [if_pos c1]; rfl
    obtain ⟨a1, cp1, rfl⟩ := hA.slice
    clear hA hst c1 hO
    go_wp2_with (refine wpList_appendS_run rfl _ _ _ _ rfl _ _ _ rfl rfl hr ?_)
    go_ret
    exact ⟨_, rfl, by rw [HE.out]; exact HA.out⟩
  have k1 : ((c : Int) == 10) = false := beq_eq_false_iff_ne.2 (by omega)
  by_cases c2 : c = 9
  · have k2 : ((c : Int) == 9) = true := by simp; omega
    obtain ⟨V, W, hr, hA⟩ := hst.appS 52 ⟨#[92, 116]⟩ [92, 116] (by decide +kernel) (by simp) (by simp; omega)
    have HA := hide hA
    have HE : Hid (L = [] ++ [92, 116]) := by show _ = _; rw [HL.out]; unfold byteW; rw [if_neg c1, if_pos c2]; rfl
    obtain ⟨a1, cp1, rfl⟩ := hA.slice
    clear hA hst c1 c2 hO
    go_wp2_with (refine wpList_appendS_run rfl _ _ _ _ rfl _ _ _ rfl rfl hr ?_)
    go_ret
    exact ⟨_, rfl, by rw [HE.out]; exact HA.out⟩
  have k2 : ((c : Int) == 9) = false := beq_eq_false_iff_ne.2 (by omega)
  have HPL := hide (plain_any c w)
  obtain ⟨pl, hpl⟩ : ∃ pl, pl = plainB c := ⟨_, rfl⟩
  rw [← hpl] at HPL
  have HL3 : Hid (L = if pl = false then [92, 120, digitsL.getD (c / 16) 0, digitsL.getD (c % 16) 0] else if (signsL ++ othersL).contains c then [92, c] else [c]) := by
    show _ = _
    rw [HL.out, hpl]; unfold byteW; rw [if_neg c1, if_neg c2]
  have HST := hide hst
  clear hst c1 c2 hpl HL hO
  go_wp2_with fail
  refine HPL.out.mono ?_
  rintro e w1 ⟨rfl, rfl⟩
  cases pl with
  | false =>
    obtain ⟨hx, hhx0⟩ : ∃ hx, hx = digitsL.getD (c / 16) 0 := ⟨_, rfl⟩
    obtain ⟨lx, hlx0⟩ : ∃ lx, lx = digitsL.getD (c % 16) 0 := ⟨_, rfl⟩
    have hdg : bytesN ⟨#[48, 49, 50, 51, 52, 53, 54, 55, 56, 57, 97, 98, 99, 100, 101, 102]⟩ = digitsL := by decide +kernel
    have hget : ∀ i, i < 16 → digitsL[i]? = some (digitsL.getD i 0) := fun i hi => by
      rw [List.getD_eq_getElem?_getD, List.getElem?_eq_getElem (show i < digitsL.length from hi)]; rfl
    have hhx : (bytesN ⟨#[48, 49, 50, 51, 52, 53, 54, 55, 56, 57, 97, 98, 99, 100, 101, 102]⟩)[c / 16]? = some hx := by rw [hdg, hhx0]; exact hget _ (by omega)
    have hlx : (bytesN ⟨#[48, 49, 50, 51, 52, 53, 54, 55, 56, 57, 97, 98, 99, 100, 101, 102]⟩)[c % 16]? = some lx := by rw [hdg, hlx0]; exact hget _ (by omega)
    have HE : Hid (L = [] ++ [92, 120, hx, lx]) := by show _ = _; rw [HL3.out, if_pos rfl, hhx0, hlx0]; rfl
    have HHX := hide hhx
    have HLX := hide hlx
    clear hhx0 hlx0 hdg hget HPL hhx hlx
    go_wp2
    have hhx := HHX.out
    have hlx := HLX.out
    have hA1 := HST.out.step (⟨rfl, rfl, rfl, Nat.le_refl _, fun _ _ => rfl⟩ : Below w1.heap.size w1 { w1 with drawn := w1.drawn + 1 }) (Nat.le_succ _)
    refine wp_region_noPanic (wp_region_held (S := fun _ => True) (by kernel_rfl) ?_)
    show wpAnyH _ _ _ _ _ 10 #[false, false, false, false, false, false, false, false, false, false] _ _
    generalize ({ w1 with drawn := w1.drawn + 1 } : World) = W at hA1 ⊢
    have hb2 := (Below.refl W.heap.size W).alloc (Nat.le_refl _) (.cells #[.int .u8 92, .int .u8 120, .int .u8 hx, .int .u8 lx] 5)
    obtain ⟨v2, W2, hr2, hA2⟩ := (hA1.step hb2 (Nat.le_refl _)).app 52 W.heap.size #[] [92, 120, hx, lx] (Blk.newAt rfl _ _) (by simp) (by simp; omega)
    simp only [List.length_cons, List.length_nil, Nat.zero_add, Nat.reduceAdd] at hr2
    refine h_take 0 (.slice a0 n cp0) rfl (by kernel_rfl) (by kernel_rfl) (by kernel_rfl) rfl (fun w hw => x_move _ _ _ _ _ _ _ _ rfl w) trivial ?_
    simp only [Act.put, List.setIfInBounds_toArray, List.set_cons_succ, List.set_cons_zero]
    refine h_take 1 (.int .u8 c) rfl (by kernel_rfl) (by kernel_rfl) (by kernel_rfl) rfl (fun w hw => x_move _ _ _ _ _ _ _ _ rfl w) trivial ?_
    simp only [Act.put, List.setIfInBounds_toArray, List.set_cons_succ, List.set_cons_zero]
    refine h_take 2 (.int .u8 ((c / 16 : Nat) : Int)) rfl (by kernel_rfl) (by kernel_rfl) (by kernel_rfl) rfl (fun w hw => x_shr4 _ _ _ _ _ _ _ c hc rfl rfl w) trivial ?_
    simp only [Act.put, List.setIfInBounds_toArray, List.set_cons_succ, List.set_cons_zero]
    refine h_take 3 (.int .u8 hx) rfl (by kernel_rfl) (by kernel_rfl) (by kernel_rfl) rfl (fun w hw => x_strIdx8 _ _ _ _ _ _ _ _ _ (c / 16) hx hhx rfl rfl w) trivial ?_
    simp only [Act.put, List.setIfInBounds_toArray, List.set_cons_succ, List.set_cons_zero]
    refine h_take 4 (.int .u8 c) rfl (by kernel_rfl) (by kernel_rfl) (by kernel_rfl) rfl (fun w hw => x_move _ _ _ _ _ _ _ _ rfl w) trivial ?_
    simp only [Act.put, List.setIfInBounds_toArray, List.set_cons_succ, List.set_cons_zero]
    refine h_take 5 (.int .u8 ((c % 16 : Nat) : Int)) rfl (by kernel_rfl) (by kernel_rfl) (by kernel_rfl) rfl (fun w hw => x_and15 _ _ _ _ _ _ _ c hc rfl rfl w) trivial ?_
    simp only [Act.put, List.setIfInBounds_toArray, List.set_cons_succ, List.set_cons_zero]
    refine h_take 6 (.int .u8 lx) rfl (by kernel_rfl) (by kernel_rfl) (by kernel_rfl) rfl (fun w hw => x_strIdx8 _ _ _ _ _ _ _ _ _ (c % 16) lx hlx rfl rfl w) trivial ?_
    simp only [Act.put, List.setIfInBounds_toArray, List.set_cons_succ, List.set_cons_zero]
    refine h_alloc 7 (.slice (some ⟨W.heap.size, 0, none⟩) 4 4) (W.alloc (.cells #[.int .u8 92, .int .u8 120, .int .u8 hx, .int .u8 lx] 5)) rfl (by kernel_rfl) rfl (x_build4 _ _ _ _ _ _ _ _ _ _ rfl rfl rfl rfl W) trivial ?_
    simp only [Act.put, List.setIfInBounds_toArray, List.set_cons_succ, List.set_cons_zero]
    refine h_oper 8 rfl (by kernel_rfl) rfl ?_
    refine wp_append_known _ _ _ rfl _ _ _ rfl rfl hr2 ⟨trivial, ?_⟩
    simp only [Act.put, List.setIfInBounds_toArray, List.set_cons_succ, List.set_cons_zero]
    refine h_take 9 (v2) rfl (by kernel_rfl) (by kernel_rfl) (by kernel_rfl) rfl (fun w hw => x_assign _ _ _ _ _ _ _ _ rfl w) trivial ?_
    simp only [Act.put, List.setIfInBounds_toArray, List.set_cons_succ, List.set_cons_zero]
    refine wpAnyH_done (by kernel_rfl) ?_ _
    refine NoPanic.normal ?_
    have HA := hide hA2
    obtain ⟨a1, cp1, rfl⟩ := hA2.slice
    clear hA2 hA1 hb2 hr2 hhx hlx
    go_wp2
    go_ret
    exact ⟨_, rfl, by rw [HE.out]; exact ⟨HA.out.own, HA.out.gb, HA.out.base⟩⟩
  | true =>
    have esg : bytesN ⟨#[32, 40, 41, 91, 93, 124, 38, 45, 42, 43, 63, 46, 92, 94, 47, 34, 35]⟩ = signsL ++ othersL := by decide +kernel
    have hix := indexByte_any ⟨#[32, 40, 41, 91, 93, 124, 38, 45, 42, 43, 63, 46, 92, 94, 47, 34, 35]⟩ c hc w1
    rw [esg] at hix
    obtain ⟨q, hq⟩ : ∃ q, q = (signsL ++ othersL).contains c := ⟨_, rfl⟩
    obtain ⟨z, hz⟩ : ∃ z, z = idxI (signsL ++ othersL) c := ⟨_, rfl⟩
    have hzq : decide (0 ≤ z) = q := by rw [hz, hq]; exact idxI_pos _ _
    rw [← hz] at hix
    rw [← hq, if_neg (by simp)] at HL3
    have HIX := hide hix
    clear hix hz hq esg HPL
    go_wp2_with fail
    refine HIX.out.mono ?_
    rintro e w2 ⟨rfl, rfl⟩
    clear HIX
    cases q with
    | true =>
      have HE : Hid (L = [] ++ [92, c]) := by show _ = _; rw [HL3.out, if_pos rfl]; rfl
      have hb2 := (Below.refl w2.heap.size w2).alloc (Nat.le_refl _) (.cells #[.int .u8 92, .int .u8 c] 5)
      obtain ⟨v2, W2, hr2, hA2⟩ := (HST.out.step hb2 (Nat.le_refl _)).app 52 w2.heap.size #[] [92, c] (Blk.newAt rfl _ _) (by simp) (by simp; omega)
      simp only [List.length_cons, List.length_nil, Nat.zero_add, Nat.reduceAdd] at hr2
      have HA := hide hA2
      obtain ⟨a1, cp1, rfl⟩ := hA2.slice
      clear hA2 hb2
      go_wp2_with (refine wpList_append_run rfl _ _ _ rfl _ _ _ rfl rfl hr2 ?_)
      go_ret
      exact ⟨_, rfl, by rw [HE.out]; exact HA.out⟩
    | false =>
      have HE : Hid (L = [] ++ [c]) := by show _ = _; rw [HL3.out, if_neg (by simp)]; rfl
      have hb2 := (Below.refl w2.heap.size w2).alloc (Nat.le_refl _) (.cells #[.int .u8 c] 5)
      obtain ⟨v2, W2, hr2, hA2⟩ := (HST.out.step hb2 (Nat.le_refl _)).app 52 w2.heap.size #[] [c] (Blk.newAt rfl _ _) (by simp) (by simp; omega)
      simp only [List.length_cons, List.length_nil, Nat.zero_add, Nat.reduceAdd] at hr2
      have HA := hide hA2
      obtain ⟨a1, cp1, rfl⟩ := hA2.slice
      clear hA2 hb2
      go_wp2_with (refine wpList_append_run rfl _ _ _ rfl _ _ _ rfl rfl hr2 ?_)
      go_ret
      exact ⟨_, rfl, by rw [HE.out]; exact HA.out⟩

/-- How closely what is written of an Op holds together. -/
def holdN (o : Nat) : Nat := if o = 4 then 0 else if o = 7 then 1 else if o = 6 then 2 else if o = 3 then 3 else if o = 5 then 4 else 5
def needN (o i : Nat) : Nat := if o = 7 ∧ i = 0 then holdN o else holdN o + 1
theorem hold_any (o : Nat) (w : World) : Calls Tryz.prog 102 #[.int .i64 o] w fun e w' => e = .returned (.int .i64 (holdN o)) ∧ w' = w := by
  go_enter Tryz.func102, Tryz.ntmps102
  by_cases h4 : o = 4
  · subst h4; go_wp2; go_ret; exact ⟨rfl, rfl⟩
  have k4 : ((o : Int) == 4) = false := beq_eq_false_iff_ne.2 (by omega)
  by_cases h7 : o = 7
  · subst h7; go_wp2; go_ret; exact ⟨rfl, rfl⟩
  have k7 : ((o : Int) == 7) = false := beq_eq_false_iff_ne.2 (by omega)
  by_cases h6 : o = 6
  · subst h6; go_wp2; go_ret; exact ⟨rfl, rfl⟩
  have k6 : ((o : Int) == 6) = false := beq_eq_false_iff_ne.2 (by omega)
  by_cases h3 : o = 3
  · subst h3; go_wp2; go_ret; exact ⟨rfl, rfl⟩
  have k3 : ((o : Int) == 3) = false := beq_eq_false_iff_ne.2 (by omega)
  by_cases h5 : o = 5
  · subst h5; go_wp2; go_ret; exact ⟨rfl, rfl⟩
  have k5 : ((o : Int) == 5) = false := beq_eq_false_iff_ne.2 (by omega)
  have HE : Hid (holdN o = 5) := by show _ = _; unfold holdN; rw [if_neg h4, if_neg h7, if_neg h6, if_neg h3, if_neg h5]
  clear h3 h4 h5 h6 h7
  go_wp2
  go_ret
  refine ⟨?_, rfl⟩
  rw [HE.out]; rfl
theorem holdN_le (o : Nat) : holdN o ≤ 5 := by unfold holdN; repeat' split
                                               all_goals omega
theorem need_any (o i : Nat) (w : World) : Calls Tryz.prog 103 #[.int .i64 o, .int .i64 i] w fun e w' => e = .returned (.int .i64 (needN o i)) ∧ w' = w := by
  obtain ⟨h, hh⟩ : ∃ h, h = holdN o := ⟨_, rfl⟩
  have hle : h ≤ 5 := by rw [hh]; exact holdN_le o
  have HO := hide (hold_any o w)
  rw [← hh] at HO
  by_cases h7 : o = 7
  · have k7 : ((o : Int) == 7) = true := by simp [h7]
    by_cases h0 : i = 0
    · have k0 : ((i : Int) == 0) = true := by simp [h0]
      have HE : Hid (needN o i = h) := by show _ = _; unfold needN; rw [if_pos ⟨h7, h0⟩, hh]
      clear hh h7 h0
      go_enter Tryz.func103, Tryz.ntmps103
      go_wp2_with fail
      refine HO.out.mono ?_
      rintro e w1 ⟨rfl, rfl⟩
      clear HO
      go_wp2
      go_ret
      refine ⟨?_, rfl⟩
      rw [HE.out]; rfl
    · have k0 : ((i : Int) == 0) = false := beq_eq_false_iff_ne.2 (by omega)
      have HE : Hid (needN o i = h + 1) := by show _ = _; unfold needN; rw [if_neg (fun x => h0 x.2), hh]
      clear hh h7 h0
      go_enter Tryz.func103, Tryz.ntmps103
      go_wp2_with fail
      refine HO.out.mono ?_
      rintro e w1 ⟨rfl, rfl⟩
      clear HO
      go_wp2
      go_ret
      refine ⟨?_, rfl⟩
      rw [HE.out]; rfl
  · have k7 : ((o : Int) == 7) = false := beq_eq_false_iff_ne.2 (by omega)
    have HE : Hid (needN o i = h + 1) := by show _ = _; unfold needN; rw [if_neg (fun x => h7 x.1), hh]
    clear hh h7
    go_enter Tryz.func103, Tryz.ntmps103
    go_wp2_with fail
    refine HO.out.mono ?_
    rintro e w1 ⟨rfl, rfl⟩
    clear HO
    go_wp2
    go_ret
    refine ⟨?_, rfl⟩
    rw [HE.out]; rfl
theorem opOf_any (b : Nat) (r : RE) (w : World) (h : ReAt w b r) : Calls Tryz.prog 74 #[PT b] w fun e w' => e = .returned (.int .i64 r.op) ∧ w' = w := by
  have c0 := h.cell0
  clear h
  unfold PT
  go_enter Tryz.func74, Tryz.ntmps74
  go_wp2
  go_ret
  exact ⟨rfl, rfl⟩
end Go.Proofs.YtdbdjjjmomociaaGreatDoor
/- appendRuns of package text: a set's runs as they are written. -/
namespace Go.Proofs.YtdbdjjjmomociaaGreatDoor
set_option maxRecDepth 100000
set_option linter.unusedSimpArgs false
set_option linter.unusedVariables false
open Go.RowKit Go.Shelf
attribute [local go_sem] Oper.semAt_some

/-- A run as it is written. -/
def runW (x : Nat × Nat) : List Nat := byteW x.1 ++ if x.1 < x.2 then 45 :: byteW x.2 else []
def runsW (l : List (Nat × Nat)) : List Nat := l.flatMap runW
theorem runsW_snoc (l : List (Nat × Nat)) (x : Nat × Nat) : runsW (l ++ [x]) = runsW l ++ runW x := by simp [runsW]
theorem runW_len (x : Nat × Nat) : (runW x).length ≤ 9 := by
  have h1 := (byteW_len x.1).2
  have h2 := (byteW_len x.2).2
  unfold runW
  rw [List.length_append]
  split <;> simp <;> omega
theorem runsW_len (l : List (Nat × Nat)) : (runsW l).length ≤ 9 * l.length := by
  induction l with
  | nil => simp [runsW]
  | cons x l ih =>
    have h := runW_len x
    have e : runsW (x :: l) = runW x ++ runsW l := by simp [runsW]
    rw [e, List.length_append, List.length_cons]
    omega
theorem runs_lt256 (s : BitVec 256) : ∀ x ∈ runsOf s, x.1 < 256 ∧ x.2 < 256 := fun x hx => by
  have h : ∀ y ∈ rnB (runsOf s), y < 256 := rnB_lt s
  exact ⟨h x.1 (List.mem_flatMap.2 ⟨x, hx, by simp⟩), h x.2 (List.mem_flatMap.2 ⟨x, hx, by simp⟩)⟩
/-- As GB, but for one block more. -/
structure GX (N : Nat) (w w' : World) (v v' : Value) : Prop where
  os : w'.os = w.os
  tape : w'.tape = w.tape
  output : w'.output = w.output
  size : w.heap.size ≤ w'.heap.size
  block : ∀ k, k < w.heap.size → some k ≠ v.ownBlock → k ≠ N → w'.heap[k]? = w.heap[k]?
  own : v'.ownBlock = v.ownBlock ∨ ∃ g, v'.ownBlock = some g ∧ w.heap.size ≤ g
  drawn : w.drawn ≤ w'.drawn
theorem GX.of {N : Nat} {w w' : World} {v v' : Value} (h : GB w w' v v') : GX N w w' v v' := ⟨h.grown.os, h.grown.tape, h.grown.output, h.grown.size, fun k hk hn _ => h.grown.block k hk hn, h.own, h.drawn⟩
theorem GX.set {N : Nat} (w : World) (v u : Value) : GX N w (w.setCell ⟨N, 0, none⟩ u) v v := ⟨rfl, rfl, rfl, by simp [World.setCell], fun k _ _ hk => Below.heap_setCell _ _ _ _ hk, .inl rfl, Nat.le_refl _⟩
theorem GX.step {N : Nat} {w w' : World} (v : Value) (h : Below w.heap.size w w') (hd : w.drawn ≤ w'.drawn) : GX N w w' v v := ⟨h.os, h.tape, h.output, h.size, fun k hk _ _ => h.block k hk, .inl rfl, hd⟩
theorem GX.trans {N : Nat} {w w1 w2 : World} {v v1 v2 : Value} (h : GX N w w1 v v1) (k : GX N w1 w2 v1 v2) : GX N w w2 v v2 := by
  refine ⟨k.os.trans h.os, k.tape.trans h.tape, k.output.trans h.output, Nat.le_trans h.size k.size, fun i hi hn hN => ?_, ?_, Nat.le_trans h.drawn k.drawn⟩
  · have hs := h.size
    rw [k.block i (by omega) ?_ hN, h.block i hi hn hN]
    intro e
    rcases h.own with h1 | ⟨g, h1, h2⟩
    · exact hn (e.trans h1)
    · rw [h1] at e; injection e; omega
  · have hs := h.size
    rcases k.own with h1 | ⟨g, h1, h2⟩
    · rcases h.own with h3 | ⟨g, h3, h4⟩
      · exact .inl (h1.trans h3)
      · exact .inr ⟨g, h1.trans h3, h4⟩
    · exact .inr ⟨g, h1, by omega⟩
/-- The row in its box N, and what was done since (W, v'). -/
structure BW (N base n : Nat) (xs : List Value) (l : List Nat) (W : World) (v' : Value) (V : Value) (X : World) : Prop where
  box : Blk X N #[V] 52
  own : OwnU X base V (n + l.length) (xs ++ byteV l)
  gx : GX N W X v' V
  ne : V.ownBlock ≠ some N
  base : base ≤ X.heap.size
theorem BW.ne' {N base n : Nat} {xs : List Value} {l : List Nat} {W X : World} {v' V V' : Value} (h : BW N base n xs l W v' V X) (k : V'.ownBlock = V.ownBlock ∨ ∃ g, V'.ownBlock = some g ∧ X.heap.size ≤ g) : V'.ownBlock ≠ some N := fun e => by
  rcases k with h1 | ⟨g, h1, h2⟩
  · exact h.ne (h1.symm.trans e)
  · rw [e] at h1; injection h1 with h1; have := h.box.lt; omega
/-- Something was written, and laid into the box. -/
theorem BW.put {N base n : Nat} {xs : List Value} {l m : List Nat} {W X Y : World} {v' V V' : Value} (h : BW N base n xs l W v' V X) (k : AW X base V (n + l.length) (xs ++ byteV l) m V' Y) : BW N base n xs (l ++ m) W v' V' (Y.setCell ⟨N, 0, none⟩ V') := by
  have hne := h.ne' k.gb.own
  have hb : Blk Y N #[V] 52 := (k.gb.grown.block N h.box.lt (fun e => h.ne e.symm)).trans h.box
  refine ⟨hb.set 0 V', ?_, (h.gx.trans (GX.of k.gb)).trans (GX.set _ _ _), hne, by simpa [World.setCell] using k.base⟩
  have := k.own
  rw [byteV_append, List.length_append, ← List.append_assoc, ← Nat.add_assoc]
  exact this.keep fun g hg => Below.heap_setCell _ _ _ _ (fun e => hne (by rw [hg]; exact congrArg some e))

set_option maxHeartbeats 2000000 in
theorem textRuns_in (s : BitVec 256) (v : Value) (n base : Nat) (xs : List Value) (w : World) (hv : OwnU w base v n xs) (hn : n ≤ 1000000000000) (hG : 0 < base) (hbase : base ≤ w.heap.size) (hT : TabAt w) :
    CallsIn Fence.wide 0 Tryz.prog 101 #[v, SV s] w fun e w' => ∃ V, e = .returned V ∧ AW w base v n xs (runsW (runsOf s)) V w' := by
  obtain ⟨ad, ln, cap, rfl⟩ : ∃ ad ln cap, v = .slice ad ln cap := by
    rcases hv.2 with ⟨rfl, -⟩ | ⟨g, cap, cur, t, rfl, -⟩ <;> exact ⟨_, _, _, rfl⟩
  refine callsIn_of_wp_marks Tryz.func101 rfl trivial ?_ rfl
  simp only [Tryz.ntmps101, List.size_toArray, List.length_nil, List.length_cons, Nat.reduceSub, Nat.reduceAdd, Array.replicate_succ, Array.replicate_zero, List.push_toArray, List.append_toArray, List.nil_append, List.cons_append]
  gi_wp2_with fail
  refine ⟨trivial, rfl, ?_⟩
  refine (callsIn_wide.2 (runs_any s _)).mono ?_
  rintro e w5 ⟨rfl, rfl⟩
  gi_wp2
  refine wpIn_world (fun W => Blk W w.heap.size #[.slice ad ln cap] 52 ∧ Blk W (w.heap.size + 1) (WS s) 44 ∧ Blk W (w.heap.size + 2) (WS s) 44 ∧ Below w.heap.size w W ∧ w.drawn ≤ W.drawn) ⟨?_, ?_, ?_, ?_, ?_⟩ ?_
  · exact ((Blk.newAt rfl _ _).alloc _).alloc _
  · exact (Blk.newAt (by simp) _ _).alloc _
  · exact Blk.newAt (by simp) _ _
  · exact (((Below.refl _ _).alloc (Nat.le_refl _) _).alloc (by simp) _).alloc (by simp; omega) _
  · exact Nat.le_refl _
  rintro W0 ⟨k0, k1, k2, hbel, hdw⟩
  have hT0 : TabAt W0 := hT.agree (Agree.of_all (K := fun _ => True) hbel) trivial
  have HT := hide hT0
  have HB := hide hbel
  have zk := k2.lt
  have hv0 : OwnU W0 base (.slice ad ln cap) n xs := hv.keep fun g hg => hbel.block g (hv.own_lt hg).2
  have hvo : ∀ g, (Value.slice ad ln cap).ownBlock = some g → base ≤ g ∧ g < w.heap.size := fun g hg => hv.own_lt hg
  have hr256 := runs_le s
  have hrw := runsW_len (runsOf s)
  have hrl : ∀ x ∈ runsOf s, x.1 < 256 ∧ x.2 < 256 := fun x hx => runs_lt256 s x hx
  clear hT hT0 hbel hv
  generalize hN : w.heap.size = N at *
  refine wpIn_rangeM (gf := 144) (lb := #[.pointer (some ⟨N + 1 + 1, 0, none⟩)]) rfl enters_runs (encs := fun x : Nat × Nat => #[.int .u8 x.1, .int .u8 x.2]) (xs := runsOf s)
    (own := fun k => k = N + 2 ∨ k = 0)
    (fun W1 hb => runs1_any s _ W1 (k2.below hb zk) (HT.out.agree (Agree.of_all (K := fun _ => True) hb) trivial)) (fun _ => rfl)
    (fun pre M W => M N ∧ ∃ v', Blk W N #[v'] 52 ∧ OwnU W base v' (n + (runsW pre).length) (xs ++ byteV (runsW pre)) ∧ (∀ g, v'.ownBlock = some g → M g) ∧ (v'.ownBlock = (Value.slice ad ln cap).ownBlock ∨ ∃ g, v'.ownBlock = some g ∧ N < g))
    (fun _ _ _ _ => False)
    (fun _ M A B h ha => ⟨h.1, h.2.choose, h.2.choose_spec.1.agree ha h.1, h.2.choose_spec.2.1.keep (fun g hg => ha.block g (h.2.choose_spec.2.1.own_lt hg).2 (h.2.choose_spec.2.2.1 g hg)), h.2.choose_spec.2.2⟩)
    (fun _ _ M A B h ha => h)
    (fun k => k = N ∨ (Value.slice ad ln cap).ownBlock = some k) (fun k hk => by rcases hk with rfl | hk; exact k0.lt; have := hvo k hk; omega)
    (fun k hk => by
      rcases hk with rfl | rfl
      · exact ⟨fun h => by rcases h with h | h; omega; have := hvo _ h; omega, zk⟩
      · exact ⟨fun h => by rcases h with h | h; omega; have := hvo _ h; omega, by omega⟩)
    ⟨.inl rfl, _, k0, by simpa [byteV, runsW] using hv0, fun g hg => .inr hg, .inl rfl⟩
    (fun x => { tmps := #[.slice ad ln cap, SV s, .pointer (some ⟨N, 0, none⟩), .pointer (some ⟨N + 1, 0, none⟩), .slice none 0 0, .int .u8 x.1, .int .u8 x.2, SV s, .func (.func 144) #[] #[.pointer (some ⟨N + 1 + 1, 0, none⟩)],
        .int .u8 x.1, .int .u8 x.2, undef, undef, undef, undef, undef, undef, undef, undef, undef, undef, undef, undef], defers := [] }) ?assign ?body ?done ?stop
  case assign =>
    intro l x W K hK
    gi_wp2
    exact hK
  case body =>
    rintro l pre x M W hpre ⟨m1, v', b1, ho, hom, hor⟩ hM
    have hxm : x ∈ runsOf s := hpre.subset (by simp)
    obtain ⟨hx1, hx2⟩ := hrl x hxm
    have hpl : pre.length < (runsOf s).length := by have := hpre.length_le; simp at this; omega
    have hpw := runsW_len pre
    have hne : v'.ownBlock ≠ some N := fun e => by
      rcases hor with h | ⟨g, h, hg⟩
      · have := hvo N (h.symm.trans e); omega
      · rw [e] at h; injection h; omega
    obtain ⟨ad', ln', cap', rfl⟩ : ∃ ad ln cap, v' = .slice ad ln cap := by
      rcases ho.2 with ⟨rfl, -⟩ | ⟨g, cap, cur, t, rfl, -⟩ <;> exact ⟨_, _, _, rfl⟩
    obtain ⟨n1, hn1⟩ : ∃ n1, n1 = n + (runsW pre).length := ⟨_, rfl⟩
    obtain ⟨xs1, hxs1⟩ : ∃ xs1, xs1 = xs ++ byteV (runsW pre) := ⟨_, rfl⟩
    have hbW : base ≤ W.heap.size := by have := b1.lt; omega
    have hB0 : BW N base n1 xs1 [] W (.slice ad' ln' cap') (.slice ad' ln' cap') W := ⟨b1, by rw [hn1, hxs1]; simpa [byteV] using ho, ⟨rfl, rfl, rfl, Nat.le_refl _, fun _ _ _ _ => rfl, .inl rfl, Nat.le_refl _⟩, hne, hbW⟩
    have e1 := b1.cell 0
    simp only [List.getElem?_toArray, List.getElem?_cons_zero] at e1
    have hn1b : n1 ≤ 1000000003000 := by omega
    have hab := appendByte_any x.1 hx1 (.slice ad' ln' cap') n1 base xs1 W (by rw [hn1, hxs1]; exact ho) hbW (by omega)
    have HAB := hide hab
    have HB0 := hide hB0
    have HNE := hide hN
    -- at the end of a round
    have HEND : Hid (∀ V X, BW N base n1 xs1 (runW x) W (.slice ad' ln' cap') V X → ∃ M', Foot M M' W X ∧ M' N ∧ ∃ v', Blk X N #[v'] 52 ∧ OwnU X base v' (n + (runsW (pre ++ [x])).length) (xs ++ byteV (runsW (pre ++ [x]))) ∧ (∀ g, v'.ownBlock = some g → M' g) ∧ (v'.ownBlock = (Value.slice ad ln cap).ownBlock ∨ ∃ g, v'.ownBlock = some g ∧ N < g)) := fun V X hX => by
      have hNW := b1.lt
      refine ⟨fun k => M k ∨ V.ownBlock = some k, ⟨fun k hk => ?_, ?_⟩, .inl m1, V, hX.box, ?_, fun g hg => .inr hg, ?_⟩
      · rcases hk with hk | hk
        · exact ⟨.inl hk, by have := hM k hk; have := hX.gx.size; omega⟩
        · refine ⟨?_, (hX.own.own_lt hk).2⟩
          rcases hX.gx.own with h | ⟨g, h, h2⟩
          · exact .inl (hom k (h.symm.trans hk))
          · rw [h] at hk; injection hk with hk; exact .inr (by omega)
      · exact ⟨hX.gx.os, hX.gx.tape, hX.gx.output, hX.gx.size, fun k hk hn => hX.gx.block k hk (fun e => hn (hom k e.symm)) (fun e => hn (e ▸ m1)), hX.gx.drawn⟩
      · have := hX.own
        rw [hn1, hxs1] at this
        rw [runsW_snoc, byteV_append, List.length_append, ← List.append_assoc, ← Nat.add_assoc]
        exact this
      · rcases hX.gx.own with h | ⟨g, h, h2⟩
        · rw [h]; exact hor
        · exact .inr ⟨g, h, by omega⟩
    clear hab hB0 ho hN hn1 hxs1 hom hor hM hpre hxm hrl
    gi_wp2_with fail
    refine ⟨trivial, rfl, ?_⟩
    refine (callsIn_wide.2 HAB.out).mono ?_
    rintro e W1 ⟨V1, rfl, hA1⟩
    have hP1 := HB0.out.put (l := []) (by simpa [byteV] using hA1)
    obtain ⟨a1, c1, rfl⟩ := hA1.slice
    have HP1 := hide hP1
    have hb1 : Blk W1 N #[.slice ad' ln' cap'] 52 := (hA1.gb.grown.block N b1.lt (fun e => hne e.symm)).trans b1
    have e2 := hb1.cell 0
    have f2 := hb1.frozen 0
    simp only [List.getElem?_toArray, List.getElem?_cons_zero] at e2
    obtain ⟨W2, hW2⟩ : ∃ W2, W2 = W1.setCell ⟨N, 0, none⟩ (.slice a1 (n1 + (byteW x.1).length) c1) := ⟨_, rfl⟩
    have ew2 : W1.setCell ⟨N, 0, none⟩ (.slice a1 (n1 + (byteW x.1).length) c1) = W2 := hW2.symm
    rw [← hW2] at HP1
    have e3 := HP1.out.box.cell 0
    simp only [List.getElem?_toArray, List.getElem?_cons_zero] at e3
    clear hA1 hP1 hb1 HAB hW2 e1
    by_cases hlt : x.1 < x.2
    · have hd1 : decide ((x.1 : Int) < x.2) = true := by simp; omega
      have hd2 : decide (x.1 < x.2) = true := by simp [hlt]
      have hbl := (byteW_len x.1).2
      have hb3 := (Below.refl W2.heap.size W2).alloc (Nat.le_refl _) (.cells #[.int .u8 45] 5)
      have hst : AW W2 base (.slice a1 (n1 + (byteW x.1).length) c1) (n1 + ([] ++ byteW x.1).length) (xs1 ++ byteV ([] ++ byteW x.1)) [] (.slice a1 (n1 + (byteW x.1).length) c1) W2 := AW.start HP1.out.own HP1.out.base
      obtain ⟨V3, W3, hr3, hA3⟩ := (hst.step hb3 (Nat.le_refl _)).app 52 W2.heap.size #[] [45] (Blk.newAt rfl _ _) (by simp) (by simp; omega)
      simp only [List.length_cons, List.length_nil, Nat.zero_add] at hr3
      have hab := appendByte_any x.2 hx2 V3 _ base _ W3 hA3.own hA3.base (by simp; omega)
      obtain ⟨a3, c3, rfl⟩ := hA3.slice
      have HAB := hide hab
      have HA3 := hide hA3
      have HRW : Hid (runW x = [] ++ byteW x.1 ++ ([] ++ [45] ++ byteW x.2)) := by show _ = _; unfold runW; rw [if_pos hlt]; simp
      clear hb3 hst hab hA3 hlt
      gi_wp2_with (refine wpListIn_append_run rfl _ _ _ rfl _ _ _ rfl rfl hr3 ?_)
      refine ⟨trivial, rfl, ?_⟩
      refine (callsIn_wide.2 HAB.out).mono ?_
      rintro e W4 ⟨V4, rfl, hA4⟩
      have hA5 := HA3.out.more hA4
      have hP5 := HP1.out.put hA5
      obtain ⟨a4, c4, rfl⟩ := hA4.slice
      rw [← HRW.out] at hP5
      have HP5 := hide hP5
      have hb4 : Blk W4 N #[.slice a1 (n1 + (byteW x.1).length) c1] 52 := (hA5.gb.grown.block N HP1.out.box.lt (fun e => HP1.out.ne e.symm)).trans HP1.out.box
      have e4 := hb4.cell 0
      have f4 := hb4.frozen 0
      simp only [List.getElem?_toArray, List.getElem?_cons_zero] at e4
      clear hA4 hA5 hP5 hb4 HAB HA3 e3
      gi_wp2
      exact HEND.out _ _ HP5.out
    · have hd1 : decide ((x.1 : Int) < x.2) = false := by simp; omega
      have hd2 : decide (x.1 < x.2) = false := by simp; omega
      have HRW : Hid (runW x = [] ++ byteW x.1) := by show _ = _; unfold runW; rw [if_neg hlt]; simp
      rw [← HRW.out] at HP1
      clear hlt
      gi_wp2
      exact HEND.out _ _ HP1.out
  case done =>
    rintro D M' W ⟨m1, v', b1, ho, hom, hor⟩ hF hD hK hn
    have e1 := b1.cell 0
    simp only [List.getElem?_toArray, List.getElem?_cons_zero] at e1
    obtain ⟨ad', ln', cap', rfl⟩ : ∃ ad ln cap, v' = .slice ad ln cap := by
      rcases ho.2 with ⟨rfl, -⟩ | ⟨g, cap, cur, t, rfl, -⟩ <;> exact ⟨_, _, _, rfl⟩
    have HF := hide hF
    have HK := hide hK
    have HO := hide ho
    have HNE := hide hN
    clear hF hK ho hN
    gi_wp2
    refine leave_mark HK.out (results_tmp rfl _ _ _) ⟨_, rfl, ?_, ⟨?_, ?_, Nat.le_trans hdw HF.out.agree.drawn⟩, ?_⟩
    · refine HO.out.keep fun g hg => World.putObj_heap_other ?_
      rintro rfl
      exact hn (hom _ hg)
    · have hb : Below N w W0 := HB.out
      refine ⟨HF.out.agree.os.trans hb.os, HF.out.agree.tape.trans hb.tape, HF.out.agree.output.trans hb.output, ?_, fun k hk hne => ?_⟩
      · rw [World.putObj_size]; exact Nat.le_trans hb.size HF.out.agree.size
      · have hk' : k < N := by rw [← HNE.out]; exact hk
        rw [World.putObj_heap_other (by omega), HF.out.agree.block k (by omega) (fun h => by rcases h with h | h; omega; exact hne h.symm), hb.block k hk']
    · rcases hor with h | ⟨g, h, hg⟩
      · exact .inl h
      · exact .inr ⟨g, h, by rw [HNE.out]; omega⟩
    · have := b1.lt
      rw [World.putObj_size]; omega
  case stop =>
    rintro D c pre M' W hp h
    exact h.elim
theorem textRuns_any (s : BitVec 256) (v : Value) (n base : Nat) (xs : List Value) (w : World) (hv : OwnU w base v n xs) (hn : n ≤ 1000000000000) (hG : 0 < base) (hbase : base ≤ w.heap.size) (hT : TabAt w) :
    Calls Tryz.prog 101 #[v, SV s] w fun e w' => ∃ V, e = .returned V ∧ AW w base v n xs (runsW (runsOf s)) V w' := callsIn_wide.1 (textRuns_in s v n base xs w hv hn hG hbase hT)
end Go.Proofs.YtdbdjjjmomociaaGreatDoor
