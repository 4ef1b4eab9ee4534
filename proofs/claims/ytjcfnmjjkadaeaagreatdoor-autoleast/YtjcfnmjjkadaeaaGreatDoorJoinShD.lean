/- Texts of this claim put together: Open, Open2, ShA, ShB, ShC, MathWf, ShD. -/
import Derived.Test.YtjcfnmjjkadaeaaGreatDoorRows
import Derived.Test.YtjcfnmjjkadaeaaGreatDoorJoinSetG
import Derived.Test.YtjcfnmjjkadaeaaGreatDoorJoinReB
import Derived.ProofKit
import Derived.LaidMore
import Derived.OpenShut
import Derived.Stop.Joined
import Derived.Lib.LaidTab
import Derived.Deep.Slices
import Derived.Test.YtjcfnmjjkadaeaaGreatDoorJoinReO
/- A set that came in, opened; the table of math/bits, out of the row's condition. -/
namespace Go.Proofs.YtjcfnmjjkadaeaaGreatDoor
set_option maxRecDepth 100000
open Go.ChangeShapes Go.WideShapes Go.ChangeAt Go.WideMaps Go.WideElems Go.RowKit

/-- A set as data. -/
def SD {H : Type} (s : BitVec 256) : DataW H := .agg [.lit (.int .u64 (wd s 0)), .lit (.int .u64 (wd s 1)), .lit (.int .u64 (wd s 2)), .lit (.int .u64 (wd s 3))]

theorem own : ownKnob Tryz.prog.godebug = none := by kernel_rfl
theorem cellsB : Tryz.prog.cellsOf 5 = 1 := by kernel_rfl

theorem laidOut : laidOutB Tryz.prog = true := by kernel_rfl
theorem gTab : Tryz.prog.globalNamed "math/bits.deBruijn64tab" = some 0 := by kernel_rfl
theorem tTab : (Tryz.prog.globals[0]?).map (·.type) = some 217 := by kernel_rfl
theorem cells64 : Tryz.prog.cellsOf 217 = 64 := by kernel_rfl
theorem laidTab : (Rows.laid_math_bits_deBruijn64tab : DataW Unit) = Lib.tabData .u8 (Lib.deBruijn64tab.map fun n : Nat => (n : Int)) := by kernel_rfl

theorem tab_of_laid {W : World} (h : laidMetH Tryz.prog [("math/bits.deBruijn64tab", Rows.laid_math_bits_deBruijn64tab)] W) : TabAt W := by
  rw [MakeChecks.laidMetH_plain _ _ _ (by kernel_rfl), laidTab] at h
  have hT := Lib.tabIs_of_head gTab tTab Tryz.underlying217 Tryz.underlying5 cellsB cells64 h
  intro j hj
  have := hT.cell gTab j (by simpa [Lib.deBruijn64tab] using hj)
  rw [this]
  have e : ((Lib.deBruijn64tab.map fun n : Nat => (n : Int)).getD j 0) = ((Lib.deBruijn64tab.getD j 0 : Nat) : Int) := by
    rw [List.getD_eq_getElem?_getD, List.getD_eq_getElem?_getD, List.getElem?_map]
    cases Lib.deBruijn64tab[j]? <;> rfl
  rw [e]

theorem door_met (os : Os) (args : Array Value) : laidMetH Tryz.prog [("math/bits.deBruijn64tab", Rows.laid_math_bits_deBruijn64tab)] ((World.doorLaid Tryz.prog 400 os).forCall (fun _ _ => 0) ⟨#[], args, []⟩).memory :=
  laidMetH_of_parts3 (fuel := 8) (laidMet_of_run' 8 (by kernel_rfl) (by kernel_rfl)) (by kernel_rfl) (by kernel_rfl)
end Go.Proofs.YtjcfnmjjkadaeaaGreatDoor
/- A slice of sets that came in. -/
namespace Go.Proofs.YtjcfnmjjkadaeaaGreatDoor
set_option maxRecDepth 100000
open Go.ChangeShapes Go.WideShapes Go.ChangeAt Go.WideMaps Go.WideElems Go.RowKit

end Go.Proofs.YtjcfnmjjkadaeaaGreatDoor
/- The statements' shapes: trees that came in. -/
namespace Go.Proofs.YtjcfnmjjkadaeaaGreatDoor
set_option maxRecDepth 100000
set_option linter.unusedSimpArgs false
set_option linter.unusedVariables false
open Go.RowKit

inductive SHP : Type where
  | mk (op : Int) (lo hi : Nat) (text : ByteArray) (kids : List SHP) : SHP
def SHP.op : SHP → Int | .mk o _ _ _ _ => o
def SHP.lo : SHP → Nat | .mk _ l _ _ _ => l
def SHP.hi : SHP → Nat | .mk _ _ h _ _ => h
def SHP.text : SHP → ByteArray | .mk _ _ _ t _ => t
def SHP.kids : SHP → List SHP | .mk _ _ _ _ ks => ks
theorem SHP.ind {P : SHP → Prop} (h : ∀ o l u t ks, (∀ k ∈ ks, P k) → P (.mk o l u t ks)) (s : SHP) : P s := by
  cases s with
  | mk o l u t ks => exact h o l u t ks fun k hk => SHP.ind h k
termination_by SizeOf.sizeOf s
decreasing_by
  have := List.sizeOf_lt_of_mem hk
  simp; omega

/-- The elements of a slice of shapes, five cells each. -/
def ShRow (w : World) (v : Value) (n : Nat) (cells : Nat → List Value) : Prop :=
  (n ≤ 9223372036854775807 ∧ capOk v) ∧ ∃ a cap, v = .slice a n cap ∧ ∀ k, k < n → (cells k).length = 5 ∧ ∃ b off, a = some ⟨b, off, none⟩ ∧ b < w.heap.size ∧ ∀ j u, (cells k)[j]? = some u → w.cell? ⟨b, off + k * 5 + j, none⟩ = some u
theorem ShRow.keep {w w' : World} {v : Value} {n : Nat} {cells : Nat → List Value} (h : ShRow w v n cells) (hb : Below w.heap.size w w') : ShRow w' v n cells := by
  obtain ⟨h0, a, cap, rfl, h1⟩ := h
  refine ⟨h0, a, cap, rfl, fun k hk => ?_⟩
  obtain ⟨h2, b, off, e, hlt, hc⟩ := h1 k hk
  exact ⟨h2, b, off, e, Nat.lt_of_lt_of_le hlt hb.size, fun j u hu => (World.cell?_of_block (w := w) (hb.block b hlt)).trans (hc j u hu)⟩
inductive ShC (w : World) : List Value → SHP → Prop where
  | mk (o : Int) (l u : Nat) (t : ByteArray) (ks : List SHP) (v : Value) (cells : Nat → List Value) (ho : -9223372036854775808 ≤ o ∧ o ≤ 9223372036854775807) (hl : l < 256) (hu : u < 256) (ht : t.size ≤ 9223372036854775807)
      (hrow : ShRow w v ks.length cells) (hk : ∀ i k, ks[i]? = some k → ShC w (cells i) k) : ShC w [.int .i64 o, .int .u8 l, .int .u8 u, .string t, v] (.mk o l u t ks)
theorem ShC.keep {w w' : World} {cs : List Value} {s : SHP} (h : ShC w cs s) (hb : Below w.heap.size w w') : ShC w' cs s := by
  induction h with
  | mk o l u t ks v cells ho hl hu ht hrow hk ih => exact .mk o l u t ks v cells ho hl hu ht (hrow.keep hb) ih
/-- A slice of shapes. -/
def ShsRow (w : World) (v : Value) (ks : List SHP) : Prop := ∃ cells, ShRow w v ks.length cells ∧ ∀ i k, ks[i]? = some k → ShC w (cells i) k
theorem ShsRow.keep {w w' : World} {v : Value} {ks : List SHP} (h : ShsRow w v ks) (hb : Below w.heap.size w w') : ShsRow w' v ks := by
  obtain ⟨cells, h1, h2⟩ := h
  exact ⟨cells, h1.keep hb, fun i k hk => (h2 i k hk).keep hb⟩
theorem ShC.open {w : World} {cs : List Value} {s : SHP} (h : ShC w cs s) : ∃ v, cs = [.int .i64 s.op, .int .u8 s.lo, .int .u8 s.hi, .string s.text, v] ∧ ShsRow w v s.kids ∧ (-9223372036854775808 ≤ s.op ∧ s.op ≤ 9223372036854775807) ∧ s.lo < 256 ∧ s.hi < 256 ∧ s.text.size ≤ 9223372036854775807 := by
  cases h with
  | mk o l u t ks v cells ho hl hu ht hrow hk => exact ⟨v, rfl, ⟨cells, hrow, hk⟩, ho, hl, hu, ht⟩
/-- One element of a slice. -/
theorem ShsRow.at {w : World} {v : Value} {ks : List SHP} (h : ShsRow w v ks) : ks.length ≤ 9223372036854775807 ∧ ∃ a cap, v = .slice a ks.length cap ∧ ∀ k (hk : k < ks.length), ∃ b off kv, a = some ⟨b, off, none⟩ ∧ b < w.heap.size ∧
    (w.cell? ⟨b, off + k * 5, none⟩ = some (.int .i64 ks[k].op) ∧ w.cell? ⟨b, off + k * 5 + 1, none⟩ = some (.int .u8 ks[k].lo) ∧ w.cell? ⟨b, off + k * 5 + 2, none⟩ = some (.int .u8 ks[k].hi) ∧ w.cell? ⟨b, off + k * 5 + 3, none⟩ = some (.string ks[k].text) ∧ w.cell? ⟨b, off + k * 5 + 4, none⟩ = some kv) ∧
    ShC w [.int .i64 ks[k].op, .int .u8 ks[k].lo, .int .u8 ks[k].hi, .string ks[k].text, kv] ks[k] := by
  obtain ⟨cells, ⟨h0, a, cap, rfl, h1⟩, h2⟩ := h
  refine ⟨h0.1, a, cap, rfl, fun k hk => ?_⟩
  obtain ⟨h3, b, off, e, hlt, hc⟩ := h1 k hk
  have h4 := h2 k _ (List.getElem?_eq_getElem hk)
  obtain ⟨kv, e5, -⟩ := h4.open
  refine ⟨b, off, kv, e, hlt, ⟨?_, ?_, ?_, ?_, ?_⟩, by rw [← e5]; exact h4⟩
  · have := hc 0 _ (by rw [e5]; rfl); simpa using this
  · exact hc 1 _ (by rw [e5]; rfl)
  · exact hc 2 _ (by rw [e5]; rfl)
  · exact hc 3 _ (by rw [e5]; rfl)
  · exact hc 4 _ (by rw [e5]; rfl)

theorem ShsRow.cap {w : World} {v : Value} {ks : List SHP} (h : ShsRow w v ks) : capOk v := by
  obtain ⟨cells, ⟨h0, -⟩, -⟩ := h
  exact h0.2

section
open Go.ChangeShapes Go.WideShapes Go.ChangeAt Go.WideMaps Go.WideElems
theorem cells5 : Tryz.prog.cellsOf 24 = 5 := by kernel_rfl
theorem cellsI : Tryz.prog.cellsOf 3 = 1 := by kernel_rfl
theorem cellsU : Tryz.prog.cellsOf 5 = 1 := by kernel_rfl
theorem cellsT : Tryz.prog.cellsOf 9 = 1 := by kernel_rfl
theorem cellsK : Tryz.prog.cellsOf 22 = 1 := by kernel_rfl
/-- Slices of shapes, where what one element reads as is known. -/
theorem open_shapesF {H : Type} {enc : TypeId × Value → H} {w : World} {base : Nat} {sp : Nat → Bool} {held : Bool} {fuel : Nat} {v : Value} {x : DataW H × List MemPlace}
    (ih : ∀ n, n < fuel → ∀ cs y, DataW.trod enc Tryz.prog w base sp held n 24 cs = some y → ∃ s, ShC w cs s)
    (h : DataW.trod enc Tryz.prog w base sp held fuel 22 [v] = some x) : ∃ ks, ShsRow w v ks := by
  rcases DataW.trod_slice Tryz.underlying22 h with ⟨hcs, -⟩ | ⟨a, len, cap, elems, rest, n, rfl, hcs, -, hb, hl, hm, hlen, hel, -, -⟩
  · simp at hcs
    subst hcs
    exact ⟨[], fun _ => [], ⟨⟨by simp, .mk (by omega)⟩, none, 0, rfl, fun k hk => by simp at hk⟩, fun i k hk => by simp at hk⟩
  · simp at hcs
    subst hcs
    have key : ∀ i, ∃ (cs : List Value) (s : SHP), i < len → w.cells? base (a.add (i * 5)) 5 = some cs ∧ ShC w cs s := fun i => by
      by_cases hi : i < len
      · have h1 := hel i hi
        rw [cells5, List.getElem?_eq_getElem (by omega)] at h1
        obtain ⟨cs, h2, h3⟩ := Option.bind_eq_some_iff.1 h1
        obtain ⟨s, hs⟩ := ih n (by omega) cs _ h3
        exact ⟨cs, s, fun _ => ⟨h2, hs⟩⟩
      · exact ⟨[], .mk 0 0 0 .empty [], fun h => absurd h hi⟩
    obtain ⟨f, hf⟩ : ∃ f : Nat → List Value, ∀ i, ∃ s : SHP, i < len → w.cells? base (a.add (i * 5)) 5 = some (f i) ∧ ShC w (f i) s := ⟨fun i => Classical.choose (key i), fun i => Classical.choose_spec (key i)⟩
    obtain ⟨g, hg⟩ : ∃ g : Nat → SHP, ∀ i, i < len → w.cells? base (a.add (i * 5)) 5 = some (f i) ∧ ShC w (f i) (g i) := ⟨fun i => Classical.choose (hf i), fun i => Classical.choose_spec (hf i)⟩
    refine ⟨(List.range len).map g, f, ⟨⟨by simp; unfold maxLen at hm; omega, .mk hl⟩, some a, cap, by simp, fun k hk => ?_⟩, fun i k hk => ?_⟩
    · have hk' : k < len := by simpa using hk
      obtain ⟨h1, -⟩ := hg k hk'
      obtain ⟨h2, h3, h4⟩ := World.cells?_some h1
      obtain ⟨b, off, spot⟩ := a
      have hspot : spot = none := by
        have h0 := (hg 0 (by omega)).1
        obtain ⟨-, h3', h4'⟩ := World.cells?_some h0
        have q := h4' 0 (by omega)
        rw [List.getElem?_eq_getElem (by omega)] at q
        have := World.cell?_spot q
        simpa [Addr.add] using this
      subst hspot
      have hadd : ∀ j, ((⟨b, off, none⟩ : Addr).add (k * 5)).add j = ⟨b, off + k * 5 + j, none⟩ := fun j => by rw [Go.WideShapes.add_plain, Go.WideShapes.add_plain]
      refine ⟨h3, b, off, rfl, ?_, fun j u hu => ?_⟩
      · have h0 := h4 0 (by omega)
        rw [hadd] at h0
        cases e : w.cell? ⟨b, off + k * 5 + 0, none⟩ with
        | none => rw [e] at h0; rw [List.getElem?_eq_getElem (by omega)] at h0; cases h0
        | some u => exact World.block_lt_of_cell? _ _ e
      · have hj : j < 5 := by have := (List.getElem?_eq_some_iff.1 hu).1; omega
        have h0 := h4 j hj
        rw [hadd, hu] at h0
        exact h0
    · have hi : i < len := by have := (List.getElem?_eq_some_iff.1 hk).1; simpa using this
      rw [List.getElem?_map] at hk
      simp [hi] at hk
      rw [← hk]; exact (hg i hi).2
theorem open_shapeF {H : Type} {enc : TypeId × Value → H} {w : World} {base : Nat} {sp : Nat → Bool} {held : Bool} : ∀ (fuel : Nat) (cs : List Value) (x : DataW H × List MemPlace),
    DataW.trod enc Tryz.prog w base sp held fuel 24 cs = some x → ∃ s, ShC w cs s := by
  intro fuel
  induction fuel using Nat.strongRecOn with
  | _ fuel ih =>
    intro cs x h
    obtain ⟨xs, n, rfl, -, hl, hx, hf⟩ := DataW.trod_struct Tryz.underlying24 h
    rw [cells5] at hl
    have f0 : DataW.trod enc Tryz.prog w base sp held n 3 ((cs.drop 0).take (Tryz.prog.cellsOf 3)) = xs[0]? := hf 0 _ rfl
    have f1 : DataW.trod enc Tryz.prog w base sp held n 5 ((cs.drop 1).take (Tryz.prog.cellsOf 5)) = xs[1]? := hf 1 _ rfl
    have f2 : DataW.trod enc Tryz.prog w base sp held n 5 ((cs.drop 2).take (Tryz.prog.cellsOf 5)) = xs[2]? := hf 2 _ rfl
    have f3 : DataW.trod enc Tryz.prog w base sp held n 9 ((cs.drop 3).take (Tryz.prog.cellsOf 9)) = xs[3]? := hf 3 _ rfl
    have f4 : DataW.trod enc Tryz.prog w base sp held n 22 ((cs.drop 4).take (Tryz.prog.cellsOf 22)) = xs[4]? := hf 4 _ rfl
    rw [cellsI] at f0
    rw [cellsU] at f1 f2
    rw [cellsT] at f3
    rw [cellsK] at f4
    have hx5 : xs.length = 5 := hx
    match cs, hl, xs, hx5 with
    | [c0, c1, c2, c3, c4], _, [y0, y1, y2, y3, y4], _ =>
      simp only [List.drop_zero, List.drop_succ_cons, List.take_succ_cons, List.take_zero, List.getElem?_cons_zero, List.getElem?_cons_succ] at f0 f1 f2 f3 f4
      obtain ⟨o, e0, -, w0⟩ := DataW.trod_int Tryz.underlying3 f0
      obtain ⟨l, e1, -, w1⟩ := DataW.trod_int Tryz.underlying5 f1
      obtain ⟨u, e2, -, w2⟩ := DataW.trod_int Tryz.underlying5 f2
      simp at e0 e1 e2
      subst e0 e1 e2
      obtain ⟨t, e3, ht⟩ : ∃ t : ByteArray, c3 = .string t ∧ t.size ≤ maxLen := by
        cases n with
        | zero => simp [DataW.trod] at f3
        | succ m =>
          unfold DataW.trod at f3
          rw [Tryz.underlying9] at f3
          split at f3 <;> simp_all
      subst e3
      obtain ⟨ks, hks⟩ := open_shapesF (fun m hm => ih m (by omega)) f4
      obtain ⟨cells, hr, hk⟩ := hks
      have b0 := bounds_i64 w0; have b1 := bounds_u8 w1; have b2 := bounds_u8 w2
      obtain ⟨l, rfl⟩ := Int.eq_ofNat_of_zero_le b1.1
      obtain ⟨u, rfl⟩ := Int.eq_ofNat_of_zero_le b2.1
      exact ⟨.mk o l u t ks, .mk o l u t ks c4 cells (by omega) (by omega) (by omega) (by unfold maxLen at ht; omega) hr hk⟩
end
end Go.Proofs.YtjcfnmjjkadaeaaGreatDoor
/- Shapes: Count, Few, op, low. -/
namespace Go.Proofs.YtjcfnmjjkadaeaaGreatDoor
set_option maxRecDepth 100000
set_option linter.unusedSimpArgs false
set_option linter.unusedVariables false
open Go.RowKit

/-- How many parts. -/
def SHP.nodes : SHP → Nat
  | .mk _ _ _ _ ks => 1 + (ks.map fun k => k.nodes).sum
theorem SHP.nodes_mk (o : Int) (l u : Nat) (t : ByteArray) (ks : List SHP) : (SHP.mk o l u t ks).nodes = 1 + (ks.map SHP.nodes).sum := by rw [SHP.nodes]
/-- Short texts alone. -/
inductive Tx : SHP → Prop where
  | mk (o : Int) (l u : Nat) (t : ByteArray) (ks : List SHP) (ht : t.size ≤ 20) (hk : ∀ k ∈ ks, Tx k) : Tx (.mk o l u t ks)
/-- A shape as a value. -/
def ShVal (cs : List Value) : Value := .agg cs.toArray

set_option maxHeartbeats 1000000 in
theorem count_any (s : SHP) : ∀ (cs : List Value) (d : Nat) (w : World), ShC w cs s → d ≤ 13 →
    Calls Tryz.prog 20 #[ShVal cs, .int .i64 d] w fun e w' => ∃ c : Nat, e = .returned (.int .i64 c) ∧ (1 ≤ c ∧ c ≤ 1000 * (14 - d)) ∧ (c ≤ 30 → Tx s ∧ c = s.nodes) ∧ Below w.heap.size w w' := by
  refine SHP.ind (P := fun s => ∀ (cs : List Value) (d : Nat) (w : World), ShC w cs s → d ≤ 13 →
    Calls Tryz.prog 20 #[ShVal cs, .int .i64 d] w fun e w' => ∃ c : Nat, e = .returned (.int .i64 c) ∧ (1 ≤ c ∧ c ≤ 1000 * (14 - d)) ∧ (c ≤ 30 → Tx s ∧ c = s.nodes) ∧ Below w.heap.size w w') ?_ s
  intro o l u t ks ih cs d w h hd
  obtain ⟨v, rfl, hrow, ho, hlo, hhi, htx⟩ := h.open
  simp only [SHP.op, SHP.lo, SHP.hi, SHP.text, SHP.kids] at hrow ho hlo hhi htx ⊢
  obtain ⟨hn, a, cap, rfl, -⟩ := hrow.at
  have HR := hide hrow
  clear h hrow
  unfold ShVal
  by_cases hd12 : 12 < d
  · have hdd : decide ((12 : Int) < d) = true := by simp; omega
    have hdd2 : decide (12 < d) = true := by simp [hd12]
    go_enter Tryz.func20, Tryz.ntmps20
    go_wp2
    go_ret
    exact ⟨1000, rfl, ⟨by omega, by omega⟩, fun h => by omega, (Below.refl _ _).alloc (Nat.le_refl _) _⟩
  · have hdd : decide ((12 : Int) < d) = false := by simp; omega
    have hdd2 : decide (12 < d) = false := by simp; omega
    by_cases ht20 : 20 < t.size
    · have htt : decide ((20 : Int) < t.size) = true := by simp; omega
      have htt2 : decide (20 < t.size) = true := by simp [ht20]
      go_enter Tryz.func20, Tryz.ntmps20
      go_wp2
      go_ret
      exact ⟨1000, rfl, ⟨by omega, by omega⟩, fun h => by omega, (Below.refl _ _).alloc (Nat.le_refl _) _⟩
    · have htt : decide ((20 : Int) < t.size) = false := by simp; omega
      have htt2 : decide (20 < t.size) = false := by simp; omega
      go_enter Tryz.func20, Tryz.ntmps20
      go_wp2
      obtain ⟨B, hB⟩ : ∃ B, B = w.heap.size := ⟨_, rfl⟩
      rw [← hB]
      have HB := hide hB
      have hW0 : Below B w (w.alloc (.cells #[.int .i64 o, .int .u8 l, .int .u8 u, .string t, .slice a ks.length cap] 24)) := (Below.refl _ _).alloc (Nat.le_of_eq hB) _
      clear hB
      go_loopw [5, 19] (fun q c wr => ∃ (k n : Nat), k ≤ ks.length ∧ c = .int .i64 k ∧ q = .int .i64 n ∧ 1 ≤ n ∧ n ≤ 1000 ∧ Hid (n ≤ 30 → (∀ x ∈ ks.take k, Tx x) ∧ n = 1 + ((ks.take k).map SHP.nodes).sum) ∧ Hid (Below B w wr)) (fun _ c _ => ks.length - (intOf c).toNat)
      case atStart => exact ⟨0, 1, by omega, rfl, rfl, by omega, by omega, (fun _ => ⟨fun x hx => by simp at hx, rfl⟩), hW0⟩
      case round =>
        clear hW0
        obtain ⟨k, n, hk, rfl, rfl, hn1, hn2, HI, HW⟩ := hrel
        obtain ⟨-, a', cap', e1, g1⟩ := (HR.out.keep (show Below w.heap.size w wr from HB.out ▸ HW.out)).at
        obtain ⟨rfl, rfl⟩ : a = a' ∧ cap = cap' := by cases e1; exact ⟨rfl, rfl⟩
        clear e1
        by_cases hlt : k < ks.length
        · have hkd : decide (k < ks.length) = true := by simp [hlt]
          obtain ⟨b, off, kv, rfl, -, ⟨c0, c1, c2, c3, c4⟩, hC⟩ := g1 k hlt
          have hrec := ih _ (List.getElem_mem hlt) _ (d + 1) _ (hC.keep ((Below.refl wr.heap.size wr).alloc (Nat.le_refl _) (.cells #[.int .i64 ks[k].op, .int .u8 ks[k].lo, .int .u8 ks[k].hi, .string ks[k].text, kv] 24))) (by omega)
          have HT := hide (show ks.take (k + 1) = ks.take k ++ [ks[k]] from List.take_succ_eq_append_getElem hlt)
          have hBW : B ≤ wr.heap.size := by rw [HB.out]; exact HW.out.size
          obtain ⟨-, kf, kcap, hkv, -⟩ : True ∧ ∃ a c, kv = .slice a (ks[k]).kids.length c ∧ True := by
            obtain ⟨v', e', hr', -⟩ := hC.open
            obtain ⟨-, a', c', e'', -⟩ := hr'.at
            have : kv = v' := by simpa using e'
            exact ⟨trivial, a', c', this.trans e'', trivial⟩
          have HREC := hide hrec
          subst hkv
          generalize hks : ks[k] = sk at *
          clear hrec hC g1
          unfold ShVal at HREC
          go_wp2_with fail
          refine HREC.out.mono ?_
          rintro e w2 ⟨c, rfl, ⟨hc1, hc2⟩, hc3, hb2⟩
          have HC3 := hide hc3
          have HW2 := hide ((HW.out.alloc hBW (.cells #[.int .i64 sk.op, .int .u8 sk.lo, .int .u8 sk.hi, .string sk.text, .slice kf sk.kids.length kcap] 24)).trans (hb2.mono (by simp; omega)))
          have hcb : c ≤ 14000 := by omega
          clear hc3 hb2 HREC c0 c1 c2 c3 c4
          by_cases hbig : 1000 < n + c
          · have hbd : decide ((1000 : Int) < (n : Int) + c) = true := by simp; omega
            go_wp2
            go_ret
            refine ⟨n + c, ?_, ⟨by omega, by omega⟩, fun h => by omega, by rw [← HB.out]; exact HW2.out⟩
            congr 2
          · have hbd : decide ((1000 : Int) < (n : Int) + c) = false := by simp; omega
            go_wp2
            refine ⟨⟨k + 1, n + c, by omega, by go_num, by go_num, by omega, by omega, ?_, HW2⟩, by simp [intOf]; omega⟩
            intro h30
            obtain ⟨i1, i2⟩ := HI.out (by omega)
            obtain ⟨j1, j2⟩ := HC3.out (by omega)
            rw [HT.out]
            refine ⟨fun x hx => ?_, ?_⟩
            · rcases List.mem_append.1 hx with hx | hx
              · exact i1 x hx
              · simp at hx; subst hx; exact j1
            · rw [List.map_append, List.sum_append, i2, j2]; simp; omega
        · obtain rfl : k = ks.length := by omega
          rw [List.take_length] at HI
          clear g1
          go_wp2
          go_ret
          refine ⟨n, rfl, ⟨hn1, by omega⟩, fun h => ?_, by rw [← HB.out]; exact HW.out⟩
          obtain ⟨i1, i2⟩ := HI.out h
          exact ⟨.mk _ _ _ _ _ (by omega) i1, by rw [SHP.nodes_mk]; exact i2⟩
end Go.Proofs.YtjcfnmjjkadaeaaGreatDoor
/- Shapes: Few, op, low. -/
namespace Go.Proofs.YtjcfnmjjkadaeaaGreatDoor
set_option maxRecDepth 100000
set_option linter.unusedSimpArgs false
set_option linter.unusedVariables false
open Go.RowKit

/-- Which one. -/
def SHP.k (s : SHP) : Nat := (s.op % 18446744073709551616).toNat % 9
theorem op_any (s : SHP) (cs : List Value) (w : World) (h : ShC w cs s) :
    Calls Tryz.prog 46 #[ShVal cs] w fun e w' => e = .returned (.int .i64 s.k) ∧ Below w.heap.size w w' := by
  obtain ⟨v, rfl, hr, ho, -⟩ := h.open
  obtain ⟨-, a, cap, rfl, -⟩ := hr.at
  clear h hr
  have e1 : IntKind.u64.wrap s.op = s.op % 18446744073709551616 := by simp [IntKind.wrap, IntKind.signed, IntKind.bits]
  obtain ⟨m, hm⟩ : ∃ m : Nat, s.op % 18446744073709551616 = (m : Int) := ⟨(s.op % 18446744073709551616).toNat, by omega⟩
  have hk : s.k = m % 9 := by unfold SHP.k; rw [hm]; simp
  rw [hm] at e1
  have hm2 : (m : Int) < 18446744073709551616 := by omega
  unfold ShVal
  go_enter Tryz.func46, Tryz.ntmps46
  go_wp2
  go_ret
  refine ⟨?_, (Below.refl _ _).alloc (Nat.le_refl _) _⟩
  show Ending.returned (.int .i64 ((m : Int) % 9)) = _
  rw [hk]; rfl

theorem u8_and3 (n : Nat) (h : n < 256) : bits .and .u8 (n : Int) 3 = ((n % 4 : Nat) : Int) := by
  have key : ∀ m : Nat, m < 256 → bits .and .u8 (m : Int) 3 = ((m % 4 : Nat) : Int) := by decide +kernel
  exact key n h
theorem x_fieldS (ρ : Operand → Value) (d : Option Tmp) (x : Operand) (t : TypeId) (pos : String) (af : Array Edge) (g : Option (Nat × Bool)) (b : Nat) (hx : ρ x = PT b) (w : World) :
    (execOp ρ { dst := d, op := .fieldAddr 24 x 1, type := t, pos := pos, after := af, guard := g }).run Tryz.prog w = .ok (.value (.pointer (some ⟨b, 1, none⟩))) w ∧
    (execOp ρ { dst := d, op := .fieldAddr 24 x 2, type := t, pos := pos, after := af, guard := g }).run Tryz.prog w = .ok (.value (.pointer (some ⟨b, 2, none⟩))) w := by
  constructor <;> simp [go_sem, hx, PT]
theorem x_loadB (ρ : Operand → Value) (d : Option Tmp) (x : Operand) (t : TypeId) (pos : String) (af : Array Edge) (g : Option (Nat × Bool)) (b n : Nat) (v : Int) (hx : ρ x = .pointer (some ⟨b, n, none⟩)) (w : World) (hc : w.cell? ⟨b, n, none⟩ = some (.int .u8 v)) :
    (execOp ρ { dst := d, op := .load 5 x, type := t, pos := pos, after := af, guard := g }).run Tryz.prog w = .ok (.value (.int .u8 v)) w := by
  simp [go_sem, hx, hc]
theorem x_and3 (ρ : Operand → Value) (d : Option Tmp) (x : Operand) (t : TypeId) (pos : String) (af : Array Edge) (g : Option (Nat × Bool)) (n : Nat) (hx : ρ x = .int .u8 n) (hy : ρ (.const (.int .u8 3)) = .int .u8 3) (h : n < 256) (w : World) :
    (execOp ρ { dst := d, op := .binOp .and 5 x (.const (.int .u8 3)) 5, type := t, pos := pos, after := af, guard := g }).run Tryz.prog w = .ok (.value (.int .u8 ((n % 4 : Nat) : Int))) w := by
  have e := u8_and3 n h
  simp [go_sem, hx, hy, e]
theorem x_add97 (ρ : Operand → Value) (d : Option Tmp) (x : Operand) (t : TypeId) (pos : String) (af : Array Edge) (g : Option (Nat × Bool)) (n : Nat) (hx : ρ x = .int .u8 n) (hy : ρ (.const (.int .u8 97)) = .int .u8 97) (h : n < 4) (w : World) :
    (execOp ρ { dst := d, op := .binOp .add 5 (.const (.int .u8 97)) x 5, type := t, pos := pos, after := af, guard := g }).run Tryz.prog w = .ok (.value (.int .u8 ((97 + n : Nat) : Int))) w := by
  have e : IntKind.u8.wrap (97 + (n : Int)) = ((97 + n : Nat) : Int) := by simp [IntKind.wrap, IntKind.signed, IntKind.bits]; omega
  simp [go_sem, hx, hy, e]
set_option maxHeartbeats 1000000 in
theorem low_any (s : SHP) (cs : List Value) (w : World) (h : ShC w cs s) :
    Calls Tryz.prog 48 #[ShVal cs] w fun e w' => e = .returned (.tuple #[.int .u8 ((97 + s.lo % 4 : Nat) : Int), .int .u8 ((97 + s.hi % 4 : Nat) : Int)]) ∧ Below w.heap.size w w' := by
  obtain ⟨v, rfl, hr, ho, hlo, hhi, -⟩ := h.open
  obtain ⟨-, a, cap, rfl, -⟩ := hr.at
  clear h hr
  obtain ⟨C, hCd⟩ : ∃ C : World → Prop, C = fun W => Below w.heap.size w W ∧ W.cell? ⟨w.heap.size, 1, none⟩ = some (.int .u8 s.lo) ∧ W.cell? ⟨w.heap.size, 2, none⟩ = some (.int .u8 s.hi) := ⟨_, rfl⟩
  have hC0 : C (w.alloc (.cells #[.int .i64 s.op, .int .u8 s.lo, .int .u8 s.hi, .string s.text, .slice a s.kids.length cap] 24)) := by
    rw [hCd]
    have hb := Blk.newAt (w := w) rfl #[.int .i64 s.op, .int .u8 s.lo, .int .u8 s.hi, .string s.text, .slice a s.kids.length cap] 24
    exact ⟨(Below.refl _ _).alloc (Nat.le_refl _) _, hb.cell 1, hb.cell 2⟩
  have hCb : ∀ W, C W → Below w.heap.size w W := fun W h => by rw [hCd] at h; exact h.1
  have hC1 : ∀ W, C W → W.cell? ⟨w.heap.size, 1, none⟩ = some (.int .u8 s.lo) := fun W h => by rw [hCd] at h; exact h.2.1
  have hC2 : ∀ W, C W → W.cell? ⟨w.heap.size, 2, none⟩ = some (.int .u8 s.hi) := fun W h => by rw [hCd] at h; exact h.2.2
  have hCd2 : ∀ W, C W → C { W with drawn := W.drawn + 1 } := fun W h => by
    rw [hCd] at h ⊢
    exact ⟨⟨h.1.os, h.1.tape, h.1.output, h.1.size, h.1.block⟩, h.2⟩
  clear hCd
  unfold ShVal
  go_enter Tryz.func48, Tryz.ntmps48
  go_wp2
  rw [show Value.pointer (some ⟨w.heap.size, 0, none⟩) = PT w.heap.size from rfl]
  refine w_lit (C := C) (by kernel_rfl) (by kernel_rfl) (hCd2 _ hC0) ?_
  refine w_value (.pointer (some ⟨w.heap.size, 1, none⟩)) (by kernel_rfl) (fun w hw => (x_fieldS _ _ _ _ _ _ _ _ rfl w).1) ?_
  simp only [Act.put, List.setIfInBounds_toArray, List.set_cons_succ, List.set_cons_zero]
  refine w_value (.int .u8 s.lo) (by kernel_rfl) (fun w hw => x_loadB _ _ _ _ _ _ _ _ _ _ rfl w (hC1 w hw)) ?_
  simp only [Act.put, List.setIfInBounds_toArray, List.set_cons_succ, List.set_cons_zero]
  refine w_value (.int .u8 ((s.lo % 4 : Nat) : Int)) (by kernel_rfl) (fun w hw => x_and3 _ _ _ _ _ _ _ s.lo rfl rfl hlo w) ?_
  simp only [Act.put, List.setIfInBounds_toArray, List.set_cons_succ, List.set_cons_zero]
  refine w_value (.int .u8 ((97 + s.lo % 4 : Nat) : Int)) (by kernel_rfl) (fun w hw => x_add97 _ _ _ _ _ _ _ (s.lo % 4) rfl rfl (by omega) w) ?_
  simp only [Act.put, List.setIfInBounds_toArray, List.set_cons_succ, List.set_cons_zero]
  refine w_value (.pointer (some ⟨w.heap.size, 2, none⟩)) (by kernel_rfl) (fun w hw => (x_fieldS _ _ _ _ _ _ _ _ rfl w).2) ?_
  simp only [Act.put, List.setIfInBounds_toArray, List.set_cons_succ, List.set_cons_zero]
  refine w_value (.int .u8 s.hi) (by kernel_rfl) (fun w hw => x_loadB _ _ _ _ _ _ _ _ _ _ rfl w (hC2 w hw)) ?_
  simp only [Act.put, List.setIfInBounds_toArray, List.set_cons_succ, List.set_cons_zero]
  refine w_value (.int .u8 ((s.hi % 4 : Nat) : Int)) (by kernel_rfl) (fun w hw => x_and3 _ _ _ _ _ _ _ s.hi rfl rfl hhi w) ?_
  simp only [Act.put, List.setIfInBounds_toArray, List.set_cons_succ, List.set_cons_zero]
  refine w_value (.int .u8 ((97 + s.hi % 4 : Nat) : Int)) (by kernel_rfl) (fun w hw => x_add97 _ _ _ _ _ _ _ (s.hi % 4) rfl rfl (by omega) w) ?_
  simp only [Act.put, List.setIfInBounds_toArray, List.set_cons_succ, List.set_cons_zero]
  refine w_value (.int .u8 ((97 + s.lo % 4 : Nat) : Int)) (by kernel_rfl) (fun w hw => x_assign _ _ _ _ _ _ _ _ rfl w) ?_
  simp only [Act.put, List.setIfInBounds_toArray, List.set_cons_succ, List.set_cons_zero]
  refine w_value (.int .u8 ((97 + s.hi % 4 : Nat) : Int)) (by kernel_rfl) (fun w hw => x_assign _ _ _ _ _ _ _ _ rfl w) ?_
  simp only [Act.put, List.setIfInBounds_toArray, List.set_cons_succ, List.set_cons_zero]
  refine w_nil ?_
  intro w1 hw1
  have HB := hide (hCb _ hw1)
  clear hC0 hCb hC1 hC2 hCd2 hw1
  go_wp2
  exact bodyPost_ret (v := .tuple #[.int .u8 ((97 + s.lo % 4 : Nat) : Int), .int .u8 ((97 + s.hi % 4 : Nat) : Int)]) (by simp [results, Tryz.results48, go_sem]) rfl ⟨rfl, HB.out⟩
end Go.Proofs.YtjcfnmjjkadaeaaGreatDoor
/- What the calls make is in the settled form, and not much greater than what went in. -/
namespace Go.Proofs.YtjcfnmjjkadaeaaGreatDoor
set_option maxRecDepth 100000
set_option linter.unusedSimpArgs false
set_option linter.unusedVariables false
open Go.RowKit

def RE.cnt : RE → Nat
  | .mk _ _ ks => 1 + (ks.map fun k => k.cnt).sum
def cntL (l : List RE) : Nat := (l.map RE.cnt).sum
theorem RE.cnt_mk (o : Nat) (s : BitVec 256) (ks : List RE) : (RE.mk o s ks).cnt = 1 + cntL ks := by rw [RE.cnt, cntL]
theorem RE.cnt_kids (r : RE) : r.cnt = 1 + cntL r.kids := by cases r; exact RE.cnt_mk _ _ _
theorem cntL_cons (x : RE) (l : List RE) : cntL (x :: l) = x.cnt + cntL l := by simp [cntL]
theorem cntL_append (a b : List RE) : cntL (a ++ b) = cntL a + cntL b := by simp [cntL]
theorem cntL_len (l : List RE) : l.length ≤ cntL l := by
  induction l with
  | nil => simp [cntL]
  | cons x l ih => rw [cntL_cons, RE.cnt_kids]; simp; omega
theorem cntL_flatMap (f : RE → List RE) (hf : ∀ r, cntL (f r) ≤ r.cnt) (l : List RE) : cntL (l.flatMap f) ≤ cntL l := by
  induction l with
  | nil => simp [cntL]
  | cons x l ih => rw [List.flatMap_cons, cntL_append, cntL_cons]; have := hf x; omega
theorem cntL_catL (l : List RE) : cntL (catL l) ≤ cntL l := cntL_flatMap _ (fun r => by
  have := r.cnt_kids
  unfold catK
  split
  · simp [cntL]
  · split
    · omega
    · rw [cntL_cons]; simp [cntL]) l
theorem cntL_flatL (o : Nat) (l : List RE) : cntL (flatL o l) ≤ cntL l := cntL_flatMap _ (fun r => by
  have := r.cnt_kids
  split
  · omega
  · rw [cntL_cons]; simp [cntL]) l
theorem cntL_filter (p : RE → Bool) (l : List RE) : cntL (l.filter p) ≤ cntL l := by
  induction l with
  | nil => simp
  | cons x l ih =>
    rw [List.filter_cons, cntL_cons]
    split
    · rw [cntL_cons]; omega
    · omega
theorem cntL_insK (x : RE) (l : List RE) : cntL (insK x l) ≤ x.cnt + cntL l := by
  induction l with
  | nil => simp [insK, cntL]
  | cons y l ih =>
    simp only [insK]
    split
    · simp only [cntL_cons]; omega
    · split
      · simp only [cntL_cons]; omega
      · simp only [cntL_cons]; omega
theorem cntL_ordL (l : List RE) : cntL (ordL l) ≤ cntL l := by
  induction l with
  | nil => simp [ordL]
  | cons x l ih =>
    have := cntL_insK x (ordL l)
    rw [cntL_cons]
    have e : ordL (x :: l) = insK x (ordL l) := rfl
    rw [e]; omega
theorem cnt_join (o : Nat) (l : List RE) : (rJoin o l).cnt ≤ 1 + cntL l := by
  unfold rJoin
  split
  · simp [cntL]
  · rw [RE.cnt_mk]; omega
theorem cnt_nothing : rNothing.cnt = 1 := by rw [RE.cnt_kids]; rfl
theorem cnt_empty : rEmpty.cnt = 1 := by rw [RE.cnt_kids]; rfl
theorem cnt_one (s : BitVec 256) : (rOne s).cnt = 1 := by rw [RE.cnt_kids, rOne_kids]; rfl
theorem cnt_then (l : List RE) : (rThen l).cnt ≤ 1 + cntL l := by
  unfold rThen
  split
  · rw [cnt_nothing]; omega
  · split
    · rw [cnt_empty]; omega
    · have h1 := cnt_join 3 (catL l); have h2 := cntL_catL l; omega
theorem cnt_any (l : List RE) : (rAny l).cnt ≤ 2 + cntL l := by
  unfold rAny
  simp only
  generalize hk : (orKeep (flatL 4 l) ++ if orSet (flatL 4 l) = 0#256 then [] else [rOne (orSet (flatL 4 l))]) = ks
  split
  · rw [cnt_nothing]; omega
  · have h1 := cnt_join 4 (ordL ks)
    have h2 := cntL_ordL ks
    have h3 := cntL_filter (fun r => !(r.op == 0) && !(r.op == 2)) (flatL 4 l)
    have h4 := cntL_flatL 4 l
    have h5 : cntL ks ≤ cntL (orKeep (flatL 4 l)) + 1 := by
      rw [← hk, cntL_append]
      split
      · simp [cntL]
      · simp [cntL, cnt_one]
    unfold orKeep at h5
    omega
theorem cnt_many (r : RE) : (rMany r).cnt ≤ 1 + r.cnt := by
  unfold rMany
  split
  · rw [cnt_empty]; omega
  · split
    · omega
    · rw [RE.cnt_mk]; simp [cntL]
theorem cnt_both (l : List RE) : (rBoth l).cnt ≤ 2 + cntL l := by
  unfold rBoth
  simp only
  split
  · rw [cnt_nothing]; omega
  · split
    · rw [cnt_nothing]; omega
    · generalize hk : (orKeep (flatL 6 l) ++ if met (flatL 6 l) = true then [rOne (andSet (flatL 6 l))] else []) = ks
      split
      · have := cnt_many (rOne allB); rw [cnt_one] at this; omega
      · have h1 := cnt_join 6 (ordL ks)
        have h2 := cntL_ordL ks
        have h3 := cntL_filter (fun r => !(r.op == 0) && !(r.op == 2)) (flatL 6 l)
        have h4 := cntL_flatL 6 l
        have h5 : cntL ks ≤ cntL (orKeep (flatL 6 l)) + 1 := by
          rw [← hk, cntL_append]
          split
          · simp [cntL, cnt_one]
          · simp [cntL]
        unfold orKeep at h5
        omega
theorem cnt_but (a b : RE) : (rBut a b).cnt ≤ 1 + a.cnt + b.cnt := by
  unfold rBut
  split
  · omega
  · split
    · rw [cnt_one]; omega
    · split
      · rw [cnt_nothing]; omega
      · rw [RE.cnt_mk]; simp [cntL]; omega
theorem cnt_word (t : List Nat) : (rWord t).cnt ≤ 1 + t.length := by
  have h := cnt_then (t.map rLetter)
  have key : ∀ t : List Nat, cntL (t.map rLetter) = t.length := fun t => by
    induction t with
    | nil => rfl
    | cons x t ih => rw [List.map_cons, cntL_cons, show (rLetter x).cnt = 1 from cnt_one _, ih, List.length_cons]; omega
  have := key t
  unfold rWord; omega

theorem wf_catL {l : List RE} (hw : ∀ r ∈ l, Wf r) (h0 : l.any (fun r => r.op == 0) = false) : ∀ k ∈ catL l, Wf k ∧ k.op ≠ 0 ∧ k.op ≠ 1 ∧ k.op ≠ 3 := by
  intro k hk
  obtain ⟨r, hr, hk⟩ := List.mem_flatMap.1 hk
  have hr0 : r.op ≠ 0 := fun e => by
    have := List.any_eq_false.1 h0 r hr
    simp [e] at this
  unfold catK at hk
  split at hk
  · simp at hk
  · split at hk
    · rename_i h3
      have h := ((hw r hr).shp.cat h3).2 k hk
      exact ⟨(hw r hr).kid k hk, h⟩
    · simp at hk; subst hk
      exact ⟨hw _ hr, hr0, by assumption, by assumption⟩
theorem wf_then {l : List RE} (hw : ∀ r ∈ l, Wf r) : Wf (rThen l) := by
  unfold rThen
  split
  · exact wf_nothing
  · rename_i h0
    have hc := wf_catL hw (by simpa using h0)
    split
    · exact wf_empty
    · rename_i hne
      by_cases h1 : (catL l).length = 1
      · match hl : catL l, h1 with
        | [x], _ => exact (hc x (by rw [hl]; simp)).1
      · rw [rJoin_more 3 _ h1]
        have h2 : 2 ≤ (catL l).length := by
          have := List.length_pos_iff.2 hne
          omega
        exact .mk _ _ _ (fun k hk => (hc k hk).1) ⟨by omega, fun _ => rfl, by omega, by omega, fun _ => ⟨h2, fun k hk => (hc k hk).2⟩, by omega, by omega, by omega⟩
/-- The heart of Any and Both. -/
theorem wf_ord {o : Nat} (ho : o = 4 ∨ o = 6) {ks : List RE} {c : BitVec 256} (hw : ∀ k ∈ ks, Wf k ∧ k.op ≠ 0 ∧ k.op ≠ o ∧ (k.op = 2 → k = rOne c)) (hne : ks ≠ []) : Wf (rJoin o (ordL ks)) := by
  obtain ⟨h1, h2⟩ := ordL_spec ks (fun y hy => (hw y hy).1.k)
  have hw' : ∀ k ∈ ordL ks, Wf k ∧ k.op ≠ 0 ∧ k.op ≠ o ∧ (k.op = 2 → k = rOne c) := fun k hk => hw k ((h2 k).1 hk)
  have hne' : ordL ks ≠ [] := fun e => by
    obtain ⟨x, hx⟩ := List.exists_mem_of_ne_nil ks hne
    have := (h2 x).2 hx
    rw [e] at this; simp at this
  by_cases hl : (ordL ks).length = 1
  · match hk : ordL ks, hl with
    | [x], _ => exact (hw' x (by rw [hk]; simp)).1
  · rw [rJoin_more o _ hl]
    have hl2 : 2 ≤ (ordL ks).length := by
      have := List.length_pos_iff.2 hne'
      omega
    have hcl : ((ordL ks).filter fun k => k.op == 2).length ≤ 1 := by
      have hp := h1.filter (fun k => k.op == 2)
      match hf : (ordL ks).filter (fun k => k.op == 2) with
      | [] => rw [hf]; simp
      | [x] => rw [hf]; simp
      | x :: y :: r =>
        exfalso
        rw [hf] at hp
        have hxy := (List.pairwise_cons.1 hp).1 y (by simp)
        have hx : x ∈ (ordL ks).filter (fun k => k.op == 2) := by rw [hf]; simp
        have hy : y ∈ (ordL ks).filter (fun k => k.op == 2) := by rw [hf]; simp
        have ex := (hw' x (List.mem_filter.1 hx).1).2.2.2 (by simpa using (List.mem_filter.1 hx).2)
        have ey := (hw' y (List.mem_filter.1 hy).1).2.2.2 (by simpa using (List.mem_filter.1 hy).2)
        rw [ex, ey] at hxy
        exact ltK_irrefl hxy
    exact .mk _ _ _ (fun k hk => (hw' k hk).1) ⟨by omega, fun _ => rfl, by omega, by omega, by omega, fun _ => ⟨hl2, fun k hk => ⟨(hw' k hk).2.1, (hw' k hk).2.2.1⟩, h1, hcl⟩, by omega, by omega⟩
theorem wf_flatL {o : Nat} (ho : o = 4 ∨ o = 6) {l : List RE} (hw : ∀ r ∈ l, Wf r) : ∀ k ∈ flatL o l, Wf k ∧ k.op ≠ o := by
  intro k hk
  obtain ⟨r, hr, hk⟩ := List.mem_flatMap.1 hk
  split at hk
  · rename_i h3
    have h := ((hw r hr).shp.or (by omega)).2.1 k hk
    exact ⟨(hw r hr).kid k hk, by rw [h3] at h; exact h.2⟩
  · simp at hk; subst hk
    exact ⟨hw _ hr, by assumption⟩
theorem one_op (c : BitVec 256) (h : c ≠ 0#256) : (rOne c).op = 2 := by unfold rOne; rw [if_neg h]; rfl
theorem wf_keepL {o : Nat} (ho : o = 4 ∨ o = 6) {l : List RE} (hw : ∀ r ∈ l, Wf r) (c : BitVec 256) : ∀ k ∈ orKeep (flatL o l), Wf k ∧ k.op ≠ 0 ∧ k.op ≠ o ∧ (k.op = 2 → k = rOne c) := by
  intro k hk
  obtain ⟨h1, h2⟩ := List.mem_filter.1 hk
  obtain ⟨h3, h4⟩ := wf_flatL ho hw k h1
  simp at h2
  exact ⟨h3, h2.1, h4, fun e => absurd e h2.2⟩
theorem wf_any {l : List RE} (hw : ∀ r ∈ l, Wf r) : Wf (rAny l) := by
  unfold rAny
  simp only
  generalize hks : (orKeep (flatL 4 l) ++ if orSet (flatL 4 l) = 0#256 then [] else [rOne (orSet (flatL 4 l))]) = ks
  split
  · exact wf_nothing
  · rename_i hne
    refine wf_ord (.inl rfl) (c := orSet (flatL 4 l)) (fun k hk => ?_) hne
    rw [← hks] at hk
    rcases List.mem_append.1 hk with hk | hk
    · exact wf_keepL (.inl rfl) hw _ k hk
    · split at hk
      · simp at hk
      · rename_i hc
        simp at hk; subst hk
        have := one_op _ hc
        exact ⟨wf_one _, by omega, by omega, fun _ => rfl⟩
theorem wf_many {r : RE} (hw : Wf r) : Wf (rMany r) := by
  unfold rMany
  split
  · exact wf_empty
  · split
    · exact hw
    · rename_i h1 h2
      exact .mk _ _ _ (fun k hk => by simp at hk; subst hk; exact hw) ⟨by omega, fun _ => rfl, by omega, by omega, by omega, by omega, fun _ => ⟨r, rfl, by omega, by omega, h2⟩, by omega⟩
theorem wf_both {l : List RE} (hw : ∀ r ∈ l, Wf r) : Wf (rBoth l) := by
  unfold rBoth
  simp only
  split
  · exact wf_nothing
  · split
    · exact wf_nothing
    · rename_i h0 hc
      generalize hks : (orKeep (flatL 6 l) ++ if met (flatL 6 l) = true then [rOne (andSet (flatL 6 l))] else []) = ks
      split
      · exact wf_many (wf_one _)
      · rename_i hne
        refine wf_ord (.inr rfl) (c := andSet (flatL 6 l)) (fun k hk => ?_) hne
        rw [← hks] at hk
        rcases List.mem_append.1 hk with hk | hk
        · exact wf_keepL (.inr rfl) hw _ k hk
        · split at hk
          · simp at hk; subst hk
            have := one_op _ hc
            exact ⟨wf_one _, by omega, by omega, fun _ => rfl⟩
          · simp at hk
theorem wf_but {a b : RE} (ha : Wf a) (hb : Wf b) : Wf (rBut a b) := by
  unfold rBut
  split
  · exact ha
  · split
    · exact wf_one _
    · split
      · exact wf_nothing
      · rename_i h1 h2 h3
        exact .mk _ _ _ (fun k hk => by simp at hk; rcases hk with rfl | rfl; exact ha; exact hb) ⟨by omega, fun _ => rfl, by omega, by omega, by omega, by omega, by omega, fun _ => ⟨a, b, rfl, by omega, by omega, fun e => h3 (by rw [e]; exact lexN_self _), h2⟩⟩
theorem wf_word (t : List Nat) : Wf (rWord t) := wf_then fun r hr => by
  obtain ⟨x, -, rfl⟩ := List.mem_map.1 hr
  exact wf_one _
end Go.Proofs.YtjcfnmjjkadaeaaGreatDoor
/- Shapes: Make. -/
namespace Go.Proofs.YtjcfnmjjkadaeaaGreatDoor
set_option maxRecDepth 100000
set_option linter.unusedSimpArgs false
set_option linter.unusedVariables false
open Go.RowKit

def mkAt (k : Nat) (a b : Nat) (t : List Nat) (ks : List RE) : RE :=
  if k = 0 then rNothing else if k = 1 then rEmpty else if k = 2 then rOne (span a (b + 1)) else if k = 3 then rThen ks else if k = 4 then rAny ks else if k = 5 then rMany (ks.getD 0 rNothing) else if k = 6 then rBoth ks
  else if k = 7 then rBut (ks.getD 0 rNothing) (ks.getD 1 rNothing) else rWord t
/-- The expression of a shape. -/
def SHP.re : SHP → RE
  | .mk o l u t ks => mkAt (SHP.mk o l u t []).k (97 + l % 4) (97 + u % 4) (bytesN t) (ks.map fun k => k.re)
theorem SHP.re_mk (o : Int) (l u : Nat) (t : ByteArray) (ks : List SHP) : (SHP.mk o l u t ks).re = mkAt (SHP.mk o l u t ks).k (97 + l % 4) (97 + u % 4) (bytesN t) (ks.map SHP.re) := by rw [SHP.re]; rfl
theorem wf_mkAt (k a b : Nat) (t : List Nat) (ks : List RE) (h : ∀ r ∈ ks, Wf r) : Wf (mkAt k a b t ks) := by
  have hg : ∀ i, Wf (ks.getD i rNothing) := fun i => by
    by_cases hi : i < ks.length
    · rw [show ks.getD i rNothing = ks[i] from by simp [List.getD_eq_getElem?_getD, hi]]; exact h _ (List.getElem_mem hi)
    · rw [show ks.getD i rNothing = rNothing from by simp [List.getD_eq_getElem?_getD, hi]]; exact wf_nothing
  unfold mkAt
  repeat' split
  · exact wf_nothing
  · exact wf_empty
  · exact wf_one _
  · exact wf_then h
  · exact wf_any h
  · exact wf_many (hg 0)
  · exact wf_both h
  · exact wf_but (hg 0) (hg 1)
  · exact wf_word t
theorem cnt_mkAt (k a b : Nat) (t : List Nat) (ks : List RE) (ht : t.length ≤ 20) : (mkAt k a b t ks).cnt ≤ 22 + cntL ks := by
  have hg : ∀ i, (ks.getD i rNothing).cnt ≤ 1 + cntL ks := fun i => by
    by_cases hi : i < ks.length
    · rw [show ks.getD i rNothing = ks[i] from by simp [List.getD_eq_getElem?_getD, hi]]
      have : cntL ks = cntL (ks.take i) + cntL (ks.drop i) := by rw [← cntL_append, List.take_append_drop]
      rw [← List.getElem_cons_drop hi, cntL_cons] at this
      omega
    · rw [show ks.getD i rNothing = rNothing from by simp [List.getD_eq_getElem?_getD, hi], cnt_nothing]; omega
  have h01 : (ks.getD 0 rNothing).cnt + (ks.getD 1 rNothing).cnt ≤ 2 + cntL ks := by
    match ks with
    | [] => simp [cnt_nothing, cntL]
    | [x] => simp [cnt_nothing, cntL]; omega
    | x :: y :: r => simp [cntL]; omega
  have g0 := hg 0
  have q1 := cnt_then ks; have q2 := cnt_any ks; have q3 := cnt_both ks; have q4 := cnt_many (ks.getD 0 rNothing); have q5 := cnt_but (ks.getD 0 rNothing) (ks.getD 1 rNothing); have q6 := cnt_word t
  unfold mkAt
  repeat' split
  · rw [cnt_nothing]; omega
  · rw [cnt_empty]; omega
  · rw [cnt_one]; omega
  all_goals omega
theorem SHP.wf (s : SHP) : Wf s.re := by
  refine SHP.ind (P := fun s => Wf s.re) ?_ s
  intro o l u t ks ih
  rw [SHP.re_mk]
  refine wf_mkAt _ _ _ _ _ fun r hr => ?_
  obtain ⟨k, hk, rfl⟩ := List.mem_map.1 hr
  exact ih k hk
theorem SHP.cnt (s : SHP) : Tx s → s.re.cnt ≤ 22 * s.nodes := by
  refine SHP.ind (P := fun s => Tx s → s.re.cnt ≤ 22 * s.nodes) ?_ s
  intro o l u t ks ih h
  cases h with
  | mk _ _ _ _ _ ht hk =>
    rw [SHP.re_mk, SHP.nodes_mk]
    have h1 := cnt_mkAt (SHP.mk o l u t ks).k (97 + l % 4) (97 + u % 4) (bytesN t) (ks.map SHP.re) (by simpa [bytesN] using ht)
    have h2 : cntL (ks.map SHP.re) ≤ 22 * (ks.map SHP.nodes).sum := by
      clear h1
      induction ks with
      | nil => simp [cntL]
      | cons x ks ihk =>
        have e1 := ih x (by simp) (hk x (by simp))
        have e2 := ihk (fun k hk' => ih k (by simp [hk'])) (fun k hk' => hk k (by simp [hk']))
        rw [List.map_cons, cntL_cons, List.map_cons, List.sum_cons]
        omega
    omega
end Go.Proofs.YtjcfnmjjkadaeaaGreatDoor
