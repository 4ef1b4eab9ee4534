/- Texts of this claim put together: PcA, PcB, Flow, FlowR, PcW0, PcW1. -/
import Derived.Test.YtdbdjjjmomociaaGreatDoorJoinRunM
import Derived.Test.YtdbdjjjmomociaaGreatDoorJoinTwC
import Derived.OrdersHeld
import Derived.WalkKit
import Derived.Test.YtdbdjjjmomociaaGreatDoorJoinReO
import Derived.Test.YtdbdjjjmomociaaGreatDoorJoinLawTextErrors
/- The statements' pieces: trees that came in. -/
namespace Go.Proofs.YtdbdjjjmomociaaGreatDoor
set_option maxRecDepth 100000
set_option linter.unusedSimpArgs false
set_option linter.unusedVariables false
open Go.RowKit

/-- The elements of a slice of shapes, five cells each. -/
def PcRow (w : World) (v : Value) (n : Nat) (cells : Nat → List Value) : Prop :=
  (n ≤ 9223372036854775807 ∧ capOk v) ∧ ∃ a cap, v = .slice a n cap ∧ ∀ k, k < n → (cells k).length = 5 ∧ ∃ b off, a = some ⟨b, off, none⟩ ∧ b < w.heap.size ∧ ∀ j u, (cells k)[j]? = some u → w.cell? ⟨b, off + k * 5 + j, none⟩ = some u
theorem PcRow.keep {w w' : World} {v : Value} {n : Nat} {cells : Nat → List Value} (h : PcRow w v n cells) (hb : Below w.heap.size w w') : PcRow w' v n cells := by
  obtain ⟨h0, a, cap, rfl, h1⟩ := h
  refine ⟨h0, a, cap, rfl, fun k hk => ?_⟩
  obtain ⟨h2, b, off, e, hlt, hc⟩ := h1 k hk
  exact ⟨h2, b, off, e, Nat.lt_of_lt_of_le hlt hb.size, fun j u hu => (World.cell?_of_block (w := w) (hb.block b hlt)).trans (hc j u hu)⟩
inductive PcC (w : World) : List Value → PC → Prop where
  | mk (o l : Int) (u t : Nat) (ks : List PC) (v : Value) (cells : Nat → List Value) (ho : -9223372036854775808 ≤ o ∧ o ≤ 9223372036854775807) (hl : -9223372036854775808 ≤ l ∧ l ≤ 9223372036854775807) (hu : u < 256) (ht : t < 256)
      (hrow : PcRow w v ks.length cells) (hk : ∀ i k, ks[i]? = some k → PcC w (cells i) k) : PcC w [.int .i64 o, .int .i64 l, .int .u8 u, .int .u8 t, v] (.mk o l u t ks)
theorem PcC.keep {w w' : World} {cs : List Value} {s : PC} (h : PcC w cs s) (hb : Below w.heap.size w w') : PcC w' cs s := by
  induction h with
  | mk o l u t ks v cells ho hl hu ht hrow hk ih => exact .mk o l u t ks v cells ho hl hu ht (hrow.keep hb) ih
/-- A slice of shapes. -/
def PcsRow (w : World) (v : Value) (ks : List PC) : Prop := ∃ cells, PcRow w v ks.length cells ∧ ∀ i k, ks[i]? = some k → PcC w (cells i) k
theorem PcsRow.keep {w w' : World} {v : Value} {ks : List PC} (h : PcsRow w v ks) (hb : Below w.heap.size w w') : PcsRow w' v ks := by
  obtain ⟨cells, h1, h2⟩ := h
  exact ⟨cells, h1.keep hb, fun i k hk => (h2 i k hk).keep hb⟩
theorem PcC.open {w : World} {cs : List Value} {s : PC} (h : PcC w cs s) : ∃ v, cs = [.int .i64 s.op, .int .i64 s.gap, .int .u8 s.a, .int .u8 s.b, v] ∧ PcsRow w v s.kids ∧ (-9223372036854775808 ≤ s.op ∧ s.op ≤ 9223372036854775807) ∧ (-9223372036854775808 ≤ s.gap ∧ s.gap ≤ 9223372036854775807) ∧ s.a < 256 ∧ s.b < 256 := by
  cases h with
  | mk o l u t ks v cells ho hl hu ht hrow hk => exact ⟨v, rfl, ⟨cells, hrow, hk⟩, ho, hl, hu, ht⟩
/-- One element of a slice. -/
theorem PcsRow.at {w : World} {v : Value} {ks : List PC} (h : PcsRow w v ks) : ks.length ≤ 9223372036854775807 ∧ ∃ a cap, v = .slice a ks.length cap ∧ ∀ k (hk : k < ks.length), ∃ b off kv, a = some ⟨b, off, none⟩ ∧ b < w.heap.size ∧
    (w.cell? ⟨b, off + k * 5, none⟩ = some (.int .i64 ks[k].op) ∧ w.cell? ⟨b, off + k * 5 + 1, none⟩ = some (.int .i64 ks[k].gap) ∧ w.cell? ⟨b, off + k * 5 + 2, none⟩ = some (.int .u8 ks[k].a) ∧ w.cell? ⟨b, off + k * 5 + 3, none⟩ = some (.int .u8 ks[k].b) ∧ w.cell? ⟨b, off + k * 5 + 4, none⟩ = some kv) ∧
    PcC w [.int .i64 ks[k].op, .int .i64 ks[k].gap, .int .u8 ks[k].a, .int .u8 ks[k].b, kv] ks[k] := by
  obtain ⟨cells, ⟨h0, a, cap, rfl, h1⟩, h2⟩ := h
  refine ⟨h0.1, a, cap, rfl, fun k hk => ?_⟩
  obtain ⟨h3, b, off, e, hlt, hc⟩ := h1 k hk
  have h4 := h2 k _ (List.getElem?_eq_getElem hk)
  obtain ⟨kv, e5, -⟩ := h4.open
  refine ⟨b, off, kv, e, hlt, ⟨?_, ?_, ?_, ?_, ?_⟩, by rw [← e5]; exact h4⟩
  · have := hc 0 _ (by rw [e5]; rfl); simpa using this
  · exact hc 1 _ (by rw [e5]; rfl)
  · exact hc 2 _ (by rw [e5]; rfl)
  · exact hc 3 _ (by rw [e5]; rfl)
  · exact hc 4 _ (by rw [e5]; rfl)

theorem PcsRow.cap {w : World} {v : Value} {ks : List PC} (h : PcsRow w v ks) : capOk v := by
  obtain ⟨cells, ⟨h0, -⟩, -⟩ := h
  exact h0.2

section
open Go.ChangeShapes Go.WideShapes Go.ChangeAt Go.WideMaps Go.WideElems
theorem cells5P : Tryz.prog.cellsOf 35 = 5 := by kernel_rfl
theorem cellsIP : Tryz.prog.cellsOf 3 = 1 := by kernel_rfl
theorem cellsUP : Tryz.prog.cellsOf 5 = 1 := by kernel_rfl
theorem cellsKP : Tryz.prog.cellsOf 33 = 1 := by kernel_rfl
/-- Slices of shapes, where what one element reads as is known. -/
theorem open_piecesF {H : Type} {enc : TypeId × Value → H} {w : World} {base : Nat} {sp : Nat → Bool} {held : Bool} {fuel : Nat} {v : Value} {x : DataW H × List MemPlace}
    (ih : ∀ n, n < fuel → ∀ cs y, DataW.trod enc Tryz.prog w base sp held n 35 cs = some y → ∃ s, PcC w cs s)
    (h : DataW.trod enc Tryz.prog w base sp held fuel 33 [v] = some x) : ∃ ks, PcsRow w v ks := by
  rcases DataW.trod_slice Tryz.underlying33 h with ⟨hcs, -⟩ | ⟨a, len, cap, elems, rest, n, rfl, hcs, -, hb, hl, hm, hlen, hel, -, -⟩
  · simp at hcs
    subst hcs
    exact ⟨[], fun _ => [], ⟨⟨by simp, .mk (by omega)⟩, none, 0, rfl, fun k hk => by simp at hk⟩, fun i k hk => by simp at hk⟩
  · simp at hcs
    subst hcs
    have key : ∀ i, ∃ (cs : List Value) (s : PC), i < len → w.cells? base (a.add (i * 5)) 5 = some cs ∧ PcC w cs s := fun i => by
      by_cases hi : i < len
      · have h1 := hel i hi
        rw [cells5P, List.getElem?_eq_getElem (by omega)] at h1
        obtain ⟨cs, h2, h3⟩ := Option.bind_eq_some_iff.1 h1
        obtain ⟨s, hs⟩ := ih n (by omega) cs _ h3
        exact ⟨cs, s, fun _ => ⟨h2, hs⟩⟩
      · exact ⟨[], .mk 0 0 0 0 [], fun h => absurd h hi⟩
    obtain ⟨f, hf⟩ : ∃ f : Nat → List Value, ∀ i, ∃ s : PC, i < len → w.cells? base (a.add (i * 5)) 5 = some (f i) ∧ PcC w (f i) s := ⟨fun i => Classical.choose (key i), fun i => Classical.choose_spec (key i)⟩
    obtain ⟨g, hg⟩ : ∃ g : Nat → PC, ∀ i, i < len → w.cells? base (a.add (i * 5)) 5 = some (f i) ∧ PcC w (f i) (g i) := ⟨fun i => Classical.choose (hf i), fun i => Classical.choose_spec (hf i)⟩
    refine ⟨(List.range len).map g, f, ⟨⟨by simp; unfold maxLen at hm; omega, .mk hl⟩, some a, cap, by simp, fun k hk => ?_⟩, fun i k hk => ?_⟩
    · have hk' : k < len := by simpa using hk
      obtain ⟨h1, -⟩ := hg k hk'
      obtain ⟨h2, h3, h4⟩ := World.cells?_some h1
      obtain ⟨b, off, spot⟩ := a
      have hspot : spot = none := by
        have h0 := (hg 0 (by omega)).1
        obtain ⟨-, h3', h4'⟩ := World.cells?_some h0
        have q := h4' 0 (by omega)
        rw [List.getElem?_eq_getElem (by omega)] at q
        have := World.cell?_spot q
        simpa [Addr.add] using this
      subst hspot
      have hadd : ∀ j, ((⟨b, off, none⟩ : Addr).add (k * 5)).add j = ⟨b, off + k * 5 + j, none⟩ := fun j => by rw [Go.WideShapes.add_plain, Go.WideShapes.add_plain]
      refine ⟨h3, b, off, rfl, ?_, fun j u hu => ?_⟩
      · have h0 := h4 0 (by omega)
        rw [hadd] at h0
        cases e : w.cell? ⟨b, off + k * 5 + 0, none⟩ with
        | none => rw [e] at h0; rw [List.getElem?_eq_getElem (by omega)] at h0; cases h0
        | some u => exact World.block_lt_of_cell? _ _ e
      · have hj : j < 5 := by have := (List.getElem?_eq_some_iff.1 hu).1; omega
        have h0 := h4 j hj
        rw [hadd, hu] at h0
        exact h0
    · have hi : i < len := by have := (List.getElem?_eq_some_iff.1 hk).1; simpa using this
      rw [List.getElem?_map] at hk
      simp [hi] at hk
      rw [← hk]; exact (hg i hi).2
theorem open_pieceF {H : Type} {enc : TypeId × Value → H} {w : World} {base : Nat} {sp : Nat → Bool} {held : Bool} : ∀ (fuel : Nat) (cs : List Value) (x : DataW H × List MemPlace),
    DataW.trod enc Tryz.prog w base sp held fuel 35 cs = some x → ∃ s, PcC w cs s := by
  intro fuel
  induction fuel using Nat.strongRecOn with
  | _ fuel ih =>
    intro cs x h
    obtain ⟨xs, n, rfl, -, hl, hx, hf⟩ := DataW.trod_struct Tryz.underlying35 h
    rw [cells5P] at hl
    have f0 : DataW.trod enc Tryz.prog w base sp held n 3 ((cs.drop 0).take (Tryz.prog.cellsOf 3)) = xs[0]? := hf 0 _ rfl
    have f1 : DataW.trod enc Tryz.prog w base sp held n 3 ((cs.drop 1).take (Tryz.prog.cellsOf 3)) = xs[1]? := hf 1 _ rfl
    have f2 : DataW.trod enc Tryz.prog w base sp held n 5 ((cs.drop 2).take (Tryz.prog.cellsOf 5)) = xs[2]? := hf 2 _ rfl
    have f3 : DataW.trod enc Tryz.prog w base sp held n 5 ((cs.drop 3).take (Tryz.prog.cellsOf 5)) = xs[3]? := hf 3 _ rfl
    have f4 : DataW.trod enc Tryz.prog w base sp held n 33 ((cs.drop 4).take (Tryz.prog.cellsOf 33)) = xs[4]? := hf 4 _ rfl
    rw [cellsIP] at f0 f1
    rw [cellsUP] at f2 f3
    rw [cellsKP] at f4
    have hx5 : xs.length = 5 := hx
    match cs, hl, xs, hx5 with
    | [c0, c1, c2, c3, c4], _, [y0, y1, y2, y3, y4], _ =>
      simp only [List.drop_zero, List.drop_succ_cons, List.take_succ_cons, List.take_zero, List.getElem?_cons_zero, List.getElem?_cons_succ] at f0 f1 f2 f3 f4
      obtain ⟨o, e0, -, w0⟩ := DataW.trod_int Tryz.underlying3 f0
      obtain ⟨l, e1, -, w1⟩ := DataW.trod_int Tryz.underlying3 f1
      obtain ⟨u, e2, -, w2⟩ := DataW.trod_int Tryz.underlying5 f2
      obtain ⟨t, e3, -, w3⟩ := DataW.trod_int Tryz.underlying5 f3
      simp at e0 e1 e2 e3
      subst e0 e1 e2 e3
      obtain ⟨ks, hks⟩ := open_piecesF (fun m hm => ih m (by omega)) f4
      obtain ⟨cells, hr, hk⟩ := hks
      have b0 := bounds_i64 w0; have b1 := bounds_i64 w1; have b2 := bounds_u8 w2; have b3 := bounds_u8 w3
      obtain ⟨u, rfl⟩ := Int.eq_ofNat_of_zero_le b2.1
      obtain ⟨t, rfl⟩ := Int.eq_ofNat_of_zero_le b3.1
      exact ⟨.mk o l u t ks, .mk o l u t ks c4 cells (by omega) (by omega) (by omega) (by omega) hr hk⟩
theorem open_piece {H : Type} {enc : TypeId × Value → H} {w : World} {r : Reach} {b0 base : Nat} {sp : Nat → Bool} {held : Bool} {v : Value} {d : DataW H} {p : List MemPlace}
    (hv : Value.okWide Tryz.prog w r b0 35 v) (h : DataW.Trod enc Tryz.prog w base sp held 35 v d p) : ∃ s cs, v = .agg (cs : List Value).toArray ∧ PcC w cs s := by
  obtain ⟨cs, rfl, -⟩ := okWide_struct Tryz.underlying35 hv
  obtain ⟨fuel, hf⟩ := h
  obtain ⟨s, hs⟩ := open_pieceF fuel _ _ hf
  exact ⟨s, cs.toList, by simp, hs⟩
end
end Go.Proofs.YtdbdjjjmomociaaGreatDoor
/- Pieces: count, op, kid. -/
namespace Go.Proofs.YtdbdjjjmomociaaGreatDoor
set_option maxRecDepth 100000
set_option linter.unusedSimpArgs false
set_option linter.unusedVariables false
open Go.RowKit

/-- A piece as a value. -/
def PcVal (cs : List Value) : Value := .agg cs.toArray
/-- A piece in its box. -/
def pcC (s : PC) (a : Option Addr) (c : Nat) : Array Value := #[.int .i64 s.op, .int .i64 s.gap, .int .u8 s.a, .int .u8 s.b, .slice a s.kids.length c]

set_option maxHeartbeats 1000000 in
theorem pcount_any (s : PC) : ∀ (cs : List Value) (d : Nat) (w : World), PcC w cs s → d ≤ 9 →
    Calls Tryz.prog 15 #[PcVal cs, .int .i64 d] w fun e w' => ∃ c : Nat, e = .returned (.int .i64 c) ∧ (1 ≤ c ∧ c ≤ 1000 * (10 - d)) ∧ (c ≤ 30 → c = s.nodes) ∧ Below w.heap.size w w' := by
  refine PC.ind (P := fun s => ∀ (cs : List Value) (d : Nat) (w : World), PcC w cs s → d ≤ 9 →
    Calls Tryz.prog 15 #[PcVal cs, .int .i64 d] w fun e w' => ∃ c : Nat, e = .returned (.int .i64 c) ∧ (1 ≤ c ∧ c ≤ 1000 * (10 - d)) ∧ (c ≤ 30 → c = s.nodes) ∧ Below w.heap.size w w') ?_ s
  intro o g pa pb ks ih cs d w h hd
  obtain ⟨v, rfl, hrow, ho, hlo, hhi, htx⟩ := h.open
  simp only [PC.op, PC.gap, PC.a, PC.b, PC.kids] at hrow ho hlo hhi htx ⊢
  obtain ⟨hn, a, cap, rfl, -⟩ := hrow.at
  have HR := hide hrow
  clear h hrow
  unfold PcVal
  by_cases hd12 : 8 < d
  · have hdd : decide ((8 : Int) < d) = true := by simp; omega
    have hdd2 : decide (8 < d) = true := by simp [hd12]
    go_enter Tryz.func15, Tryz.ntmps15
    go_wp2
    go_ret
    exact ⟨1000, rfl, ⟨by omega, by omega⟩, fun h => by omega, (Below.refl _ _).alloc (Nat.le_refl _) _⟩
  · have hdd : decide ((8 : Int) < d) = false := by simp; omega
    have hdd2 : decide (8 < d) = false := by simp; omega
    go_enter Tryz.func15, Tryz.ntmps15
    go_wp2
    obtain ⟨B, hB⟩ : ∃ B, B = w.heap.size := ⟨_, rfl⟩
    rw [← hB]
    have HB := hide hB
    have hW0 : Below B w (w.alloc (.cells #[.int .i64 o, .int .i64 g, .int .u8 pa, .int .u8 pb, .slice a ks.length cap] 35)) := (Below.refl _ _).alloc (Nat.le_of_eq hB) _
    clear hB
    go_loopw [5, 13] (fun q c wr => ∃ (k n : Nat), k ≤ ks.length ∧ c = .int .i64 k ∧ q = .int .i64 n ∧ 1 ≤ n ∧ n ≤ 1000 ∧ Hid (n ≤ 30 → n = 1 + ((ks.take k).map PC.nodes).sum) ∧ Hid (Below B w wr)) (fun _ c _ => ks.length - (intOf c).toNat)
    case atStart => exact ⟨0, 1, by omega, rfl, rfl, by omega, by omega, (fun _ => rfl), hW0⟩
    case round =>
      clear hW0
      obtain ⟨k, n, hk, rfl, rfl, hn1, hn2, HI, HW⟩ := hrel
      obtain ⟨-, a', cap', e1, g1⟩ := (HR.out.keep (show Below w.heap.size w wr from HB.out ▸ HW.out)).at
      obtain ⟨rfl, rfl⟩ : a = a' ∧ cap = cap' := by cases e1; exact ⟨rfl, rfl⟩
      clear e1
      by_cases hlt : k < ks.length
      · have hkd : decide (k < ks.length) = true := by simp [hlt]
        obtain ⟨b, off, kv, rfl, -, ⟨c0, c1, c2, c3, c4⟩, hC⟩ := g1 k hlt
        have hrec := ih _ (List.getElem_mem hlt) _ (d + 1) _ (hC.keep ((Below.refl wr.heap.size wr).alloc (Nat.le_refl _) (.cells #[.int .i64 ks[k].op, .int .i64 ks[k].gap, .int .u8 ks[k].a, .int .u8 ks[k].b, kv] 35))) (by omega)
        have HT := hide (show ks.take (k + 1) = ks.take k ++ [ks[k]] from List.take_succ_eq_append_getElem hlt)
        have hBW : B ≤ wr.heap.size := by rw [HB.out]; exact HW.out.size
        obtain ⟨-, kf, kcap, hkv, -⟩ : True ∧ ∃ a c, kv = .slice a (ks[k]).kids.length c ∧ True := by
          obtain ⟨v', e', hr', -⟩ := hC.open
          obtain ⟨-, a', c', e'', -⟩ := hr'.at
          have : kv = v' := by simpa using e'
          exact ⟨trivial, a', c', this.trans e'', trivial⟩
        have HREC := hide hrec
        subst hkv
        generalize hks : ks[k] = sk at *
        clear hrec hC g1
        unfold PcVal at HREC
        go_wp2_with fail
        refine HREC.out.mono ?_
        rintro e w2 ⟨c, rfl, ⟨hc1, hc2⟩, hc3, hb2⟩
        have HC3 := hide hc3
        have HW2 := hide ((HW.out.alloc hBW (.cells #[.int .i64 sk.op, .int .i64 sk.gap, .int .u8 sk.a, .int .u8 sk.b, .slice kf sk.kids.length kcap] 35)).trans (hb2.mono (by simp; omega)))
        have hcb : c ≤ 14000 := by omega
        clear hc3 hb2 HREC c0 c1 c2 c3 c4
        by_cases hbig : 1000 < n + c
        · have hbd : decide ((1000 : Int) < (n : Int) + c) = true := by simp; omega
          go_wp2
          go_ret
          refine ⟨n + c, ?_, ⟨by omega, by omega⟩, fun h => by omega, by rw [← HB.out]; exact HW2.out⟩
          congr 2
        · have hbd : decide ((1000 : Int) < (n : Int) + c) = false := by simp; omega
          go_wp2
          refine ⟨⟨k + 1, n + c, by omega, by go_num, by go_num, by omega, by omega, ?_, HW2⟩, by simp [intOf]; omega⟩
          intro h30
          have i2 := HI.out (by omega)
          have j2 := HC3.out (by omega)
          rw [HT.out, List.map_append, List.sum_append, i2, j2]; simp; omega
      · obtain rfl : k = ks.length := by omega
        rw [List.take_length] at HI
        clear g1
        go_wp2
        go_ret
        refine ⟨n, rfl, ⟨hn1, by omega⟩, fun h => ?_, by rw [← HB.out]; exact HW.out⟩
        rw [PC.nodes_mk]; exact HI.out h
theorem pop_any (s : PC) (cs : List Value) (w : World) (h : PcC w cs s) :
    Calls Tryz.prog 43 #[PcVal cs] w fun e w' => e = .returned (.int .i64 s.k) ∧ Below w.heap.size w w' := by
  obtain ⟨v, rfl, hr, ho, -⟩ := h.open
  obtain ⟨-, a, cap, rfl, -⟩ := hr.at
  clear h hr
  have e1 : IntKind.u64.wrap s.op = s.op % 18446744073709551616 := by simp [IntKind.wrap, IntKind.signed, IntKind.bits]
  obtain ⟨m, hm⟩ : ∃ m : Nat, s.op % 18446744073709551616 = (m : Int) := ⟨(s.op % 18446744073709551616).toNat, by omega⟩
  have hk : s.k = m % 12 := by unfold PC.k; rw [hm]; omega
  rw [hm] at e1
  have hm2 : (m : Int) < 18446744073709551616 := by omega
  unfold PcVal
  go_enter Tryz.func43, Tryz.ntmps43
  go_wp2
  go_ret
  refine ⟨?_, (Below.refl _ _).alloc (Nat.le_refl _) _⟩
  show Ending.returned (.int .i64 ((m : Int) % 12)) = _
  rw [hk]; rfl
set_option maxHeartbeats 1000000 in
theorem pkid_any (s : PC) (i : Nat) (hi : i < 2) (cs : List Value) (w : World) (h : PcC w cs s) :
    Calls Tryz.prog 44 #[PcVal cs, .int .i64 i] w fun e w' => ∃ cs', e = .returned (PcVal cs') ∧ PcC w' cs' (s.kid i) ∧ Below w.heap.size w w' := by
  have HC := hide h
  obtain ⟨v, rfl, hr, ho, -⟩ := h.open
  have HR := hide hr
  obtain ⟨hn, a, cap, rfl, hel⟩ := hr.at
  clear h hr
  unfold PcVal
  by_cases hlt : i < s.kids.length
  · have hkd : decide (i < s.kids.length) = true := by simp [hlt]
    obtain ⟨b, off, kv, rfl, hbl, ⟨c0, c1, c2, c3, c4⟩, hC⟩ := hel i hlt
    have hkid : s.kid i = s.kids[i] := by unfold PC.kid; rw [List.getD_eq_getElem?_getD, List.getElem?_eq_getElem hlt]; rfl
    have HK := hide hkid
    have HKC := hide hC
    obtain ⟨kf, kcap, hkv⟩ : ∃ a c, kv = .slice a (s.kids[i]).kids.length c := by
      obtain ⟨v', e', hr', -⟩ := hC.open
      obtain ⟨-, a', c', e'', -⟩ := hr'.at
      have : kv = v' := by simpa using e'
      exact ⟨a', c', this.trans e''⟩
    subst hkv
    have hb1 : Below w.heap.size w (w.alloc (.cells #[.int .i64 s.op, .int .i64 s.gap, .int .u8 s.a, .int .u8 s.b, .slice (some ⟨b, off, none⟩) s.kids.length cap] 35)) := (Below.refl _ _).alloc (Nat.le_refl _) _
    clear hel hC hkid
    generalize s.kids[i] = sk at *
    have hne : b ≠ w.heap.size := by omega
    have hne1 : b ≠ w.heap.size + 1 := by omega
    go_enter Tryz.func44, Tryz.ntmps44
    go_wp2
    refine bodyPost_ret (v := .agg #[.int .i64 sk.op, .int .i64 sk.gap, .int .u8 sk.a, .int .u8 sk.b, .slice kf sk.kids.length kcap]) (by simp [results, Tryz.results44, go_sem]) rfl ⟨_, rfl, ?_, ?_⟩
    · rw [HK.out]
      exact HKC.out.keep (((Below.refl _ _).alloc (Nat.le_refl _) _).alloc (by simp) _)
    · exact ((Below.refl _ _).alloc (Nat.le_refl _) _).alloc (by simp) _
  · have hkd : decide (i < s.kids.length) = false := by simp; omega
    go_enter Tryz.func44, Tryz.ntmps44
    go_wp2
    refine bodyPost_ret (v := .agg #[.int .i64 7, .int .i64 0, .int .u8 97, .int .u8 0, .slice none 0 0]) (by simp [results, Tryz.results44, go_sem]) rfl ⟨[.int .i64 7, .int .i64 0, .int .u8 97, .int .u8 0, .slice none 0 0], rfl, ?_, ?_⟩
    · have hkid : s.kid i = .mk 7 0 97 0 [] := by unfold PC.kid; rw [List.getD_eq_getElem?_getD, List.getElem?_eq_none (by omega)]; rfl
      rw [hkid]
      exact .mk 7 0 97 0 [] _ (fun _ => []) (by omega) (by omega) (by omega) (by omega) ⟨⟨by simp, .mk (by omega)⟩, none, 0, rfl, fun k hk => by simp at hk⟩ (fun i k hk => by simp at hk)
    · exact ((Below.refl _ _).alloc (Nat.le_refl _) _).alloc (by simp) _
end Go.Proofs.YtdbdjjjmomociaaGreatDoor
/- A region that draws its order, operation by operation: what each must yield, whatever came up ahead of it. -/
namespace Go.Proofs.YtdbdjjjmomociaaGreatDoor
set_option maxRecDepth 100000
open Go.RowKit
set_option linter.unusedSimpArgs false

/-- What was yielded, laid in the text's order. -/
def lay : List Oper → List (Option Value) → Act → Act
  | o :: os, x :: xs, a => lay os xs (match x with | some v => a.put o.dst v | none => a)
  | _, _, a => a

def dstsB : List Oper → Bool
  | [] => true
  | o :: os => (os.all fun o' => match o.dst, o'.dst with | some t, some t' => t != t' | _, _ => true) && dstsB os
def backB : List Oper → Nat → Bool
  | [], _ => true
  | o :: os, k => (o.after.toList.all fun e => Nat.blt e.on k) && backB os (k + 1)

theorem dstsB_cons {o : Oper} {os : List Oper} (h : dstsB (o :: os) = true) : (∀ o' ∈ os, ∀ t, o.dst = some t → o'.dst ≠ some t) ∧ dstsB os = true := by
  simp only [dstsB, Bool.and_eq_true, List.all_eq_true] at h
  refine ⟨fun o' ho' t ht e => ?_, h.2⟩
  have := h.1 o' ho'
  rw [ht, e] at this
  simp at this
theorem lay_put {d : Option Tmp} {v : Value} : ∀ (os : List Oper) (xs : List (Option Value)) (a : Act), (∀ o' ∈ os, ∀ t, d = some t → o'.dst ≠ some t) → lay os xs (a.put d v) = (lay os xs a).put d v
  | [], xs, a, _ => by cases xs <;> rfl
  | o :: os, [], a, _ => rfl
  | o :: os, none :: xs, a, h => lay_put os xs a fun o' ho' => h o' (List.mem_cons_of_mem _ ho')
  | o :: os, some u :: xs, a, h => by
    show lay os xs ((a.put d v).put o.dst u) = _
    rw [Act.put_comm a v u (h o List.mem_cons_self)]
    exact lay_put os xs _ fun o' ho' => h o' (List.mem_cons_of_mem _ ho')
theorem lay_set {v : Value} {o : Oper} : ∀ (os : List Oper) (L : List (Option Value)) (a : Act) (i : Nat), dstsB os = true → L[i]? = some none → os[i]? = some o → lay os (L.set i (some v)) a = (lay os L a).put o.dst v
  | [], _, _, i, _, _, ho => by simp at ho
  | _ :: _, [], _, i, _, hL, _ => by simp at hL
  | o' :: os, x :: xs, a, 0, hd, hL, ho => by
    have e1 : x = none := by simpa using hL
    have e2 : o' = o := by simpa using ho
    subst e1 e2
    exact lay_put os xs a (dstsB_cons hd).1
  | o' :: os, x :: xs, a, i + 1, hd, hL, ho => by
    rw [List.set_cons_succ]
    exact lay_set os xs _ i (dstsB_cons hd).2 (by simpa using hL) (by simpa using ho)
theorem put_size (a : Act) (d : Option Tmp) (v : Value) : (a.put d v).tmps.size = a.tmps.size := by
  cases d <;> simp [Act.put]
theorem lay_size : ∀ (os : List Oper) (L : List (Option Value)) (a : Act), (lay os L a).tmps.size = a.tmps.size
  | [], L, a => by cases L <;> rfl
  | _ :: _, [], _ => rfl
  | o :: os, none :: xs, a => lay_size os xs a
  | o :: os, some u :: xs, a => (lay_size os xs _).trans (put_size _ _ _)
theorem lay_other {t : Nat} : ∀ (os : List Oper) (L : List (Option Value)) (a : Act), (∀ o ∈ os, o.dst ≠ some t) → (lay os L a).tmps[t]? = a.tmps[t]?
  | [], L, a, _ => by cases L <;> rfl
  | _ :: _, [], _, _ => rfl
  | o :: os, none :: xs, a, h => lay_other os xs a fun o' ho' => h o' (List.mem_cons_of_mem _ ho')
  | o :: os, some u :: xs, a, h => by
    refine (lay_other os xs _ fun o' ho' => h o' (List.mem_cons_of_mem _ ho')).trans ?_
    have h0 := h o List.mem_cons_self
    cases hd : o.dst with
    | none => rfl
    | some d =>
      have : d ≠ t := fun e => h0 (by rw [hd, e])
      simp [Act.put, Array.getElem?_setIfInBounds, this]
theorem lay_get {t : Nat} {v : Value} {o : Oper} : ∀ (os : List Oper) (L : List (Option Value)) (a : Act) (i : Nat), dstsB os = true → L[i]? = some (some v) → os[i]? = some o → o.dst = some t → t < a.tmps.size → (lay os L a).tmps[t]? = some v
  | [], _, _, i, _, _, ho, _, _ => by simp at ho
  | _ :: _, [], _, i, _, hL, _, _, _ => by simp at hL
  | o' :: os, x :: xs, a, 0, hd, hL, ho, ht, hs => by
    have e1 : x = some v := by simpa using hL
    have e2 : o' = o := by simpa using ho
    subst e1 e2
    refine (lay_other os xs _ fun o'' ho'' => (dstsB_cons hd).1 o'' ho'' t ht).trans ?_
    simp [Act.put, ht, Array.getElem?_setIfInBounds, hs]
  | o' :: os, none :: xs, a, i + 1, hd, hL, ho, ht, hs => lay_get os xs a i (dstsB_cons hd).2 (by simpa using hL) (by simpa using ho) ht hs
  | o' :: os, some u :: xs, a, i + 1, hd, hL, ho, ht, hs => lay_get os xs _ i (dstsB_cons hd).2 (by simpa using hL) (by simpa using ho) ht (by rw [put_size]; exact hs)

def depsOf (o : Oper) : List Nat := (o.after.toList.filter fun e => Region.binds .any e).map (·.on)
def noDst (ops : List Oper) (t : Nat) : Bool := ops.all fun o => match o.dst with | some d => d != t | none => true

/-- What no other operation than i uses up (an append its row). -/
def useB (eat : List (Nat × Nat)) (i j : Nat) : Bool := eat.all fun p => !(Nat.beq p.2 j) || Nat.beq p.1 i
/-- Operation i may come up where j has, and is still of use. -/
def liveB (ops : List Oper) (eat : List (Nat × Nat)) (i j : Nat) : Bool :=
  !(Nat.beq i j) && !eat.contains (i, j) && (match ops[i]? with | some o => (depsOf o).all fun k => !eat.contains (k, j) | none => true) && (match ops[j]? with | some o => !(depsOf o).contains i | none => false)

/-- One operation: what it yields (R), where all that it waits for has come up. -/
def FStep (P : Program) (ops : List Oper) (eat : List (Nat × Nat)) (S : World → Prop) (G : Nat → World → World → Prop) (R : Nat → Value → World → Prop) (a0 : Act) (Q : Exit → Act → World → Prop) (i : Nat) (o : Oper) : Prop :=
  ∀ a w, S w → a.tmps.size = a0.tmps.size → (∀ t, noDst ops t = true → a.tmps[t]? = a0.tmps[t]?) → (∀ j, (depsOf o).contains j = true → useB eat i j = true → ∃ v, R j v w ∧ ∀ o' t, ops[j]? = some o' → o'.dst = some t → a.tmps[t]? = some v) →
    (Region.wanted o (yielded ops.toArray a.tmps) = true ∧ o.wp P a w (fun a' w' => ∃ v, a' = a.put o.dst v ∧ R i v w' ∧ S w' ∧ G i w w') Q) ∨ (Region.wanted o (yielded ops.toArray a.tmps) = false ∧ R i undef w)
def FSteps (P : Program) (ops : List Oper) (eat : List (Nat × Nat)) (S : World → Prop) (G : Nat → World → World → Prop) (R : Nat → Value → World → Prop) (a0 : Act) (Q : Exit → Act → World → Prop) : List Oper → Nat → Prop
  | [], _ => True
  | o :: os, k => FStep P ops eat S G R a0 Q k o ∧ FSteps P ops eat S G R a0 Q os (k + 1)

section
variable {P : Program} {ops : List Oper} {S : World → Prop} {G : Nat → World → World → Prop} {eat : List (Nat × Nat)} {R : Nat → Value → World → Prop} {a0 : Act} {Q : Exit → Act → World → Prop}
theorem FSteps.get : ∀ (os : List Oper) (k : Nat), FSteps P ops eat S G R a0 Q os k → ∀ i o, os[i]? = some o → FStep P ops eat S G R a0 Q (k + i) o
  | [], _, _, i, o, h => by simp at h
  | o' :: os, k, hs, 0, o, h => by
    have : o' = o := by simpa using h
    exact this ▸ hs.1
  | o' :: os, k, hs, i + 1, o, h => by
    have := FSteps.get os (k + 1) hs.2 i o (by simpa using h)
    rwa [Nat.add_assoc, Nat.add_comm 1 i] at this
theorem backB_get : ∀ (os : List Oper) (k : Nat), backB os k = true → ∀ i o, os[i]? = some o → ∀ e ∈ o.after, e.on < k + i
  | [], _, _, i, o, h => by simp at h
  | o' :: os, k, hs, 0, o, h => fun e he => by
    have e1 : o' = o := by simpa using h
    subst e1
    simp only [backB, Bool.and_eq_true] at hs
    have h1 : Nat.blt e.on k = true := by
      exact (List.all_eq_true.1 hs.1) e (Array.mem_toList_iff.2 he)
    simpa [Nat.blt_eq] using h1
  | o' :: os, k, hs, i + 1, o, h => fun e he => by
    simp only [backB, Bool.and_eq_true] at hs
    have := backB_get os (k + 1) hs.2 i o (by simpa using h) e he
    omega
theorem mem_ready {listed : Array Bool} {i : Nat} : i ∈ Region.ready .any ops.toArray listed ↔ i < ops.length ∧ listed.getD i true = false ∧ ∃ o, ops[i]? = some o ∧ ∀ e ∈ o.after, Region.binds .any e = true → listed.getD e.on false = true := by
  unfold Region.ready
  rw [List.mem_filter, List.mem_range]
  refine and_congr (by simp) ?_
  rw [Bool.and_eq_true, Bool.not_eq_true']
  refine and_congr Iff.rfl ?_
  rw [List.getElem?_toArray]
  cases ho : ops[i]? with
  | none => simp
  | some o =>
    simp only [Option.map_some, Option.getD_some, Option.some.injEq, exists_eq_left']
    constructor
    · intro h e he hb
      obtain ⟨j, hj, rfl⟩ := Array.mem_iff_getElem.1 he
      have := (Array.all_eq_true.1 h) j hj
      simpa [hb] using this
    · intro h
      refine Array.all_eq_true.2 fun j hj => ?_
      cases hb : Region.binds .any o.after[j] with
      | false => rfl
      | true => simp [h _ (Array.getElem_mem hj) hb]

theorem flow_go (hd : dstsB ops = true) (hk : backB ops 0 = true) (hsz : ∀ o ∈ ops, ∀ t, o.dst = some t → t < a0.tmps.size) (hG : ∀ i j v w w', liveB ops eat i j = true → G i w w' → R j v w → R j v w') (hs : FSteps P ops eat S G R a0 Q ops 0)
    (hfin : ∀ (vs : List Value) w, vs.length = ops.length → S w → (∀ j v, vs[j]? = some v → (∀ i, i < ops.length → eat.contains (i, j) = false) → R j v w) → Q .normal (lay ops (vs.map some) a0) w) :
    ∀ (fuel : Nat) (L : List (Option Value)) (w : World), L.length = ops.length → (L.filter Option.isNone).length ≤ fuel → S w → (∀ j v, L[j]? = some (some v) → (∀ i u, L[i]? = some (some u) → eat.contains (i, j) = false) → R j v w) → (∀ (j : Nat) v o, L[j]? = some (some v) → ops[j]? = some o → ∀ k : Nat, (depsOf o).contains k = true → ∃ u, L[k]? = some (some u)) → wpAnyH P .any ops.toArray Q S fuel (L.map Option.isSome).toArray (lay ops L a0) w := by
  have hlist : ∀ (L : List (Option Value)) i, (L.map Option.isSome).toArray.getD i true = false → i < L.length → L[i]? = some none := fun L i h hi => by
    have : (L.map Option.isSome).toArray.getD i true = L[i].isSome := by simp [Array.getD, hi]
    rw [this] at h
    rw [List.getElem?_eq_getElem hi]
    cases hx : L[i] with
    | none => rfl
    | some v => rw [hx] at h; cases h
  have hlist2 : ∀ (L : List (Option Value)) i, (L.map Option.isSome).toArray.getD i false = true → ∃ v, L[i]? = some (some v) := fun L i h => by
    by_cases hi : i < L.length
    · have : (L.map Option.isSome).toArray.getD i false = L[i].isSome := by simp [Array.getD, hi]
      rw [this] at h
      rw [List.getElem?_eq_getElem hi]
      cases hx : L[i] with
      | none => rw [hx] at h; cases h
      | some v => exact ⟨v, rfl⟩
    · have : (L.map Option.isSome).toArray.getD i false = false := by simp [Array.getD, hi]
      rw [this] at h; cases h
  have hall : ∀ (L : List (Option Value)), L.length = ops.length → Region.ready .any ops.toArray (L.map Option.isSome).toArray = [] → ∃ vs : List Value, L = vs.map some := by
    intro L hL hr
    have h1 : ∀ i, i < L.length → ∃ v, L[i]? = some (some v) := by
      intro i
      induction i using Nat.strongRecOn with
      | ind i ih =>
        intro hi
        cases hx : L[i]? with
        | none => rw [List.getElem?_eq_none_iff] at hx; omega
        | some x =>
          cases x with
          | some v => exact ⟨v, rfl⟩
          | none =>
            have hm : i ∈ Region.ready .any ops.toArray (L.map Option.isSome).toArray := by
              refine mem_ready.2 ⟨by omega, ?_, ops[i]'(by omega), List.getElem?_eq_getElem _, fun e he _ => ?_⟩
              · have : L[i] = none := by rw [List.getElem?_eq_getElem hi] at hx; simpa using hx
                simp [Array.getD, hi, this]
              · have hlt := backB_get ops 0 hk i _ (List.getElem?_eq_getElem (by omega)) e he
                obtain ⟨v, hv⟩ := ih e.on (by omega) (by omega)
                have he' : e.on < L.length := by omega
                rw [List.getElem?_eq_getElem he'] at hv
                have : L[e.on] = some v := by simpa using hv
                simp [Array.getD, he', this]
            rw [hr] at hm; cases hm
    refine ⟨L.map (·.getD undef), ?_⟩
    apply List.ext_getElem?
    intro i
    by_cases hi : i < L.length
    · obtain ⟨v, hv⟩ := h1 i hi
      simp [hv]
    · simp [List.getElem?_eq_none (Nat.le_of_not_lt hi)]
  have hdone : ∀ (L : List (Option Value)) w, L.length = ops.length → S w → (∀ j v, L[j]? = some (some v) → (∀ i u, L[i]? = some (some u) → eat.contains (i, j) = false) → R j v w) → Region.ready .any ops.toArray (L.map Option.isSome).toArray = [] → Q .normal (lay ops L a0) w := by
    intro L w hL hS hR hr
    obtain ⟨vs, rfl⟩ := hall L hL hr
    exact hfin vs w (by simpa using hL) hS fun j v hv he => hR j v (by simp [hv]) fun i u hu => he i (by
      have := (List.getElem?_eq_some_iff.1 hu).1
      rw [List.length_map] at this
      have h2 : vs.length = ops.length := by simpa using hL
      omega)
  intro fuel
  induction fuel with
  | zero =>
    intro L w hL hf hS hR _
    have hr : Region.ready .any ops.toArray (L.map Option.isSome).toArray = [] := by
      refine List.eq_nil_iff_forall_not_mem.2 fun i hi => ?_
      obtain ⟨h1, h2, -⟩ := mem_ready.1 hi
      have hx := hlist L i h2 (by omega)
      have hmem : (none : Option Value) ∈ L.filter Option.isNone := List.mem_filter.2 ⟨List.mem_of_getElem? hx, rfl⟩
      have := List.length_pos_of_mem hmem
      omega
    exact ⟨hr, hdone L w hL hS hR hr⟩
  | succ fuel ih =>
    intro L w hL hf hS hR hC
    refine ⟨hdone L w hL hS hR, fun i hi => ?_⟩
    obtain ⟨h1, h2, o, ho, h3⟩ := mem_ready.1 hi
    have hx := hlist L i h2 (by omega)
    have hdep : ∀ j, (depsOf o).contains j = true → ∃ v, L[j]? = some (some v) := fun j hj => by
      obtain ⟨e, he, rfl⟩ := List.mem_map.1 (List.contains_iff_mem.1 hj)
      obtain ⟨he1, he2⟩ := List.mem_filter.1 he
      exact hlist2 L e.on (h3 e (by simpa using he1) he2)
    have hstep := FSteps.get ops 0 hs i o ho (lay ops L a0) w hS (lay_size _ _ _) (fun t ht => lay_other ops L a0 fun o' ho' e => by
        have := (List.all_eq_true.1 ht) o' ho'
        rw [e] at this; simp at this) (fun j hj huse => by
        obtain ⟨v, hv⟩ := hdep j hj
        refine ⟨v, hR _ _ hv (fun i' u hu => ?_), fun o' t ho' ht => lay_get ops L a0 _ hd hv ho' ht (hsz o' (List.mem_of_getElem? ho') t ht)⟩
        refine Bool.eq_false_iff.2 fun hc => ?_
        have h4 := (List.all_eq_true.1 huse) _ (List.contains_iff_mem.1 hc)
        have h5 : Nat.beq j j = true := Nat.beq_refl j
        rw [Nat.zero_add] at h4
        simp only [h5, Bool.not_true, Bool.false_or] at h4
        have h6 := Nat.eq_of_beq_eq_true h4
        subst h6
        rw [hx] at hu; cases hu)
    rw [Nat.zero_add] at hstep
    have hnext : ∀ v w', R i v w' → S w' → (∀ j u, liveB ops eat i j = true → R j u w → R j u w') → S w' ∧ wpAnyH P .any ops.toArray Q S fuel ((L.map Option.isSome).toArray.setIfInBounds i true) ((lay ops L a0).put o.dst v) w' := by
      intro v w' hRv hS' hk'
      refine ⟨hS', ?_⟩
      have e1 : (L.map Option.isSome).toArray.setIfInBounds i true = ((L.set i (some v)).map Option.isSome).toArray := by
        rw [List.setIfInBounds_toArray, List.map_set]; rfl
      rw [e1, ← lay_set ops L a0 i hd hx ho]
      refine ih (L.set i (some v)) w' (by rw [List.length_set]; exact hL) ?_ hS' (fun j u hu hne => ?_) (fun j u o' hu ho' k hk2 => ?_)
      · have hi' : i < L.length := by omega
        have hLi : L[i] = none := by rw [List.getElem?_eq_getElem hi'] at hx; simpa using hx
        have e2 : L = L.take i ++ none :: L.drop (i + 1) := by
          conv => lhs; rw [← List.take_append_drop i L, List.drop_eq_getElem_cons hi', hLi]
        have e3 : L.set i (some v) = L.take i ++ some v :: L.drop (i + 1) := List.set_eq_take_append_cons_drop .. |>.trans (by rw [if_pos hi'])
        rw [e3]
        rw [e2] at hf
        simp only [List.filter_append, List.filter_cons, Option.isNone_some, Option.isNone_none, List.length_append, List.length_cons, if_true, Bool.false_eq_true, if_false] at hf ⊢
        omega
      · rw [List.getElem?_set] at hu
        split at hu
        · subst_vars
          split at hu
          · cases hu; exact hRv
          · cases hu
        · rename_i hij
          refine hk' _ _ ?_ (hR j u hu fun i' u' hu' => ?_)
          · unfold liveB
            have b1 : Nat.beq i j = false := Bool.eq_false_iff.2 fun hc => hij (Nat.eq_of_beq_eq_true hc)
            have b2 := hne i v (by rw [List.getElem?_set_self (by omega)])
            simp only [b1, b2, ho, Bool.not_false, Bool.true_and]
            rw [Bool.and_eq_true]
            refine ⟨List.all_eq_true.2 fun k hk3 => ?_, ?_⟩
            · obtain ⟨x, hx3⟩ := hdep k (List.contains_iff_mem.2 hk3)
              have hki : i ≠ k := fun e => by subst e; rw [hx] at hx3; cases hx3
              rw [hne k x (by rw [List.getElem?_set_ne hki]; exact hx3)]; rfl
            · cases ho3 : ops[j]? with
              | none =>
                have hj1 := (List.getElem?_eq_some_iff.1 hu).1
                rw [List.getElem?_eq_none_iff] at ho3
                omega
              | some o3 =>
                simp only [Bool.not_eq_true']
                refine Bool.eq_false_iff.2 fun hc => ?_
                obtain ⟨x, hx3⟩ := hC j u o3 hu ho3 i hc
                rw [hx] at hx3; cases hx3
          by_cases hii : i = i'
          · subst hii; rw [hx] at hu'; cases hu'
          · exact hne i' u' (by rw [List.getElem?_set_ne hii]; exact hu')
      · have hk4 : ∃ x, L[k]? = some (some x) := by
          rw [List.getElem?_set] at hu
          split at hu
          · subst_vars
            rw [ho] at ho'; cases ho'
            exact hdep k hk2
          · exact hC j u o' hu ho' k hk2
        obtain ⟨x, hx3⟩ := hk4
        by_cases hki : i = k
        · subst hki; rw [hx] at hx3; cases hx3
        · exact ⟨x, by rw [List.getElem?_set_ne hki]; exact hx3⟩
    unfold wpOp
    rw [List.getElem?_toArray, ho]
    rcases hstep with ⟨hw, hp⟩ | ⟨hw, hu⟩
    · simp only [hw, if_true]
      refine .inl (Oper.wp_mono ?_ hp)
      rintro a' w' ⟨v, rfl, hRv, hS', hg⟩
      exact hnext v w' hRv hS' fun j u hn h => hG i j u w w' hn hg h
    · simp only [hw]
      exact hnext undef w hu hS fun j u _ h => h

/-- The whole region. -/
theorem flow {id : Nat} {w : World} (eat : List (Nat × Nat)) (S : World → Prop) (G : Nat → World → World → Prop) (R : Nat → Value → World → Prop) (hm : P.follows .mixedOrders = true) (hd : dstsB ops = true) (hk : backB ops 0 = true) (hsz : (ops.all fun o => match o.dst with | some t => Nat.blt t a0.tmps.size | none => true) = true)
    (hG : ∀ i j v w w', liveB ops eat i j = true → G i w w' → R j v w → R j v w') (hS : S { w with drawn := w.drawn + 1 }) (hs : FSteps P ops eat S G R a0 Q ops 0)
    (hfin : ∀ (vs : List Value) w, vs.length = ops.length → S w → (∀ j v, vs[j]? = some v → (∀ i, i < ops.length → eat.contains (i, j) = false) → R j v w) → Q .normal (lay ops (vs.map some) a0) w) : (Code.region id ops.toArray true).wp P Q a0 w := by
  refine wp_region_held (S := S) hm ?_
  have h := flow_go hd hk (fun o ho t ht => by
    have := (List.all_eq_true.1 hsz) o ho
    rw [ht] at this; simpa [Nat.blt_eq] using this) hG hs hfin ops.length (List.replicate ops.length none) _ (by simp) (by simp) hS (fun i v h _ => by
    rw [List.getElem?_replicate] at h; split at h <;> cases h) (fun i v _ h => by
    rw [List.getElem?_replicate] at h; split at h <;> cases h)
  have e1 : lay ops (List.replicate ops.length none) a0 = a0 := by
    clear h hs hfin hsz hd hk hG
    induction ops with
    | nil => rfl
    | cons o os ih => exact ih
  rw [e1] at h
  have e2 : ((List.replicate ops.length (none : Option Value)).map Option.isSome).toArray = Array.replicate ops.length false := by simp
  rw [e2] at h
  exact h
end
end Go.Proofs.YtdbdjjjmomociaaGreatDoor
/- Flows whose operations yield plain values, expressions and rows of them, and only lay new memory. -/
namespace Go.Proofs.YtdbdjjjmomociaaGreatDoor
set_option maxRecDepth 100000
open Go.RowKit

set_option linter.unusedVariables false
theorem ev {a : Act} {t : Nat} {v : Value} (h : a.tmps[t]? = some v) : a.eval (.tmp t) = v := by
  simp [Act.eval, Array.getD_eq_getD_getElem?, h]
section
variable {o : Oper} {a : Act} {w w' : World} {K : Act → World → Prop} {Q : Exit → Act → World → Prop}
theorem wp_val {v : Value} (h : (execOp a.eval o).run Tryz.prog w = .ok (.value v) w') (hK : K (a.put o.dst v) w') : o.wp Tryz.prog a w K Q := by
  unfold Oper.wp
  rw [h, Oper.upon_value]
  exact hK
theorem wp_ent {f : FuncId} {vs : Array Value} (h : (execOp a.eval o).run Tryz.prog w = .ok (.enter f vs) w) (hc : Calls Tryz.prog f vs w fun e w' => ∃ v, e = .returned v ∧ K (a.put o.dst v) w') : o.wp Tryz.prog a w K Q := by
  unfold Oper.wp
  rw [h, Oper.upon_enter]
  refine hc.mono ?_
  rintro e w' ⟨v, rfl, hk⟩
  exact hk
end
theorem want_in {ops : List Oper} {o oj : Oper} {a : Act} {j t : Nat} {b : Bool} (hg : o.guard = some (j, b)) (hj : ops[j]? = some oj) (ht : oj.dst = some t) (h : a.tmps[t]? = some (.bool b)) : Region.wanted o (yielded ops.toArray a.tmps) = true := by
  unfold Region.wanted yielded
  simp [hg, hj, ht, h]

/-- What an operation yields. -/
inductive Sp where
  | val (v : Value)
  | re (r : RE)
  | row (l : List RE)
  | any
  | blk (cs : Array Value) (t : TypeId)
def Sp.at : Sp → Value → World → Prop
  | .val u, v, _ => v = u
  | .re r, v, w => ∃ b, v = PT b ∧ ReAt w b r
  | .row l, v, w => ResRow w v l
  | .any, _, _ => True
  | .blk cs t, v, w => ∃ b, v = .slice (some ⟨b, 0, none⟩) cs.size cs.size ∧ Blk w b cs t
theorem Sp.keep {s : Sp} {v : Value} {w w' : World} (hb : Below w.heap.size w w') (h : s.at v w) : s.at v w' := by
  cases s with
  | val u => exact h
  | re r => obtain ⟨b, h1, h2⟩ := h; exact ⟨b, h1, h2.keep hb⟩
  | row l => exact ResRow.below h hb
  | any => trivial
  | blk cs t => obtain ⟨b, h1, h2⟩ := h; exact ⟨b, h1, h2.below hb h2.lt⟩

def BStep (ops : List Oper) (sp : List Sp) (w0 : World) (a0 : Act) (Q : Exit → Act → World → Prop) (i : Nat) (o : Oper) : Prop :=
  ∀ a w, Below w0.heap.size w0 w → (∀ t, noDst ops t = true → a.tmps[t]? = a0.tmps[t]?) → (∀ j, (depsOf o).contains j = true → ∃ v, (sp.getD j .any).at v w ∧ ∀ o' t, ops[j]? = some o' → o'.dst = some t → a.tmps[t]? = some v) →
    Region.wanted o (yielded ops.toArray a.tmps) = true ∧ ∀ K : Act → World → Prop, (∀ v w', (sp.getD i .any).at v w' → Below w.heap.size w w' → K (a.put o.dst v) w') → o.wp Tryz.prog a w K Q
def BSteps (ops : List Oper) (sp : List Sp) (w0 : World) (a0 : Act) (Q : Exit → Act → World → Prop) : List Oper → Nat → Prop
  | [], _ => True
  | o :: os, k => BStep ops sp w0 a0 Q k o ∧ BSteps ops sp w0 a0 Q os (k + 1)
theorem BSteps.steps {ops : List Oper} {sp : List Sp} {w0 : World} {a0 : Act} {Q : Exit → Act → World → Prop} : ∀ (os : List Oper) (k : Nat), BSteps ops sp w0 a0 Q os k →
    FSteps Tryz.prog ops [] (fun w => Below w0.heap.size w0 w) (fun _ w w' => Below w.heap.size w w') (fun j v w => (sp.getD j .any).at v w) a0 Q os k
  | [], _, _ => trivial
  | o :: os, k, h => ⟨fun a w hS _ hk hd => by
      obtain ⟨h1, h2⟩ := h.1 a w hS hk (fun j hj => hd j hj rfl)
      refine .inl ⟨h1, h2 _ ?_⟩
      intro v w' hv hb
      exact ⟨v, rfl, hv, hS.trans (hb.mono hS.size), hb⟩, BSteps.steps os (k + 1) h.2⟩
theorem flowB {ops : List Oper} {w0 : World} {a0 : Act} {Q : Exit → Act → World → Prop} {id : Nat} (sp : List Sp) (hm : (Tryz.prog).follows .mixedOrders = true) (hd : dstsB ops = true) (hk : backB ops 0 = true) (hsz : (ops.all fun o => match o.dst with | some t => Nat.blt t a0.tmps.size | none => true) = true)
    (hs : BSteps ops sp w0 a0 Q ops 0)
    (hfin : ∀ (vs : List Value) w, vs.length = ops.length → Below w0.heap.size w0 w → (∀ j v, vs[j]? = some v → (sp.getD j .any).at v w) → Q .normal (lay ops (vs.map some) a0) w) : (Code.region id ops.toArray true).wp Tryz.prog Q a0 w0 :=
  flow [] (fun w => Below w0.heap.size w0 w) (fun _ w w' => Below w.heap.size w w') (fun j v w => (sp.getD j .any).at v w) hm hd hk hsz (fun _ _ _ _ _ _ hb h => Sp.keep hb h) ⟨rfl, rfl, rfl, Nat.le_refl _, fun _ _ => rfl⟩ (BSteps.steps ops 0 hs)
    fun vs w hl hS hR => hfin vs w hl hS fun j v hv => hR j v hv fun _ _ => rfl
end Go.Proofs.YtdbdjjjmomociaaGreatDoor
/- Pieces: Write, the base. -/
namespace Go.Proofs.YtdbdjjjmomociaaGreatDoor
set_option maxRecDepth 100000
set_option linter.unusedSimpArgs false
set_option linter.unusedVariables false
open Go.RowKit Go.Shelf
theorem i64_and3P (n : Int) : bits .and .i64 n 3 = n % 4 := by
  have h3 : (BitVec.ofInt 64 3).toNat = 2 ^ 2 - 1 := by decide
  have key : (BitVec.ofInt 64 n &&& BitVec.ofInt 64 3).toNat = (n % ((2 ^ 64 : Nat) : Int)).toNat % 2 ^ 2 := by
    rw [BitVec.toNat_and, BitVec.toNat_ofInt, h3, Nat.and_two_pow_sub_one_eq_mod]
  show IntKind.i64.wrap ((BitVec.ofInt 64 n &&& BitVec.ofInt 64 3).toNat : Nat) = n % 4
  rw [key, IntKind.wrap_i64]
  omega
theorem u8_and7 (n : Nat) (h : n < 256) : bits .and .u8 (n : Int) 7 = ((n % 8 : Nat) : Int) := by
  have key : ∀ m : Nat, m < 256 → bits .and .u8 (m : Int) 7 = ((m % 8 : Nat) : Int) := by decide +kernel
  exact key n h
theorem u8_and3P (n : Nat) (h : n < 256) : bits .and .u8 (n : Int) 3 = ((n % 4 : Nat) : Int) := by
  have key : ∀ m : Nat, m < 256 → bits .and .u8 (m : Int) 3 = ((m % 4 : Nat) : Int) := by decide +kernel
  exact key n h
theorem str_1 (x : UInt8) : (⟨#[x]⟩ : ByteArray) = strB [x.toNat] := by
  apply ByteArray.ext; simp [strB, strOfNums]

/-- What Write answers. -/
def WrOk (s : PC) : Prop := ∀ (cs : List Value) (w : World), PcC w cs s → TabAt w →
  Calls Tryz.prog 16 #[PcVal cs] w fun e w' => ∃ b, e = .returned (.tuple #[.string (strB s.wr.t), PT b]) ∧ ReAt w' b s.wr.x ∧ Below w.heap.size w w'
structure OneP (w : World) (B : Nat) (s : PC) (a : Option Addr) (c : Nat) (W : World) : Prop where
  below : Below B w W
  x : Blk W B (pcC s a c) 35
theorem OneP.step {w : World} {B : Nat} {s : PC} {a : Option Addr} {c : Nat} {W W' : World} (h : OneP w B s a c W) (hb : Below W.heap.size W W') : OneP w B s a c W' :=
  ⟨h.below.trans (hb.mono (by have := h.x.lt; omega)), h.x.below hb h.x.lt⟩
theorem OneP.cells {w : World} {B : Nat} {s : PC} {a : Option Addr} {c : Nat} {W : World} (h : OneP w B s a c W) : W.cell? ⟨B, 0, none⟩ = some (.int .i64 s.op) ∧ W.cell? ⟨B, 1, none⟩ = some (.int .i64 s.gap) ∧ W.cell? ⟨B, 2, none⟩ = some (.int .u8 s.a) ∧ W.cell? ⟨B, 3, none⟩ = some (.int .u8 s.b) ∧ W.cell? ⟨B, 4, none⟩ = some (.slice a s.kids.length c) :=
  ⟨h.x.cell 0, h.x.cell 1, h.x.cell 2, h.x.cell 3, h.x.cell 4⟩
def gapC : Array Value := #[.string ⟨#[]⟩, .string ⟨#[]⟩, .string ⟨#[32]⟩, .string ⟨#[10, 9]⟩]
theorem gapC_at : ∀ g, g < 4 → gapC[g]? = some (.string (strB (gapT g))) := by
  intro g hg
  match g, hg with
  | 0, _ => rfl
  | 1, _ => rfl
  | 2, _ => rfl
  | 3, _ => rfl
  | g + 4, h => omega
theorem PC.cntB (p : PC) : p.wr.x.cnt + 2 ≤ 2 ^ (p.nodes + 2) := by
  refine PC.ind (P := fun p => p.wr.x.cnt + 2 ≤ 2 ^ (p.nodes + 2)) ?_ p
  intro o g a b ks ih
  have key : ∀ l : List PC, (∀ k ∈ l, k.wr.x.cnt + 2 ≤ 2 ^ (k.nodes + 2)) → (((l.map PC.wr).getD 0 w4D).x.cnt + 2) + (((l.map PC.wr).getD 1 w4D).x.cnt + 2) ≤ 2 ^ ((l.map PC.nodes).sum + 3) ∧ (((l.map PC.wr).getD 0 w4D).x.cnt + 2) ≤ 2 ^ ((l.map PC.nodes).sum + 2) := fun l h => by
    have hD : w4D.x.cnt = 1 := show (rOne (setOf [98])).cnt = 1 from cnt_one _
    match l, h with
    | [], _ => simp [hD]
    | [x], h =>
      have h1 := h x (by simp)
      have e : 2 ^ (x.nodes + 3) = 2 ^ (x.nodes + 2) * 2 := Nat.pow_succ ..
      have e2 : 2 ^ (x.nodes + 2) = 2 ^ x.nodes * 4 := by rw [Nat.pow_add]
      have hp : 1 ≤ 2 ^ x.nodes := Nat.one_le_two_pow
      simp [hD]; omega
    | x :: y :: r, h =>
      have h1 := h x (by simp)
      have h2 := h y (by simp)
      have m1 : 2 ^ (x.nodes + 2) ≤ 2 ^ (x.nodes + (y.nodes + (r.map PC.nodes).sum) + 2) := Nat.pow_le_pow_right (by decide) (by omega)
      have m2 : 2 ^ (y.nodes + 2) ≤ 2 ^ (x.nodes + (y.nodes + (r.map PC.nodes).sum) + 2) := Nat.pow_le_pow_right (by decide) (by omega)
      have e : 2 ^ (x.nodes + (y.nodes + (r.map PC.nodes).sum) + 3) = 2 ^ (x.nodes + (y.nodes + (r.map PC.nodes).sum) + 2) * 2 := Nat.pow_succ ..
      simp; omega
  obtain ⟨k1, k2⟩ := key ks ih
  have e : 2 ^ (1 + (ks.map PC.nodes).sum + 2) = 2 ^ ((ks.map PC.nodes).sum + 3) := by congr 1; omega
  have e2 : 2 ^ ((ks.map PC.nodes).sum + 3) = 2 ^ ((ks.map PC.nodes).sum + 2) * 2 := Nat.pow_succ ..
  have hp : 8 ≤ 2 ^ ((ks.map PC.nodes).sum + 3) := Nat.le_trans (by decide : 8 ≤ 2 ^ 3) (Nat.pow_le_pow_right (by decide) (by omega))
  rw [PC.wr_mk, PC.nodes_mk, e]
  generalize (ks.map PC.wr).getD 0 w4D = u at *
  generalize (ks.map PC.wr).getD 1 w4D = v at *
  generalize 2 ^ ((ks.map PC.nodes).sum + 3) = N at *
  have t2 : ∀ x y : RE, cntL [x, y] = x.cnt + y.cnt := fun x y => by rw [cntL_cons, cntL_cons]; simp [cntL]
  have q0 := cnt_any [u.x, v.x]
  have q1 := cnt_but u.x v.x
  have q2 := cnt_both [u.x, v.x]
  have q3 := cnt_then [u.x, v.x]
  have q4 := cnt_many u.x
  have q5 := cnt_then [u.x, rMany u.x]
  have q6 := cnt_any [u.x, rEmpty]
  rw [t2] at q0 q2 q3 q5 q6
  rw [cnt_empty] at q6
  unfold pcW
  by_cases h0 : (PC.mk o g a b ks).k = 0
  · rw [if_pos h0]; show (rAny [u.x, v.x]).cnt + 2 ≤ N; omega
  rw [if_neg h0]
  by_cases h1 : (PC.mk o g a b ks).k = 1
  · rw [if_pos h1]; show (rBut u.x v.x).cnt + 2 ≤ N; omega
  rw [if_neg h1]
  by_cases h2 : (PC.mk o g a b ks).k = 2
  · rw [if_pos h2]; show (rBoth [u.x, v.x]).cnt + 2 ≤ N; omega
  rw [if_neg h2]
  by_cases h3 : (PC.mk o g a b ks).k = 3
  · rw [if_pos h3]; show (rThen [u.x, v.x]).cnt + 2 ≤ N; omega
  rw [if_neg h3]
  by_cases h4 : (PC.mk o g a b ks).k = 4
  · rw [if_pos h4]; show (rMany u.x).cnt + 2 ≤ N; omega
  rw [if_neg h4]
  by_cases h5 : (PC.mk o g a b ks).k = 5
  · rw [if_pos h5]; show (rThen [u.x, rMany u.x]).cnt + 2 ≤ N; omega
  rw [if_neg h5]
  by_cases h6 : (PC.mk o g a b ks).k = 6
  · rw [if_pos h6]; show (rAny [u.x, rEmpty]).cnt + 2 ≤ N; omega
  rw [if_neg h6]
  by_cases h7 : (PC.mk o g a b ks).k = 7
  · rw [if_pos h7]; show (rOne _).cnt + 2 ≤ N; rw [cnt_one]; omega
  rw [if_neg h7]
  by_cases h8 : (PC.mk o g a b ks).k = 8
  · rw [if_pos h8]; show (rOne _).cnt + 2 ≤ N; rw [cnt_one]; omega
  rw [if_neg h8]
  by_cases h9 : (PC.mk o g a b ks).k = 9
  · rw [if_pos h9]; show rEmpty.cnt + 2 ≤ N; rw [cnt_empty]; omega
  rw [if_neg h9]
  by_cases h10 : (PC.mk o g a b ks).k = 10
  · rw [if_pos h10]; show rNothing.cnt + 2 ≤ N; rw [cnt_nothing]; omega
  rw [if_neg h10]
  show (rOne allB).cnt + 2 ≤ N; rw [cnt_one]; omega
/-- What a piece that is not too big comes to. -/
structure Small (s : PC) : Prop where
  wf : Wf s.wr.x
  len : (strB s.wr.t).size ≤ 400
  cnt : s.wr.x.cnt ≤ 1000000000
theorem PC.small (s : PC) (h : s.nodes ≤ 25) : Small s := by
  obtain ⟨-, -, b3⟩ := s.bounds
  refine ⟨(s.good 0).wf, by rw [strB_size]; omega, ?_⟩
  have h1 := s.cntB
  have h2 : 2 ^ (s.nodes + 2) ≤ 2 ^ 27 := Nat.pow_le_pow_right (by decide) (by omega)
  omega
theorem cat_len2 {x y : RE} (hx : x.cnt ≤ 1000000000) (hy : y.cnt ≤ 2000000000) : (catL [x, y]).length ≤ 1099511627776 := by
  have h1 := cntL_len (catL [x, y])
  have h2 := cntL_catL [x, y]
  have h3 : cntL [x, y] = x.cnt + y.cnt := by rw [cntL_cons, cntL_cons]; simp [cntL]
  omega
theorem flat_len2 (o : Nat) {x y : RE} (hx : x.cnt ≤ 1000000000) (hy : y.cnt ≤ 2000000000) : (flatL o [x, y]).length ≤ 1099511627776 := by
  have h1 := cntL_len (flatL o [x, y])
  have h2 := cntL_flatL o [x, y]
  have h3 : cntL [x, y] = x.cnt + y.cnt := by rw [cntL_cons, cntL_cons]; simp [cntL]
  omega
theorem wf_two {x y : RE} (hx : Wf x) (hy : Wf y) : ∀ r ∈ [x, y], Wf r := fun r hr => by
  simp at hr
  rcases hr with rfl | rfl
  · exact hx
  · exact hy
theorem ab (w : World) (o : Obj) : Below w.heap.size w (w.alloc o) := (Below.refl _ _).alloc (Nat.le_refl _) o
end Go.Proofs.YtdbdjjjmomociaaGreatDoor
/- Pieces: Write, the cases 4, 9, 10, 11. -/
namespace Go.Proofs.YtdbdjjjmomociaaGreatDoor
set_option maxRecDepth 100000
set_option linter.unusedSimpArgs false
set_option linter.unusedVariables false
open Go.RowKit Go.Shelf
set_option maxHeartbeats 4000000 in
theorem pwrite_9 (s : PC) (hk : s.k = 9) : WrOk s := by
  intro cs w h hT
  have HC := hide h
  have HT := hide hT
  obtain ⟨v, hcs, hr, ho, hgb, ha, hb⟩ := h.open
  obtain ⟨hn, a, cap, rfl, -⟩ := hr.at
  have hv0 : PcVal cs = .agg #[.int .i64 s.op, .int .i64 s.gap, .int .u8 s.a, .int .u8 s.b, .slice a s.kids.length cap] := by rw [hcs]; rfl
  have HV0 := hide hv0
  rw [hv0]
  clear h hT hr hv0 hcs
  obtain ⟨g, hg4, hgap⟩ : ∃ g : Nat, g < 4 ∧ bits .and .i64 s.gap 3 = (g : Int) := ⟨s.g, s.g_lt, by rw [i64_and3P]; unfold PC.g; omega⟩
  have HG : Hid (g = s.g) := by
    have h2 : bits .and .i64 s.gap 3 = (s.g : Int) := by rw [i64_and3P]; unfold PC.g; omega
    show g = s.g; omega
  have hA7 := u8_and7 s.a ha
  have hB3 := u8_and3P s.b hb
  have hLo : IntKind.u8.wrap (97 + ((s.a % 8 : Nat) : Int)) = ((97 + s.a % 8 : Nat) : Int) := by simp [IntKind.wrap, IntKind.signed, IntKind.bits]; omega
  have hHi : IntKind.u8.wrap (((97 + s.a % 8 : Nat) : Int) + ((s.b % 4 : Nat) : Int)) = ((97 + s.a % 8 + s.b % 4 : Nat) : Int) := by simp [IntKind.wrap, IntKind.signed, IntKind.bits]; omega
  have HWR : Hid (s.wr = pcW 9 g (97 + s.a % 8) (97 + s.a % 8 + s.b % 4) (s.kid 0).wr (s.kid 1).wr) := by rw [s.wr_kid, hk, HG.out]; rfl
  obtain ⟨B, hB⟩ : ∃ B, B = w.heap.size := ⟨_, rfl⟩
  obtain ⟨w0, hw0⟩ : ∃ w0, w0 = w.alloc (.cells (pcC s a cap) 35) := ⟨_, rfl⟩
  have hO0 : OneP w B s a cap w0 := by rw [hw0]; exact ⟨(Below.refl _ _).alloc (Nat.le_of_eq hB) _, Blk.newAt hB _ _⟩
  have ew0 := hw0.symm
  unfold pcC at ew0
  obtain ⟨w1, hw1⟩ : ∃ w1, w1 = w0.alloc (.cells gapC 9) := ⟨_, rfl⟩
  have hO1 : OneP w B s a cap w1 := by rw [hw1]; exact hO0.step ((Below.refl _ _).alloc (Nat.le_refl _) _)
  have cg : w1.cell? ⟨w0.heap.size, g, none⟩ = some (.string (strB (gapT g))) := by rw [hw1]; exact ((Blk.new w0 gapC 9).cell g).trans (gapC_at g hg4)
  have ew1 := hw1.symm
  unfold gapC at ew1
  have HO1 := hide hO1
  have HB := hide hB
  have x1 : w1.cell? ⟨w.heap.size, 1, none⟩ = some (.int .i64 s.gap) := hB ▸ hO1.cells.2.1
  clear hB
  obtain ⟨gs, hgs⟩ : ∃ gs, gs = strB (gapT g) := ⟨_, rfl⟩
  have hgsz : gs.size ≤ 2 := by rw [hgs, strB_size]; exact gapT_len g
  rw [← hgs] at cg
  have HGS := hide hgs
  have HG4 := hide hg4
  clear hw0 hw1 hO0 hO1 hgs
  go_enter Tryz.func16, Tryz.ntmps16
  go_wp2_with fail
  refine (nothing_any w1).mono ?_
  rintro e w2 ⟨n1, rfl, hn1, hb1⟩
  have HO2 := hide (HO1.out.step hb1)
  clear hn1 hb1 cg ew0 ew1 x1 HO1
  unfold PT
  go_wp2_with fail
  refine (nothing_any w2).mono ?_
  rintro e w3 ⟨n2, rfl, hn2, hb2⟩
  have HO3 := hide (HO2.out.step hb2)
  clear hn2 hb2 HO2
  unfold PT
  rw [← HB.out]
  obtain ⟨x0, x1, x2, x3, x4⟩ := HO3.out.cells
  have hop := pop_any s cs w3 (HC.out.keep (HB.out ▸ HO3.out.below))
  rw [HV0.out, hk] at hop
  have HOP := hide hop
  clear hop
  go_wp2_with fail
  refine HOP.out.mono ?_
  rintro e w4 ⟨rfl, hb⟩
  have HO4 := hide (HO3.out.step hb)
  clear hb HO3 HOP x0 x1 x2 x3 x4
  obtain ⟨x0, x1, x2, x3, x4⟩ := HO4.out.cells
  have hop := pop_any s cs w4 (HC.out.keep (HB.out ▸ HO4.out.below))
  rw [HV0.out, hk] at hop
  have HOP := hide hop
  clear hop
  go_wp2_with fail
  refine HOP.out.mono ?_
  rintro e w5 ⟨rfl, hb⟩
  have HO5 := hide (HO4.out.step hb)
  clear hb HO4 HOP x0 x1 x2 x3 x4
  obtain ⟨x0, x1, x2, x3, x4⟩ := HO5.out.cells
  have hop := pop_any s cs w5 (HC.out.keep (HB.out ▸ HO5.out.below))
  rw [HV0.out, hk] at hop
  have HOP := hide hop
  clear hop
  go_wp2_with fail
  refine HOP.out.mono ?_
  rintro e w6 ⟨rfl, hb⟩
  have HO6 := hide (HO5.out.step hb)
  clear hb HO5 HOP x0 x1 x2 x3 x4
  go_wp2_with fail
  all_goals try (exfalso; simp only [ByteArray.size_append] at *; omega)
  refine (empty_re w6).mono ?_
  rintro e w7 ⟨bz, rfl, hrz, hb⟩
  have HO7 := hide (HO6.out.step hb)
  have HRZ := hide hrz
  clear hrz
  clear hb HO6
  unfold PT
  go_wp2
  all_goals try (exfalso; simp only [ByteArray.size_append] at *; omega)
  go_ret2
  have hs : gs ++ ⟨#[40]⟩ ++ gs ++ ⟨#[41]⟩ = strB s.wr.t := by
    rw [HWR.out, HGS.out]
    show strB (gapT g) ++ strB [40] ++ strB (gapT g) ++ strB [41] = strB _
    simp only [← strB_append]
    congr 1 <;> simp [pcW]
  rw [← hs]
  exact ⟨bz, rfl, by rw [HWR.out]; exact HRZ.out, HB.out ▸ HO7.out.below⟩
set_option maxHeartbeats 4000000 in
theorem pwrite_10 (s : PC) (hk : s.k = 10) : WrOk s := by
  intro cs w h hT
  have HC := hide h
  have HT := hide hT
  obtain ⟨v, hcs, hr, ho, hgb, ha, hb⟩ := h.open
  obtain ⟨hn, a, cap, rfl, -⟩ := hr.at
  have hv0 : PcVal cs = .agg #[.int .i64 s.op, .int .i64 s.gap, .int .u8 s.a, .int .u8 s.b, .slice a s.kids.length cap] := by rw [hcs]; rfl
  have HV0 := hide hv0
  rw [hv0]
  clear h hT hr hv0 hcs
  obtain ⟨g, hg4, hgap⟩ : ∃ g : Nat, g < 4 ∧ bits .and .i64 s.gap 3 = (g : Int) := ⟨s.g, s.g_lt, by rw [i64_and3P]; unfold PC.g; omega⟩
  have HG : Hid (g = s.g) := by
    have h2 : bits .and .i64 s.gap 3 = (s.g : Int) := by rw [i64_and3P]; unfold PC.g; omega
    show g = s.g; omega
  have hA7 := u8_and7 s.a ha
  have hB3 := u8_and3P s.b hb
  have hLo : IntKind.u8.wrap (97 + ((s.a % 8 : Nat) : Int)) = ((97 + s.a % 8 : Nat) : Int) := by simp [IntKind.wrap, IntKind.signed, IntKind.bits]; omega
  have hHi : IntKind.u8.wrap (((97 + s.a % 8 : Nat) : Int) + ((s.b % 4 : Nat) : Int)) = ((97 + s.a % 8 + s.b % 4 : Nat) : Int) := by simp [IntKind.wrap, IntKind.signed, IntKind.bits]; omega
  have HWR : Hid (s.wr = pcW 10 g (97 + s.a % 8) (97 + s.a % 8 + s.b % 4) (s.kid 0).wr (s.kid 1).wr) := by rw [s.wr_kid, hk, HG.out]; rfl
  obtain ⟨B, hB⟩ : ∃ B, B = w.heap.size := ⟨_, rfl⟩
  obtain ⟨w0, hw0⟩ : ∃ w0, w0 = w.alloc (.cells (pcC s a cap) 35) := ⟨_, rfl⟩
  have hO0 : OneP w B s a cap w0 := by rw [hw0]; exact ⟨(Below.refl _ _).alloc (Nat.le_of_eq hB) _, Blk.newAt hB _ _⟩
  have ew0 := hw0.symm
  unfold pcC at ew0
  obtain ⟨w1, hw1⟩ : ∃ w1, w1 = w0.alloc (.cells gapC 9) := ⟨_, rfl⟩
  have hO1 : OneP w B s a cap w1 := by rw [hw1]; exact hO0.step ((Below.refl _ _).alloc (Nat.le_refl _) _)
  have cg : w1.cell? ⟨w0.heap.size, g, none⟩ = some (.string (strB (gapT g))) := by rw [hw1]; exact ((Blk.new w0 gapC 9).cell g).trans (gapC_at g hg4)
  have ew1 := hw1.symm
  unfold gapC at ew1
  have HO1 := hide hO1
  have HB := hide hB
  have x1 : w1.cell? ⟨w.heap.size, 1, none⟩ = some (.int .i64 s.gap) := hB ▸ hO1.cells.2.1
  clear hB
  obtain ⟨gs, hgs⟩ : ∃ gs, gs = strB (gapT g) := ⟨_, rfl⟩
  have hgsz : gs.size ≤ 2 := by rw [hgs, strB_size]; exact gapT_len g
  rw [← hgs] at cg
  have HGS := hide hgs
  have HG4 := hide hg4
  clear hw0 hw1 hO0 hO1 hgs
  go_enter Tryz.func16, Tryz.ntmps16
  go_wp2_with fail
  refine (nothing_any w1).mono ?_
  rintro e w2 ⟨n1, rfl, hn1, hb1⟩
  have HO2 := hide (HO1.out.step hb1)
  clear hn1 hb1 cg ew0 ew1 x1 HO1
  unfold PT
  go_wp2_with fail
  refine (nothing_any w2).mono ?_
  rintro e w3 ⟨n2, rfl, hn2, hb2⟩
  have HO3 := hide (HO2.out.step hb2)
  clear hn2 hb2 HO2
  unfold PT
  rw [← HB.out]
  obtain ⟨x0, x1, x2, x3, x4⟩ := HO3.out.cells
  have hop := pop_any s cs w3 (HC.out.keep (HB.out ▸ HO3.out.below))
  rw [HV0.out, hk] at hop
  have HOP := hide hop
  clear hop
  go_wp2_with fail
  refine HOP.out.mono ?_
  rintro e w4 ⟨rfl, hb⟩
  have HO4 := hide (HO3.out.step hb)
  clear hb HO3 HOP x0 x1 x2 x3 x4
  obtain ⟨x0, x1, x2, x3, x4⟩ := HO4.out.cells
  have hop := pop_any s cs w4 (HC.out.keep (HB.out ▸ HO4.out.below))
  rw [HV0.out, hk] at hop
  have HOP := hide hop
  clear hop
  go_wp2_with fail
  refine HOP.out.mono ?_
  rintro e w5 ⟨rfl, hb⟩
  have HO5 := hide (HO4.out.step hb)
  clear hb HO4 HOP x0 x1 x2 x3 x4
  obtain ⟨x0, x1, x2, x3, x4⟩ := HO5.out.cells
  have hop := pop_any s cs w5 (HC.out.keep (HB.out ▸ HO5.out.below))
  rw [HV0.out, hk] at hop
  have HOP := hide hop
  clear hop
  go_wp2_with fail
  refine HOP.out.mono ?_
  rintro e w6 ⟨rfl, hb⟩
  have HO6 := hide (HO5.out.step hb)
  clear hb HO5 HOP x0 x1 x2 x3 x4
  go_wp2_with fail
  all_goals try (exfalso; simp only [ByteArray.size_append] at *; omega)
  refine (nothing_any w6).mono ?_
  rintro e w7 ⟨bz, rfl, hrz, hb⟩
  have HO7 := hide (HO6.out.step hb)
  have HRZ := hide hrz
  clear hrz
  clear hb HO6
  unfold PT
  go_wp2
  all_goals try (exfalso; simp only [ByteArray.size_append] at *; omega)
  go_ret2
  have hs : gs ++ ⟨#[91, 93]⟩ = strB s.wr.t := by
    rw [HWR.out, HGS.out]
    show strB (gapT g) ++ strB [91, 93] = strB _
    simp only [← strB_append]
    congr 1 <;> simp [pcW]
  rw [← hs]
  exact ⟨bz, rfl, by rw [HWR.out]; exact HRZ.out, HB.out ▸ HO7.out.below⟩
set_option maxHeartbeats 4000000 in
theorem pwrite_11 (s : PC) (hk : s.k = 11) : WrOk s := by
  intro cs w h hT
  have HC := hide h
  have HT := hide hT
  obtain ⟨v, hcs, hr, ho, hgb, ha, hb⟩ := h.open
  obtain ⟨hn, a, cap, rfl, -⟩ := hr.at
  have hv0 : PcVal cs = .agg #[.int .i64 s.op, .int .i64 s.gap, .int .u8 s.a, .int .u8 s.b, .slice a s.kids.length cap] := by rw [hcs]; rfl
  have HV0 := hide hv0
  rw [hv0]
  clear h hT hr hv0 hcs
  obtain ⟨g, hg4, hgap⟩ : ∃ g : Nat, g < 4 ∧ bits .and .i64 s.gap 3 = (g : Int) := ⟨s.g, s.g_lt, by rw [i64_and3P]; unfold PC.g; omega⟩
  have HG : Hid (g = s.g) := by
    have h2 : bits .and .i64 s.gap 3 = (s.g : Int) := by rw [i64_and3P]; unfold PC.g; omega
    show g = s.g; omega
  have hA7 := u8_and7 s.a ha
  have hB3 := u8_and3P s.b hb
  have hLo : IntKind.u8.wrap (97 + ((s.a % 8 : Nat) : Int)) = ((97 + s.a % 8 : Nat) : Int) := by simp [IntKind.wrap, IntKind.signed, IntKind.bits]; omega
  have hHi : IntKind.u8.wrap (((97 + s.a % 8 : Nat) : Int) + ((s.b % 4 : Nat) : Int)) = ((97 + s.a % 8 + s.b % 4 : Nat) : Int) := by simp [IntKind.wrap, IntKind.signed, IntKind.bits]; omega
  have HWR : Hid (s.wr = pcW 11 g (97 + s.a % 8) (97 + s.a % 8 + s.b % 4) (s.kid 0).wr (s.kid 1).wr) := by rw [s.wr_kid, hk, HG.out]; rfl
  obtain ⟨B, hB⟩ : ∃ B, B = w.heap.size := ⟨_, rfl⟩
  obtain ⟨w0, hw0⟩ : ∃ w0, w0 = w.alloc (.cells (pcC s a cap) 35) := ⟨_, rfl⟩
  have hO0 : OneP w B s a cap w0 := by rw [hw0]; exact ⟨(Below.refl _ _).alloc (Nat.le_of_eq hB) _, Blk.newAt hB _ _⟩
  have ew0 := hw0.symm
  unfold pcC at ew0
  obtain ⟨w1, hw1⟩ : ∃ w1, w1 = w0.alloc (.cells gapC 9) := ⟨_, rfl⟩
  have hO1 : OneP w B s a cap w1 := by rw [hw1]; exact hO0.step ((Below.refl _ _).alloc (Nat.le_refl _) _)
  have cg : w1.cell? ⟨w0.heap.size, g, none⟩ = some (.string (strB (gapT g))) := by rw [hw1]; exact ((Blk.new w0 gapC 9).cell g).trans (gapC_at g hg4)
  have ew1 := hw1.symm
  unfold gapC at ew1
  have HO1 := hide hO1
  have HB := hide hB
  have x1 : w1.cell? ⟨w.heap.size, 1, none⟩ = some (.int .i64 s.gap) := hB ▸ hO1.cells.2.1
  clear hB
  obtain ⟨gs, hgs⟩ : ∃ gs, gs = strB (gapT g) := ⟨_, rfl⟩
  have hgsz : gs.size ≤ 2 := by rw [hgs, strB_size]; exact gapT_len g
  rw [← hgs] at cg
  have HGS := hide hgs
  have HG4 := hide hg4
  clear hw0 hw1 hO0 hO1 hgs
  go_enter Tryz.func16, Tryz.ntmps16
  go_wp2_with fail
  refine (nothing_any w1).mono ?_
  rintro e w2 ⟨n1, rfl, hn1, hb1⟩
  have HO2 := hide (HO1.out.step hb1)
  clear hn1 hb1 cg ew0 ew1 x1 HO1
  unfold PT
  go_wp2_with fail
  refine (nothing_any w2).mono ?_
  rintro e w3 ⟨n2, rfl, hn2, hb2⟩
  have HO3 := hide (HO2.out.step hb2)
  clear hn2 hb2 HO2
  unfold PT
  rw [← HB.out]
  obtain ⟨x0, x1, x2, x3, x4⟩ := HO3.out.cells
  have hop := pop_any s cs w3 (HC.out.keep (HB.out ▸ HO3.out.below))
  rw [HV0.out, hk] at hop
  have HOP := hide hop
  clear hop
  go_wp2_with fail
  refine HOP.out.mono ?_
  rintro e w4 ⟨rfl, hb⟩
  have HO4 := hide (HO3.out.step hb)
  clear hb HO3 HOP x0 x1 x2 x3 x4
  obtain ⟨x0, x1, x2, x3, x4⟩ := HO4.out.cells
  have hop := pop_any s cs w4 (HC.out.keep (HB.out ▸ HO4.out.below))
  rw [HV0.out, hk] at hop
  have HOP := hide hop
  clear hop
  go_wp2_with fail
  refine HOP.out.mono ?_
  rintro e w5 ⟨rfl, hb⟩
  have HO5 := hide (HO4.out.step hb)
  clear hb HO4 HOP x0 x1 x2 x3 x4
  obtain ⟨x0, x1, x2, x3, x4⟩ := HO5.out.cells
  have hop := pop_any s cs w5 (HC.out.keep (HB.out ▸ HO5.out.below))
  rw [HV0.out, hk] at hop
  have HOP := hide hop
  clear hop
  go_wp2_with fail
  refine HOP.out.mono ?_
  rintro e w6 ⟨rfl, hb⟩
  have HO6 := hide (HO5.out.step hb)
  clear hb HO5 HOP x0 x1 x2 x3 x4
  go_wp2_with fail
  all_goals try (exfalso; simp only [ByteArray.size_append] at *; omega)
  refine (all_any w6).mono ?_
  rintro e w7 ⟨rfl, hb⟩
  have HO7 := hide (HO6.out.step hb)
  clear hb HO6
  unfold SV
  go_wp2_with fail
  refine (one_any allB w7).mono ?_
  rintro e w8 ⟨bz, rfl, hrz, hb⟩
  have HO8 := hide (HO7.out.step hb)
  have HRZ := hide hrz
  clear hrz
  clear hb HO7
  unfold PT
  go_wp2
  all_goals try (exfalso; simp only [ByteArray.size_append] at *; omega)
  go_ret2
  have hs : gs ++ ⟨#[46]⟩ = strB s.wr.t := by
    rw [HWR.out, HGS.out]
    show strB (gapT g) ++ strB [46] = strB _
    simp only [← strB_append]
    congr 1 <;> simp [pcW]
  rw [← hs]
  exact ⟨bz, rfl, by rw [HWR.out]; exact HRZ.out, HB.out ▸ HO8.out.below⟩
set_option maxHeartbeats 4000000 in
theorem pwrite_4 (s : PC) (hk : s.k = 4) (h0 : WrOk (s.kid 0)) (z0 : Small (s.kid 0)) : WrOk s := by
  intro cs w h hT
  have HC := hide h
  have HT := hide hT
  have HW0 := hide h0
  have HZ0 := hide z0
  clear h0 z0
  obtain ⟨v, hcs, hr, ho, hgb, ha, hb⟩ := h.open
  obtain ⟨hn, a, cap, rfl, -⟩ := hr.at
  have hv0 : PcVal cs = .agg #[.int .i64 s.op, .int .i64 s.gap, .int .u8 s.a, .int .u8 s.b, .slice a s.kids.length cap] := by rw [hcs]; rfl
  have HV0 := hide hv0
  rw [hv0]
  clear h hT hr hv0 hcs
  obtain ⟨g, hg4, hgap⟩ : ∃ g : Nat, g < 4 ∧ bits .and .i64 s.gap 3 = (g : Int) := ⟨s.g, s.g_lt, by rw [i64_and3P]; unfold PC.g; omega⟩
  have HG : Hid (g = s.g) := by
    have h2 : bits .and .i64 s.gap 3 = (s.g : Int) := by rw [i64_and3P]; unfold PC.g; omega
    show g = s.g; omega
  have hA7 := u8_and7 s.a ha
  have hB3 := u8_and3P s.b hb
  have hLo : IntKind.u8.wrap (97 + ((s.a % 8 : Nat) : Int)) = ((97 + s.a % 8 : Nat) : Int) := by simp [IntKind.wrap, IntKind.signed, IntKind.bits]; omega
  have hHi : IntKind.u8.wrap (((97 + s.a % 8 : Nat) : Int) + ((s.b % 4 : Nat) : Int)) = ((97 + s.a % 8 + s.b % 4 : Nat) : Int) := by simp [IntKind.wrap, IntKind.signed, IntKind.bits]; omega
  have HWR : Hid (s.wr = pcW 4 g (97 + s.a % 8) (97 + s.a % 8 + s.b % 4) (s.kid 0).wr (s.kid 1).wr) := by rw [s.wr_kid, hk, HG.out]; rfl
  obtain ⟨B, hB⟩ : ∃ B, B = w.heap.size := ⟨_, rfl⟩
  obtain ⟨w0, hw0⟩ : ∃ w0, w0 = w.alloc (.cells (pcC s a cap) 35) := ⟨_, rfl⟩
  have hO0 : OneP w B s a cap w0 := by rw [hw0]; exact ⟨(Below.refl _ _).alloc (Nat.le_of_eq hB) _, Blk.newAt hB _ _⟩
  have ew0 := hw0.symm
  unfold pcC at ew0
  obtain ⟨w1, hw1⟩ : ∃ w1, w1 = w0.alloc (.cells gapC 9) := ⟨_, rfl⟩
  have hO1 : OneP w B s a cap w1 := by rw [hw1]; exact hO0.step ((Below.refl _ _).alloc (Nat.le_refl _) _)
  have cg : w1.cell? ⟨w0.heap.size, g, none⟩ = some (.string (strB (gapT g))) := by rw [hw1]; exact ((Blk.new w0 gapC 9).cell g).trans (gapC_at g hg4)
  have ew1 := hw1.symm
  unfold gapC at ew1
  have HO1 := hide hO1
  have HB := hide hB
  have x1 : w1.cell? ⟨w.heap.size, 1, none⟩ = some (.int .i64 s.gap) := hB ▸ hO1.cells.2.1
  clear hB
  obtain ⟨gs, hgs⟩ : ∃ gs, gs = strB (gapT g) := ⟨_, rfl⟩
  have hgsz : gs.size ≤ 2 := by rw [hgs, strB_size]; exact gapT_len g
  rw [← hgs] at cg
  have HGS := hide hgs
  have HG4 := hide hg4
  clear hw0 hw1 hO0 hO1 hgs
  go_enter Tryz.func16, Tryz.ntmps16
  go_wp2_with fail
  refine (nothing_any w1).mono ?_
  rintro e w2 ⟨n1, rfl, hn1, hb1⟩
  have HO2 := hide (HO1.out.step hb1)
  clear hn1 hb1 cg ew0 ew1 x1 HO1
  unfold PT
  go_wp2_with fail
  refine (nothing_any w2).mono ?_
  rintro e w3 ⟨n2, rfl, hn2, hb2⟩
  have HO3 := hide (HO2.out.step hb2)
  clear hn2 hb2 HO2
  unfold PT
  rw [← HB.out]
  obtain ⟨x0, x1, x2, x3, x4⟩ := HO3.out.cells
  have hop := pop_any s cs w3 (HC.out.keep (HB.out ▸ HO3.out.below))
  rw [HV0.out, hk] at hop
  have HOP := hide hop
  clear hop
  go_wp2_with fail
  refine HOP.out.mono ?_
  rintro e w4 ⟨rfl, hb⟩
  have HO4 := hide (HO3.out.step hb)
  clear hb HO3 HOP x0 x1 x2 x3 x4
  obtain ⟨x0, x1, x2, x3, x4⟩ := HO4.out.cells
  have hkd := pkid_any s 0 (by decide) cs w4 (HC.out.keep (HB.out ▸ HO4.out.below))
  rw [HV0.out] at hkd
  have HKD := hide hkd
  clear hkd
  go_wp2_with fail
  refine HKD.out.mono ?_
  rintro e w5 ⟨cs0, rfl, hcs0, hb⟩
  have HO5 := hide (HO4.out.step hb)
  have HCS := hide hcs0
  clear hb hcs0 HO4 HKD x0 x1 x2 x3 x4
  go_wp2_with fail
  refine (HW0.out cs0 w5 HCS.out (HT.out.pastE (HB.out ▸ HO5.out.below))).mono ?_
  rintro e w6 ⟨b0, rfl, hr0, hb⟩
  have HO6 := hide (HO5.out.step hb)
  have HR0 := hide hr0
  clear hb hr0 HO5 HCS
  obtain ⟨t0, ht0⟩ : ∃ t, t = strB (s.kid 0).wr.t := ⟨_, rfl⟩
  have hz0 : t0.size ≤ 400 := by rw [ht0]; exact HZ0.out.len
  rw [← ht0]
  have HT0 := hide ht0
  clear ht0
  unfold PT
  obtain ⟨x0, x1, x2, x3, x4⟩ := HO6.out.cells
  have hop := pop_any s cs w6 (HC.out.keep (HB.out ▸ HO6.out.below))
  rw [HV0.out, hk] at hop
  have HOP := hide hop
  clear hop
  go_wp2_with fail
  refine HOP.out.mono ?_
  rintro e w7 ⟨rfl, hb⟩
  have HO7 := hide (HO6.out.step hb)
  have HR0n := hide (HR0.out.keep hb)
  clear HR0
  have HR0 := HR0n
  clear HR0n
  clear hb HO6 HOP x0 x1 x2 x3 x4
  obtain ⟨x0, x1, x2, x3, x4⟩ := HO7.out.cells
  have hop := pop_any s cs w7 (HC.out.keep (HB.out ▸ HO7.out.below))
  rw [HV0.out, hk] at hop
  have HOP := hide hop
  clear hop
  go_wp2_with fail
  refine HOP.out.mono ?_
  rintro e w8 ⟨rfl, hb⟩
  have HO8 := hide (HO7.out.step hb)
  have HR0n := hide (HR0.out.keep hb)
  clear HR0
  have HR0 := HR0n
  clear HR0n
  clear hb HO7 HOP x0 x1 x2 x3 x4
  go_wp2_with fail
  all_goals try (exfalso; simp only [ByteArray.size_append] at *; omega)
  refine (many_any b0 _ w8 HR0.out).mono ?_
  rintro e w9 ⟨bz, rfl, hrz, hb⟩
  have HO9 := hide (HO8.out.step hb)
  have HRZ := hide hrz
  clear hrz
  clear hb HO8
  unfold PT
  go_wp2
  all_goals try (exfalso; simp only [ByteArray.size_append] at *; omega)
  go_ret2
  have hs : (⟨#[40]⟩ : ByteArray) ++ t0 ++ ⟨#[41]⟩ ++ gs ++ ⟨#[42]⟩ = strB s.wr.t := by
    rw [HWR.out, HGS.out, HT0.out]
    show strB [40] ++ strB (s.kid 0).wr.t ++ strB [41] ++ strB (gapT g) ++ strB [42] = strB _
    simp only [← strB_append]
    congr 1 <;> simp [pcW]
  rw [← hs]
  exact ⟨bz, rfl, by rw [HWR.out]; exact HRZ.out, HB.out ▸ HO9.out.below⟩
end Go.Proofs.YtdbdjjjmomociaaGreatDoor
