/- Texts of this claim put together: PlA, PlB. -/
import Derived.Test.YtblpekljiilkjaaGreatDoorJoinLwA
import Derived.Test.YtblpekljiilkjaaGreatDoorJoinTwB
/- Plans: trees that came in; terms of the lens language, and their texts. -/
namespace Go.Proofs.YtblpekljiilkjaaGreatDoor
set_option maxRecDepth 100000
set_option linter.unusedSimpArgs false
set_option linter.unusedVariables false
open Go.RowKit

inductive PL : Type where
  | mk (op wd num : Int) (kids : List PL) : PL
def PL.op : PL → Int | .mk o _ _ _ => o
def PL.wd : PL → Int | .mk _ l _ _ => l
def PL.num : PL → Int | .mk _ _ h _ => h
def PL.kids : PL → List PL | .mk _ _ _ ks => ks
theorem PL.ind {P : PL → Prop} (h : ∀ o l u ks, (∀ k ∈ ks, P k) → P (.mk o l u ks)) (s : PL) : P s := by
  cases s with
  | mk o l u ks => exact h o l u ks fun k hk => PL.ind h k
termination_by SizeOf.sizeOf s
decreasing_by
  have := List.sizeOf_lt_of_mem hk
  simp; omega



/-- The elements of a slice of plans, four cells each. -/
def PlRow (w : World) (v : Value) (n : Nat) (cells : Nat → List Value) : Prop :=
  (n ≤ 9223372036854775807 ∧ capOk v) ∧ ∃ a cap, v = .slice a n cap ∧ ∀ k, k < n → (cells k).length = 4 ∧ ∃ b off, a = some ⟨b, off, none⟩ ∧ b < w.heap.size ∧ ∀ j u, (cells k)[j]? = some u → w.cell? ⟨b, off + k * 4 + j, none⟩ = some u
theorem PlRow.keep {w w' : World} {v : Value} {n : Nat} {cells : Nat → List Value} (h : PlRow w v n cells) (hb : Below w.heap.size w w') : PlRow w' v n cells := by
  obtain ⟨h0, a, cap, rfl, h1⟩ := h
  refine ⟨h0, a, cap, rfl, fun k hk => ?_⟩
  obtain ⟨h2, b, off, e, hlt, hc⟩ := h1 k hk
  exact ⟨h2, b, off, e, Nat.lt_of_lt_of_le hlt hb.size, fun j u hu => (World.cell?_of_block (w := w) (hb.block b hlt)).trans (hc j u hu)⟩
inductive PlC (w : World) : List Value → PL → Prop where
  | mk (o l u : Int) (ks : List PL) (v : Value) (cells : Nat → List Value) (ho : I64 o) (hl : I64 l) (hu : I64 u)
      (hrow : PlRow w v ks.length cells) (hk : ∀ i k, ks[i]? = some k → PlC w (cells i) k) : PlC w [.int .i64 o, .int .i64 l, .int .i64 u, v] (.mk o l u ks)
theorem PlC.keep {w w' : World} {cs : List Value} {s : PL} (h : PlC w cs s) (hb : Below w.heap.size w w') : PlC w' cs s := by
  induction h with
  | mk o l u ks v cells ho hl hu hrow hk ih => exact .mk o l u ks v cells ho hl hu (hrow.keep hb) ih
/-- A slice of plans. -/
def PlsRow (w : World) (v : Value) (ks : List PL) : Prop := ∃ cells, PlRow w v ks.length cells ∧ ∀ i k, ks[i]? = some k → PlC w (cells i) k
theorem PlsRow.keep {w w' : World} {v : Value} {ks : List PL} (h : PlsRow w v ks) (hb : Below w.heap.size w w') : PlsRow w' v ks := by
  obtain ⟨cells, h1, h2⟩ := h
  exact ⟨cells, h1.keep hb, fun i k hk => (h2 i k hk).keep hb⟩
theorem PlC.open {w : World} {cs : List Value} {s : PL} (h : PlC w cs s) : ∃ v, cs = [.int .i64 s.op, .int .i64 s.wd, .int .i64 s.num, v] ∧ PlsRow w v s.kids ∧ I64 s.op ∧ I64 s.wd ∧ I64 s.num := by
  cases h with
  | mk o l u ks v cells ho hl hu hrow hk => exact ⟨v, rfl, ⟨cells, hrow, hk⟩, ho, hl, hu⟩
/-- One element of a slice. -/
theorem PlsRow.at {w : World} {v : Value} {ks : List PL} (h : PlsRow w v ks) : ks.length ≤ 9223372036854775807 ∧ ∃ a cap, v = .slice a ks.length cap ∧ ∀ k (hk : k < ks.length), ∃ b off kv, a = some ⟨b, off, none⟩ ∧ b < w.heap.size ∧
    (w.cell? ⟨b, off + k * 4, none⟩ = some (.int .i64 ks[k].op) ∧ w.cell? ⟨b, off + k * 4 + 1, none⟩ = some (.int .i64 ks[k].wd) ∧ w.cell? ⟨b, off + k * 4 + 2, none⟩ = some (.int .i64 ks[k].num) ∧ w.cell? ⟨b, off + k * 4 + 3, none⟩ = some kv) ∧
    PlC w [.int .i64 ks[k].op, .int .i64 ks[k].wd, .int .i64 ks[k].num, kv] ks[k] := by
  obtain ⟨cells, ⟨h0, a, cap, rfl, h1⟩, h2⟩ := h
  refine ⟨h0.1, a, cap, rfl, fun k hk => ?_⟩
  obtain ⟨h3, b, off, e, hlt, hc⟩ := h1 k hk
  have h4 := h2 k _ (List.getElem?_eq_getElem hk)
  obtain ⟨kv, e5, -⟩ := h4.open
  refine ⟨b, off, kv, e, hlt, ⟨?_, ?_, ?_, ?_⟩, by rw [← e5]; exact h4⟩
  · have := hc 0 _ (by rw [e5]; rfl); simpa using this
  · exact hc 1 _ (by rw [e5]; rfl)
  · exact hc 2 _ (by rw [e5]; rfl)
  · exact hc 3 _ (by rw [e5]; rfl)

theorem PlsRow.cap {w : World} {v : Value} {ks : List PL} (h : PlsRow w v ks) : capOk v := by
  obtain ⟨cells, ⟨h0, -⟩, -⟩ := h
  exact h0.2

section
open Go.ChangeShapes Go.WideShapes Go.ChangeAt Go.WideMaps Go.WideElems
theorem cellsPl4 : Tryz.prog.cellsOf 24 = 4 := by kernel_rfl
theorem cellsPI : Tryz.prog.cellsOf 3 = 1 := by kernel_rfl
theorem cellsPK : Tryz.prog.cellsOf 22 = 1 := by kernel_rfl
/-- Slices of plans, where what one element reads as is known. -/
theorem open_plansF {H : Type} {enc : TypeId × Value → H} {w : World} {base : Nat} {sp : Nat → Bool} {held : Bool} {fuel : Nat} {v : Value} {x : DataW H × List MemPlace}
    (ih : ∀ n, n < fuel → ∀ cs y, DataW.trod enc Tryz.prog w base sp held n 24 cs = some y → ∃ s, PlC w cs s)
    (h : DataW.trod enc Tryz.prog w base sp held fuel 22 [v] = some x) : ∃ ks, PlsRow w v ks := by
  rcases DataW.trod_slice Tryz.underlying22 h with ⟨hcs, -⟩ | ⟨a, len, cap, elems, rest, n, rfl, hcs, -, hb, hl, hm, hlen, hel, -, -⟩
  · simp at hcs
    subst hcs
    exact ⟨[], fun _ => [], ⟨⟨by simp, .mk (by omega)⟩, none, 0, rfl, fun k hk => by simp at hk⟩, fun i k hk => by simp at hk⟩
  · simp at hcs
    subst hcs
    have key : ∀ i, ∃ (cs : List Value) (s : PL), i < len → w.cells? base (a.add (i * 4)) 4 = some cs ∧ PlC w cs s := fun i => by
      by_cases hi : i < len
      · have h1 := hel i hi
        rw [cellsPl4, List.getElem?_eq_getElem (by omega)] at h1
        obtain ⟨cs, h2, h3⟩ := Option.bind_eq_some_iff.1 h1
        obtain ⟨s, hs⟩ := ih n (by omega) cs _ h3
        exact ⟨cs, s, fun _ => ⟨h2, hs⟩⟩
      · exact ⟨[], .mk 0 0 0 [], fun h => absurd h hi⟩
    obtain ⟨f, hf⟩ : ∃ f : Nat → List Value, ∀ i, ∃ s : PL, i < len → w.cells? base (a.add (i * 4)) 4 = some (f i) ∧ PlC w (f i) s := ⟨fun i => Classical.choose (key i), fun i => Classical.choose_spec (key i)⟩
    obtain ⟨g, hg⟩ : ∃ g : Nat → PL, ∀ i, i < len → w.cells? base (a.add (i * 4)) 4 = some (f i) ∧ PlC w (f i) (g i) := ⟨fun i => Classical.choose (hf i), fun i => Classical.choose_spec (hf i)⟩
    refine ⟨(List.range len).map g, f, ⟨⟨by simp; unfold maxLen at hm; omega, .mk hl⟩, some a, cap, by simp, fun k hk => ?_⟩, fun i k hk => ?_⟩
    · have hk' : k < len := by simpa using hk
      obtain ⟨h1, -⟩ := hg k hk'
      obtain ⟨h2, h3, h4⟩ := World.cells?_some h1
      obtain ⟨b, off, spot⟩ := a
      have hspot : spot = none := by
        have h0 := (hg 0 (by omega)).1
        obtain ⟨-, h3', h4'⟩ := World.cells?_some h0
        have q := h4' 0 (by omega)
        rw [List.getElem?_eq_getElem (by omega)] at q
        have := World.cell?_spot q
        simpa [Addr.add] using this
      subst hspot
      have hadd : ∀ j, ((⟨b, off, none⟩ : Addr).add (k * 4)).add j = ⟨b, off + k * 4 + j, none⟩ := fun j => by rw [Go.WideShapes.add_plain, Go.WideShapes.add_plain]
      refine ⟨h3, b, off, rfl, ?_, fun j u hu => ?_⟩
      · have h0 := h4 0 (by omega)
        rw [hadd] at h0
        cases e : w.cell? ⟨b, off + k * 4 + 0, none⟩ with
        | none => rw [e] at h0; rw [List.getElem?_eq_getElem (by omega)] at h0; cases h0
        | some u => exact World.block_lt_of_cell? _ _ e
      · have hj : j < 4 := by have := (List.getElem?_eq_some_iff.1 hu).1; omega
        have h0 := h4 j hj
        rw [hadd, hu] at h0
        exact h0
    · have hi : i < len := by have := (List.getElem?_eq_some_iff.1 hk).1; simpa using this
      rw [List.getElem?_map] at hk
      simp [hi] at hk
      rw [← hk]; exact (hg i hi).2
theorem open_planF {H : Type} {enc : TypeId × Value → H} {w : World} {base : Nat} {sp : Nat → Bool} {held : Bool} : ∀ (fuel : Nat) (cs : List Value) (x : DataW H × List MemPlace),
    DataW.trod enc Tryz.prog w base sp held fuel 24 cs = some x → ∃ s, PlC w cs s := by
  intro fuel
  induction fuel using Nat.strongRecOn with
  | _ fuel ih =>
    intro cs x h
    obtain ⟨xs, n, rfl, -, hl, hx, hf⟩ := DataW.trod_struct Tryz.underlying24 h
    rw [cellsPl4] at hl
    have f0 : DataW.trod enc Tryz.prog w base sp held n 3 ((cs.drop 0).take (Tryz.prog.cellsOf 3)) = xs[0]? := hf 0 _ rfl
    have f1 : DataW.trod enc Tryz.prog w base sp held n 3 ((cs.drop 1).take (Tryz.prog.cellsOf 3)) = xs[1]? := hf 1 _ rfl
    have f2 : DataW.trod enc Tryz.prog w base sp held n 3 ((cs.drop 2).take (Tryz.prog.cellsOf 3)) = xs[2]? := hf 2 _ rfl
    have f3 : DataW.trod enc Tryz.prog w base sp held n 22 ((cs.drop 3).take (Tryz.prog.cellsOf 22)) = xs[3]? := hf 3 _ rfl
    rw [cellsPI] at f0 f1 f2
    rw [cellsPK] at f3
    have hx4 : xs.length = 4 := hx
    match cs, hl, xs, hx4 with
    | [c0, c1, c2, c3], _, [y0, y1, y2, y3], _ =>
      simp only [List.drop_zero, List.drop_succ_cons, List.take_succ_cons, List.take_zero, List.getElem?_cons_zero, List.getElem?_cons_succ] at f0 f1 f2 f3
      obtain ⟨o, e0, -, w0⟩ := DataW.trod_int Tryz.underlying3 f0
      obtain ⟨l, e1, -, w1⟩ := DataW.trod_int Tryz.underlying3 f1
      obtain ⟨u, e2, -, w2⟩ := DataW.trod_int Tryz.underlying3 f2
      simp at e0 e1 e2
      subst e0 e1 e2
      obtain ⟨ks, hks⟩ := open_plansF (fun m hm => ih m (by omega)) f3
      obtain ⟨cells, hr, hk⟩ := hks
      have b0 := bounds_i64 w0; have b1 := bounds_i64 w1; have b2 := bounds_i64 w2
      exact ⟨.mk o l u ks, .mk o l u ks c3 cells (by unfold I64; omega) (by unfold I64; omega) (by unfold I64; omega) hr hk⟩
def PlVal (cs : List Value) : Value := .agg cs.toArray
theorem open_plan {H : Type} {enc : TypeId × Value → H} {w : World} {r : Reach} {b0 base : Nat} {sp : Nat → Bool} {held : Bool} {v : Value} {d : DataW H} {p : List MemPlace}
    (hv : Value.okWide Tryz.prog w r b0 24 v) (h : DataW.Trod enc Tryz.prog w base sp held 24 v d p) : ∃ s cs, v = PlVal cs ∧ PlC w cs s := by
  obtain ⟨cs, rfl, -⟩ := okWide_struct Tryz.underlying24 hv
  obtain ⟨fuel, hf⟩ := h
  obtain ⟨s, hs⟩ := open_planF fuel _ _ hf
  exact ⟨s, cs.toList, by simp [PlVal], hs⟩
end
end Go.Proofs.YtblpekljiilkjaaGreatDoor
/- Plans: Count, Few. -/
namespace Go.Proofs.YtblpekljiilkjaaGreatDoor
set_option maxRecDepth 100000
set_option linter.unusedSimpArgs false
set_option linter.unusedVariables false
open Go.RowKit

/-- How many parts. -/
def PL.nodes : PL → Nat
  | .mk _ _ _ ks => 1 + (ks.map fun k => k.nodes).sum
theorem PL.nodes_mk (o l u : Int) (ks : List PL) : (PL.mk o l u ks).nodes = 1 + (ks.map PL.nodes).sum := by rw [PL.nodes]

set_option maxHeartbeats 1000000 in
theorem pcount_any (s : PL) : ∀ (cs : List Value) (d : Nat) (w : World), PlC w cs s → d ≤ 11 →
    Calls Tryz.prog 38 #[PlVal cs, .int .i64 d] w fun e w' => ∃ c : Nat, e = .returned (.int .i64 c) ∧ (1 ≤ c ∧ c ≤ 1000 * (12 - d)) ∧ (c ≤ 30 → c = s.nodes) ∧ Below w.heap.size w w' := by
  refine PL.ind (P := fun s => ∀ (cs : List Value) (d : Nat) (w : World), PlC w cs s → d ≤ 11 →
    Calls Tryz.prog 38 #[PlVal cs, .int .i64 d] w fun e w' => ∃ c : Nat, e = .returned (.int .i64 c) ∧ (1 ≤ c ∧ c ≤ 1000 * (12 - d)) ∧ (c ≤ 30 → c = s.nodes) ∧ Below w.heap.size w w') ?_ s
  intro o l u ks ih cs d w h hd
  obtain ⟨v, rfl, hrow, ho, hlo, hhi⟩ := h.open
  simp only [PL.op, PL.wd, PL.num, PL.kids] at hrow ho hlo hhi ⊢
  obtain ⟨hn, a, cap, rfl, -⟩ := hrow.at
  have HR := hide hrow
  clear h hrow
  unfold PlVal
  by_cases hd12 : 10 < d
  · have hdd : decide ((10 : Int) < d) = true := by simp; omega
    have hdd2 : decide (10 < d) = true := by simp [hd12]
    go_enter Tryz.func38, Tryz.ntmps38
    go_wp2
    go_ret
    exact ⟨1000, rfl, ⟨by omega, by omega⟩, fun h => by omega, (Below.refl _ _).alloc (Nat.le_refl _) _⟩
  · have hdd : decide ((10 : Int) < d) = false := by simp; omega
    have hdd2 : decide (10 < d) = false := by simp; omega
    go_enter Tryz.func38, Tryz.ntmps38
    go_wp2
    obtain ⟨B, hB⟩ : ∃ B, B = w.heap.size := ⟨_, rfl⟩
    rw [← hB]
    have HB := hide hB
    have hW0 : Below B w (w.alloc (.cells #[.int .i64 o, .int .i64 l, .int .i64 u, .slice a ks.length cap] 24)) := (Below.refl _ _).alloc (Nat.le_of_eq hB) _
    clear hB
    go_loopw [5, 13] (fun q c wr => ∃ (k n : Nat), k ≤ ks.length ∧ c = .int .i64 k ∧ q = .int .i64 n ∧ 1 ≤ n ∧ n ≤ 1000 ∧ Hid (n ≤ 30 → n = 1 + ((ks.take k).map PL.nodes).sum) ∧ Hid (Below B w wr)) (fun _ c _ => ks.length - (intOf c).toNat)
    case atStart => exact ⟨0, 1, by omega, rfl, rfl, by omega, by omega, (fun _ => rfl), hW0⟩
    case round =>
      clear hW0
      obtain ⟨k, n, hk, rfl, rfl, hn1, hn2, HI, HW⟩ := hrel
      obtain ⟨-, a', cap', e1, g1⟩ := (HR.out.keep (show Below w.heap.size w wr from HB.out ▸ HW.out)).at
      obtain ⟨rfl, rfl⟩ : a = a' ∧ cap = cap' := by cases e1; exact ⟨rfl, rfl⟩
      clear e1
      by_cases hlt : k < ks.length
      · have hkd : decide (k < ks.length) = true := by simp [hlt]
        obtain ⟨b, off, kv, rfl, -, ⟨c0, c1, c2, c3⟩, hC⟩ := g1 k hlt
        have hrec := ih _ (List.getElem_mem hlt) _ (d + 1) _ (hC.keep ((Below.refl wr.heap.size wr).alloc (Nat.le_refl _) (.cells #[.int .i64 ks[k].op, .int .i64 ks[k].wd, .int .i64 ks[k].num, kv] 24))) (by omega)
        have HT := hide (show ks.take (k + 1) = ks.take k ++ [ks[k]] from List.take_succ_eq_append_getElem hlt)
        have hBW : B ≤ wr.heap.size := by rw [HB.out]; exact HW.out.size
        obtain ⟨-, kf, kcap, hkv, -⟩ : True ∧ ∃ a c, kv = .slice a (ks[k]).kids.length c ∧ True := by
          obtain ⟨v', e', hr', -⟩ := hC.open
          obtain ⟨-, a', c', e'', -⟩ := hr'.at
          have : kv = v' := by simpa using e'
          exact ⟨trivial, a', c', this.trans e'', trivial⟩
        have HREC := hide hrec
        subst hkv
        generalize hks : ks[k] = sk at *
        clear hrec hC g1
        unfold PlVal at HREC
        go_wp2_with fail
        refine HREC.out.mono ?_
        rintro e w2 ⟨c, rfl, ⟨hc1, hc2⟩, hc3, hb2⟩
        have HC3 := hide hc3
        have HW2 := hide ((HW.out.alloc hBW (.cells #[.int .i64 sk.op, .int .i64 sk.wd, .int .i64 sk.num, .slice kf sk.kids.length kcap] 24)).trans (hb2.mono (by simp; omega)))
        have hcb : c ≤ 12000 := by omega
        clear hc3 hb2 HREC c0 c1 c2 c3
        by_cases hbig : 1000 < n + c
        · have hbd : decide ((1000 : Int) < (n : Int) + c) = true := by simp; omega
          go_wp2
          go_ret
          refine ⟨n + c, ?_, ⟨by omega, by omega⟩, fun h => by omega, by rw [← HB.out]; exact HW2.out⟩
          congr 2
        · have hbd : decide ((1000 : Int) < (n : Int) + c) = false := by simp; omega
          go_wp2
          refine ⟨⟨k + 1, n + c, by omega, by go_num, by go_num, by omega, by omega, ?_, HW2⟩, by simp [intOf]; omega⟩
          intro h30
          have i2 := HI.out (by omega)
          have j2 := HC3.out (by omega)
          rw [HT.out, List.map_append, List.sum_append, i2, j2]; simp; omega
      · obtain rfl : k = ks.length := by omega
        rw [List.take_length] at HI
        clear g1
        go_wp2
        go_ret
        refine ⟨n, rfl, ⟨hn1, by omega⟩, fun h => ?_, by rw [← HB.out]; exact HW.out⟩
        rw [PL.nodes_mk]; exact HI.out h
theorem pfew_any (s : PL) (cs : List Value) (w : World) (h : PlC w cs s) :
    Calls Tryz.prog 13 #[PlVal cs] w fun e w' => ∃ c : Bool, e = .returned (.bool c) ∧ (c = true → s.nodes ≤ 30) ∧ Below w.heap.size w w' := by
  obtain ⟨v, rfl, hrow, -⟩ := h.open
  obtain ⟨hn, a, cap, rfl, -⟩ := hrow.at
  have HK : Hid (∀ W, Below w.heap.size w W → Calls Tryz.prog 38 #[PlVal [.int .i64 s.op, .int .i64 s.wd, .int .i64 s.num, .slice a s.kids.length cap], .int .i64 0] W fun e w' => ∃ c : Nat, e = .returned (.int .i64 c) ∧ (1 ≤ c ∧ c ≤ 1000 * (12 - 0)) ∧ (c ≤ 30 → c = s.nodes) ∧ Below W.heap.size W w') := fun W hW => pcount_any s _ 0 W (h.keep hW) (by omega)
  clear hrow h
  unfold PlVal at HK ⊢
  go_enter Tryz.func13, Tryz.ntmps13
  go_wp2_with fail
  refine (HK.out _ ((Below.refl _ _).alloc (Nat.le_refl _) _)).mono ?_
  rintro e w2 ⟨c, rfl, ⟨hc1, hc2⟩, hc3, hb2⟩
  have HC3 := hide hc3
  have HB := hide (((Below.refl w.heap.size w).alloc (Nat.le_refl _) (.cells #[.int .i64 s.op, .int .i64 s.wd, .int .i64 s.num, .slice a s.kids.length cap] 24)).trans (hb2.mono (by simp)))
  clear hc3 hb2 HK
  by_cases hle : c ≤ 30
  · have hd : decide ((c : Int) ≤ 30) = true := by simp; omega
    have hd2 : decide (c ≤ 30) = true := by simp [hle]
    go_wp2
    go_ret
    exact ⟨true, rfl, fun _ => by have := HC3.out hle; omega, HB.out⟩
  · have hd : decide ((c : Int) ≤ 30) = false := by simp; omega
    have hd2 : decide (c ≤ 30) = false := by simp; omega
    go_wp2
    go_ret
    exact ⟨false, rfl, fun h => by simp at h, HB.out⟩
end Go.Proofs.YtblpekljiilkjaaGreatDoor
