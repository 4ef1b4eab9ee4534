/- Texts of this claim put together: OpenS, LxP3, LxP4. -/
import Derived.Test.YtjlgepahgmkamaaGreatDoorJoinTwB
import Derived.Test.YtjlgepahgmkamaaGreatDoorJoinShE
import Derived.Test.YtjlgepahgmkamaaGreatDoorJoinLxP2
/- Shapes that came in. -/
namespace Go.Proofs.YtjlgepahgmkamaaGreatDoor
set_option maxRecDepth 100000
open Go.ChangeShapes Go.WideShapes Go.ChangeAt Go.WideMaps Go.WideElems Go.RowKit

end Go.Proofs.YtjlgepahgmkamaaGreatDoor
/- Parts that came in. -/
namespace Go.Proofs.YtjlgepahgmkamaaGreatDoor
set_option maxRecDepth 100000
set_option linter.unusedSimpArgs false
set_option linter.unusedVariables false
open Go.RowKit

/-- A part's nine cells. -/
structure PrtC (w : World) (cs : List Value) (p : PRT) : Prop where
  cells : ∃ sc : List Value, cs = [.int .i64 p.k, .int .i64 p.n, .int .i64 p.gap, .string p.s] ++ sc ∧ ShC w sc p.sh
  k : -9223372036854775808 ≤ p.k ∧ p.k ≤ 9223372036854775807
  n : -9223372036854775808 ≤ p.n ∧ p.n ≤ 9223372036854775807
  gap : -9223372036854775808 ≤ p.gap ∧ p.gap ≤ 9223372036854775807
  s : p.s.size ≤ 9223372036854775807
theorem PrtC.keep {w w' : World} {cs : List Value} {p : PRT} (h : PrtC w cs p) (hb : Below w.heap.size w w') : PrtC w' cs p := by
  obtain ⟨sc, h1, h2⟩ := h.cells
  exact ⟨⟨sc, h1, h2.keep hb⟩, h.k, h.n, h.gap, h.s⟩
/-- The elements of a slice of parts, nine cells each. -/
def PrtRow (w : World) (v : Value) (n : Nat) (cells : Nat → List Value) : Prop :=
  (n ≤ 9223372036854775807 ∧ capOk v) ∧ ∃ a cap, v = .slice a n cap ∧ ∀ k, k < n → (cells k).length = 9 ∧ ∃ b off, a = some ⟨b, off, none⟩ ∧ b < w.heap.size ∧ ∀ j u, (cells k)[j]? = some u → w.cell? ⟨b, off + k * 9 + j, none⟩ = some u
theorem PrtRow.keep {w w' : World} {v : Value} {n : Nat} {cells : Nat → List Value} (h : PrtRow w v n cells) (hb : Below w.heap.size w w') : PrtRow w' v n cells := by
  obtain ⟨h0, a, cap, rfl, h1⟩ := h
  refine ⟨h0, a, cap, rfl, fun k hk => ?_⟩
  obtain ⟨h2, b, off, e, hlt, hc⟩ := h1 k hk
  exact ⟨h2, b, off, e, Nat.lt_of_lt_of_le hlt hb.size, fun j u hu => (World.cell?_of_block (w := w) (hb.block b hlt)).trans (hc j u hu)⟩
def PrtsRow (w : World) (v : Value) (ks : List PRT) : Prop := ∃ cells, PrtRow w v ks.length cells ∧ ∀ i k, ks[i]? = some k → PrtC w (cells i) k
theorem PrtsRow.keep {w w' : World} {v : Value} {ks : List PRT} (h : PrtsRow w v ks) (hb : Below w.heap.size w w') : PrtsRow w' v ks := by
  obtain ⟨cells, h1, h2⟩ := h
  exact ⟨cells, h1.keep hb, fun i k hk => (h2 i k hk).keep hb⟩

section
open Go.ChangeShapes Go.WideShapes Go.ChangeAt Go.WideMaps Go.WideElems
theorem cells9 : Tryz.prog.cellsOf 29 = 9 := by kernel_rfl
theorem open_partF {H : Type} {enc : TypeId × Value → H} {w : World} {base : Nat} {sp : Nat → Bool} {held : Bool} (fuel : Nat) (cs : List Value) (x : DataW H × List MemPlace)
    (h : DataW.trod enc Tryz.prog w base sp held fuel 29 cs = some x) : ∃ s, PrtC w cs s := by
  obtain ⟨xs, n, rfl, -, hl, hx, hf⟩ := DataW.trod_struct Tryz.underlying29 h
  rw [cells9] at hl
  have f0 : DataW.trod enc Tryz.prog w base sp held n 3 ((cs.drop 0).take (Tryz.prog.cellsOf 3)) = xs[0]? := hf 0 _ rfl
  have f1 : DataW.trod enc Tryz.prog w base sp held n 3 ((cs.drop 1).take (Tryz.prog.cellsOf 3)) = xs[1]? := hf 1 _ rfl
  have f2 : DataW.trod enc Tryz.prog w base sp held n 3 ((cs.drop 2).take (Tryz.prog.cellsOf 3)) = xs[2]? := hf 2 _ rfl
  have f3 : DataW.trod enc Tryz.prog w base sp held n 9 ((cs.drop 3).take (Tryz.prog.cellsOf 9)) = xs[3]? := hf 3 _ rfl
  have f4 : DataW.trod enc Tryz.prog w base sp held n 27 ((cs.drop 4).take (Tryz.prog.cellsOf 27)) = xs[4]? := hf 4 _ rfl
  rw [cellsI] at f0 f1 f2
  rw [cellsT] at f3
  rw [cells5] at f4
  have hx5 : xs.length = 5 := hx
  match cs, hl, xs, hx5 with
  | [c0, c1, c2, c3, c4, c5, c6, c7, c8], _, [y0, y1, y2, y3, y4], _ =>
    simp only [List.drop_zero, List.drop_succ_cons, List.take_succ_cons, List.take_zero, List.getElem?_cons_zero, List.getElem?_cons_succ] at f0 f1 f2 f3 f4
    obtain ⟨o, e0, -, w0⟩ := DataW.trod_int Tryz.underlying3 f0
    obtain ⟨l, e1, -, w1⟩ := DataW.trod_int Tryz.underlying3 f1
    obtain ⟨u, e2, -, w2⟩ := DataW.trod_int Tryz.underlying3 f2
    simp at e0 e1 e2
    subst e0 e1 e2
    obtain ⟨t, e3, ht⟩ : ∃ t : ByteArray, c3 = .string t ∧ t.size ≤ maxLen := by
      cases n with
      | zero => simp [DataW.trod] at f3
      | succ m =>
        unfold DataW.trod at f3
        rw [Tryz.underlying9] at f3
        split at f3 <;> simp_all
    subst e3
    obtain ⟨sh, hsh⟩ := open_shapeF n _ _ f4
    have b0 := bounds_i64 w0; have b1 := bounds_i64 w1; have b2 := bounds_i64 w2
    exact ⟨⟨o, l, u, t, sh⟩, ⟨_, rfl, hsh⟩, by simp only; omega, by simp only; omega, by simp only; omega, by unfold maxLen at ht; simp only; omega⟩
theorem open_partsF {H : Type} {enc : TypeId × Value → H} {w : World} {base : Nat} {sp : Nat → Bool} {held : Bool} {fuel : Nat} {v : Value} {x : DataW H × List MemPlace}
    (h : DataW.trod enc Tryz.prog w base sp held fuel 22 [v] = some x) : ∃ ks, PrtsRow w v ks := by
  rcases DataW.trod_slice Tryz.underlying22 h with ⟨hcs, -⟩ | ⟨a, len, cap, elems, rest, n, rfl, hcs, -, hb, hl, hm, hlen, hel, -, -⟩
  · simp at hcs
    subst hcs
    exact ⟨[], fun _ => [], ⟨⟨by simp, .mk (by omega)⟩, none, 0, rfl, fun k hk => by simp at hk⟩, fun i k hk => by simp at hk⟩
  · simp at hcs
    subst hcs
    have key : ∀ i, ∃ (cs : List Value) (s : PRT), i < len → w.cells? base (a.add (i * 9)) 9 = some cs ∧ PrtC w cs s := fun i => by
      by_cases hi : i < len
      · have h1 := hel i hi
        rw [cells9, List.getElem?_eq_getElem (by omega)] at h1
        obtain ⟨cs, h2, h3⟩ := Option.bind_eq_some_iff.1 h1
        obtain ⟨s, hs⟩ := open_partF n cs _ h3
        exact ⟨cs, s, fun _ => ⟨h2, hs⟩⟩
      · exact ⟨[], ⟨0, 0, 0, .empty, .mk 0 0 0 .empty []⟩, fun h => absurd h hi⟩
    obtain ⟨f, hf⟩ : ∃ f : Nat → List Value, ∀ i, ∃ s : PRT, i < len → w.cells? base (a.add (i * 9)) 9 = some (f i) ∧ PrtC w (f i) s := ⟨fun i => Classical.choose (key i), fun i => Classical.choose_spec (key i)⟩
    obtain ⟨g, hg⟩ : ∃ g : Nat → PRT, ∀ i, i < len → w.cells? base (a.add (i * 9)) 9 = some (f i) ∧ PrtC w (f i) (g i) := ⟨fun i => Classical.choose (hf i), fun i => Classical.choose_spec (hf i)⟩
    refine ⟨(List.range len).map g, f, ⟨⟨by simp; unfold maxLen at hm; omega, .mk hl⟩, some a, cap, by simp, fun k hk => ?_⟩, fun i k hk => ?_⟩
    · have hk' : k < len := by simpa using hk
      obtain ⟨h1, -⟩ := hg k hk'
      obtain ⟨h2, h3, h4⟩ := World.cells?_some h1
      obtain ⟨b, off, spot⟩ := a
      have hspot : spot = none := by
        have h0 := (hg 0 (by omega)).1
        obtain ⟨-, h3', h4'⟩ := World.cells?_some h0
        have q := h4' 0 (by omega)
        rw [List.getElem?_eq_getElem (by omega)] at q
        have := World.cell?_spot q
        simpa [Addr.add] using this
      subst hspot
      have hadd : ∀ j, ((⟨b, off, none⟩ : Addr).add (k * 9)).add j = ⟨b, off + k * 9 + j, none⟩ := fun j => by rw [Go.WideShapes.add_plain, Go.WideShapes.add_plain]
      refine ⟨h3, b, off, rfl, ?_, fun j u hu => ?_⟩
      · have h0 := h4 0 (by omega)
        rw [hadd] at h0
        cases e : w.cell? ⟨b, off + k * 9 + 0, none⟩ with
        | none => rw [e] at h0; rw [List.getElem?_eq_getElem (by omega)] at h0; cases h0
        | some u => exact World.block_lt_of_cell? _ _ e
      · have hj : j < 9 := by have := (List.getElem?_eq_some_iff.1 hu).1; omega
        have h0 := h4 j hj
        rw [hadd, hu] at h0
        exact h0
    · have hi : i < len := by have := (List.getElem?_eq_some_iff.1 hk).1; simpa using this
      rw [List.getElem?_map] at hk
      simp [hi] at hk
      rw [← hk]; exact (hg i hi).2
theorem open_parts {H : Type} {enc : TypeId × Value → H} {w : World} {r : Reach} {b0 base : Nat} {sp : Nat → Bool} {held : Bool} {v : Value} {d : DataW H} {p : List MemPlace}
    (hv : Value.okWide Tryz.prog w r b0 22 v) (h : DataW.Trod enc Tryz.prog w base sp held 22 v d p) : ∃ ks, PrtsRow w v ks := by
  obtain ⟨a, len, cap, rfl⟩ := okWide_slice Tryz.underlying22 hv
  obtain ⟨fuel, hf⟩ := h
  exact open_partsF hf
end
end Go.Proofs.YtjlgepahgmkamaaGreatDoor
/- The statement's write: a part as it is written, and its token. -/
namespace Go.Proofs.YtjlgepahgmkamaaGreatDoor
set_option maxRecDepth 100000
set_option linter.unusedSimpArgs false
set_option linter.unusedVariables false
open Go.RowKit Go.Shelf

def lxWordsC : Array Value := #[.string ⟨#[97]⟩, .string ⟨#[99, 111, 112, 121]⟩, .string ⟨#[120, 95, 49]⟩, .string ⟨#[108, 101, 116]⟩, .string ⟨#[122, 122, 57]⟩, .string ⟨#[95]⟩]
theorem lxWordsC_at : ∀ j, j < 6 → lxWordsC[j]? = some (.string (strB (lxWords.getD j []))) := by
  intro j hj
  match j, hj with
  | 0, _ => rfl
  | 1, _ => rfl
  | 2, _ => rfl
  | 3, _ => rfl
  | 4, _ => rfl
  | 5, _ => rfl
  | j + 6, h => omega
theorem run_sl (C : ByteArray) (i m : Nat) (h1 : i ≤ m) (h2 : m ≤ C.size) (W : World) : (Instr.slice 9 (.string C) (some (.int .i64 i)) (some (.int .i64 m)) none).run Tryz.prog W = .ok (.string (C.extract i m)) W := by
  simp [go_sem, h1, h2]
def sgS : ByteArray := ⟨#[40, 41, 44, 46, 59, 124, 42, 61]⟩
theorem sgS_at : ∀ j, j < 8 → sgS.extract j (j + 1) = strB [sgL.getD j 0] := by
  intro j hj
  match j, hj with
  | 0, _ => rfl
  | 1, _ => rfl
  | 2, _ => rfl
  | 3, _ => rfl
  | 4, _ => rfl
  | 5, _ => rfl
  | 6, _ => rfl
  | 7, _ => rfl
  | j + 8, h => omega
section
variable (ρ : Operand → Value) (d : Option Tmp) (x y : Operand) (t : TypeId) (pos : String) (af : Array Edge) (g : Option (Nat × Bool))
theorem x_fldP3 (b : Nat) (hx : ρ x = .pointer (some ⟨b, 0, none⟩)) (w : World) : (execOp ρ { dst := d, op := .fieldAddr 29 x 3, type := t, pos := pos, after := af, guard := g }).run Tryz.prog w = .ok (.value (.pointer (some ⟨b, 3, none⟩))) w := by
  simp [go_sem, hx]
theorem x_bldT3 (s : ByteArray) (hx : ρ x = .int .i64 3) (hy : ρ y = .string s) (w : World) : (execOp ρ { dst := d, op := .build 35 #[(0, x), (1, y)], type := t, pos := pos, after := af, guard := g }).run Tryz.prog w = .ok (.value (.agg #[.int .i64 3, .string s, .pointer none, .int .i64 0])) w := by
  simp [go_sem, hx, hy]
theorem x_stT (b : Nat) (v0 v2 v3 : Value) (s : ByteArray) (c : Array Value) (hx : ρ x = .pointer (some ⟨b, 0, none⟩)) (hy : ρ y = .agg #[.int .i64 3, .string s, .pointer none, .int .i64 0]) (w : World) (hb : Blk w b #[.int .i64 0, .string ⟨#[]⟩, .pointer none, .int .i64 0] 35) :
    (execOp ρ { dst := d, op := .store 35 x y, type := t, pos := pos, after := af, guard := g }).run Tryz.prog w = .ok .skip ((((w.setCell ⟨b, 0, none⟩ (.int .i64 3)).setCell ⟨b, 1, none⟩ (.string s)).setCell ⟨b, 2, none⟩ (.pointer none)).setCell ⟨b, 3, none⟩ (.int .i64 0)) := by
  have q0 := hb.cell 0; have q1 := hb.cell 1; have q2 := hb.cell 2; have q3 := hb.cell 3
  have g0 := hb.frozen 0; have g1 := hb.frozen 1; have g2 := hb.frozen 2; have g3 := hb.frozen 3
  simp only [List.getElem?_toArray, List.getElem?_cons_zero, List.getElem?_cons_succ] at q0 q1 q2 q3
  simp [go_sem, hx, hy, q0, q1, q2, q3, g0, g1, g2, g3]
end
set_option maxHeartbeats 3000000 in
/-- A word. -/
theorem write_word (kk nn gg op : Int) (lo hi ln vc : Nat) (s tx : ByteArray) (va : Option Addr) (w : World) (hT : TabAt w) (hk : wrap64 ((IntKind.u64.wrap kk).tmod 4) = 0) (j : Nat) (hj : j < 6) (hn : wrap64 ((IntKind.u64.wrap nn).tmod 6) = (j : Int)) (u : ByteArray) (hu : u = strB (lxWords.getD j [])) :
    Calls Tryz.prog 9 #[.agg #[.int .i64 kk, .int .i64 nn, .int .i64 gg, .string s, .int .i64 op, .int .u8 lo, .int .u8 hi, .string tx, .slice va ln vc]] w fun e w' => e = .returned (.tuple #[.string u, .agg #[.int .i64 1, .string u, .pointer none, .int .i64 0]]) ∧ Below w.heap.size w w' := by
  have HT := hide hT
  clear hT
  obtain ⟨B, hB⟩ : ∃ B, w.heap.size = B := ⟨_, rfl⟩
  obtain ⟨wa, ea⟩ : ∃ wa, w.alloc (.cells #[.int .i64 kk, .int .i64 nn, .int .i64 gg, .string s, .int .i64 op, .int .u8 lo, .int .u8 hi, .string tx, .slice va ln vc] 29) = wa := ⟨_, rfl⟩
  have hBa : Blk wa B #[.int .i64 kk, .int .i64 nn, .int .i64 gg, .string s, .int .i64 op, .int .u8 lo, .int .u8 hi, .string tx, .slice va ln vc] 29 := by rw [← ea, ← hB]; exact Blk.newAt rfl _ _
  have hsa : wa.heap.size = B + 1 := by rw [← ea, ← hB]; simp
  have hba : Below w.heap.size w wa := by rw [← ea]; exact (Below.refl _ _).alloc (Nat.le_refl _) _
  obtain ⟨wb, eb⟩ : ∃ wb, wa.alloc (.cells #[.int .i64 0, .string ⟨#[]⟩, .pointer none, .int .i64 0] 35) = wb := ⟨_, rfl⟩
  have hBb : Blk wb (B + 1) #[.int .i64 0, .string ⟨#[]⟩, .pointer none, .int .i64 0] 35 := by rw [← eb, ← hsa]; exact Blk.newAt rfl _ _
  have hab : Blk wb B #[.int .i64 kk, .int .i64 nn, .int .i64 gg, .string s, .int .i64 op, .int .u8 lo, .int .u8 hi, .string tx, .slice va ln vc] 29 := by rw [← eb]; exact hBa.alloc _
  have hsb : wb.heap.size = B + 2 := by rw [← eb]; simp; omega
  have HBB : Hid (Below w.heap.size w wb) := by rw [← eb]; exact hba.alloc (by rw [hB, hsa]; omega) _
  have HA := hide hab
  have HB := hide hBb
  have HW := hide hB
  have c0 := hab.cell 0; have c1 := hab.cell 1; have c2 := hab.cell 2; have c3 := hab.cell 3; have c4 := hab.cell 4; have c5 := hab.cell 5; have c6 := hab.cell 6; have c7 := hab.cell 7; have c8 := hab.cell 8
  simp only [List.getElem?_toArray, List.getElem?_cons_zero, List.getElem?_cons_succ] at c0 c1 c2 c3 c4 c5 c6 c7 c8
  clear hBa hba hab hBb
  go_enter Tryz.func9, Tryz.ntmps9
  obtain ⟨wc, ec⟩ : ∃ wc, wb.alloc (.cells #[.string ⟨#[97]⟩, .string ⟨#[99, 111, 112, 121]⟩, .string ⟨#[120, 95, 49]⟩, .string ⟨#[108, 101, 116]⟩, .string ⟨#[122, 122, 57]⟩, .string ⟨#[95]⟩] 9) = wc := ⟨_, rfl⟩
  have HC : Hid (Blk wc (B + 2) lxWordsC 9) := by rw [← ec, ← hsb]; exact Blk.newAt rfl _ _
  have hbc : Below wb.heap.size wb wc := by rw [← ec]; exact (Below.refl _ _).alloc (Nat.le_refl _) _
  have HBL := hide (HBB.out.trans (hbc.mono HBB.out.size))
  have HAc := hide (HA.out.below hbc HA.out.lt)
  have HBc := hide (HB.out.below hbc HB.out.lt)
  have d1 := HAc.out.cell 1
  simp only [List.getElem?_toArray, List.getElem?_cons_zero, List.getElem?_cons_succ] at d1
  have hw := (HC.out.cell j).trans (lxWordsC_at j hj)
  rw [← hu] at hw
  clear hbc hu
  have q0 := HBc.out.cell 0; have q1 := HBc.out.cell 1; have q2 := HBc.out.cell 2; have q3 := HBc.out.cell 3
  have g0 := HBc.out.frozen 0; have g1 := HBc.out.frozen 1; have g2 := HBc.out.frozen 2; have g3 := HBc.out.frozen 3
  simp only [List.getElem?_toArray, List.getElem?_cons_zero, List.getElem?_cons_succ] at q0 q1 q2 q3
  go_wp2
  clear q0 q1 q2 q3 g0 g1 g2 g3
  have hF := ((((HBc.out.set 0 (.int .i64 1)).set 1 (.string u)).set 2 (.pointer none)).set 3 (.int .i64 0))
  have z0 := hF.cell 0; have z1 := hF.cell 1; have z2 := hF.cell 2; have z3 := hF.cell 3
  simp only [List.setIfInBounds_toArray, List.set_cons_zero, List.set_cons_succ, List.getElem?_toArray, List.getElem?_cons_zero, List.getElem?_cons_succ] at z0 z1 z2 z3
  refine bodyPost_ret (v := .tuple #[.string u, .agg #[(.int .i64 1), (.string u), (.pointer none), (.int .i64 0)]]) (by simp [results, Tryz.results9, go_sem, z0, z1, z2, z3]) rfl ⟨rfl, ?_⟩
  exact ((((HBL.out.setCell (p := ⟨B + 1, 0, none⟩) (by rw [HW.out]; simp) (.int .i64 1)).setCell (p := ⟨B + 1, 1, none⟩) (by rw [HW.out]; simp) (.string u)).setCell (p := ⟨B + 1, 2, none⟩) (by rw [HW.out]; simp) (.pointer none)).setCell (p := ⟨B + 1, 3, none⟩) (by rw [HW.out]; simp) (.int .i64 0))
set_option maxHeartbeats 3000000 in
/-- A sign. -/
theorem write_sign (kk nn gg op : Int) (lo hi ln vc : Nat) (s tx : ByteArray) (va : Option Addr) (w : World) (hT : TabAt w) (hk : wrap64 ((IntKind.u64.wrap kk).tmod 4) = 1) (j : Nat) (hj : j < 8) (hn : bits .and .i64 nn 7 = (j : Int)) (u : ByteArray) (hu : sgS.extract j (j + 1) = u) :
    Calls Tryz.prog 9 #[.agg #[.int .i64 kk, .int .i64 nn, .int .i64 gg, .string s, .int .i64 op, .int .u8 lo, .int .u8 hi, .string tx, .slice va ln vc]] w fun e w' => e = .returned (.tuple #[.string u, .agg #[.int .i64 2, .string u, .pointer none, .int .i64 0]]) ∧ Below w.heap.size w w' := by
  have HT := hide hT
  clear hT
  obtain ⟨B, hB⟩ : ∃ B, w.heap.size = B := ⟨_, rfl⟩
  obtain ⟨wa, ea⟩ : ∃ wa, w.alloc (.cells #[.int .i64 kk, .int .i64 nn, .int .i64 gg, .string s, .int .i64 op, .int .u8 lo, .int .u8 hi, .string tx, .slice va ln vc] 29) = wa := ⟨_, rfl⟩
  have hBa : Blk wa B #[.int .i64 kk, .int .i64 nn, .int .i64 gg, .string s, .int .i64 op, .int .u8 lo, .int .u8 hi, .string tx, .slice va ln vc] 29 := by rw [← ea, ← hB]; exact Blk.newAt rfl _ _
  have hsa : wa.heap.size = B + 1 := by rw [← ea, ← hB]; simp
  have hba : Below w.heap.size w wa := by rw [← ea]; exact (Below.refl _ _).alloc (Nat.le_refl _) _
  obtain ⟨wb, eb⟩ : ∃ wb, wa.alloc (.cells #[.int .i64 0, .string ⟨#[]⟩, .pointer none, .int .i64 0] 35) = wb := ⟨_, rfl⟩
  have hBb : Blk wb (B + 1) #[.int .i64 0, .string ⟨#[]⟩, .pointer none, .int .i64 0] 35 := by rw [← eb, ← hsa]; exact Blk.newAt rfl _ _
  have hab : Blk wb B #[.int .i64 kk, .int .i64 nn, .int .i64 gg, .string s, .int .i64 op, .int .u8 lo, .int .u8 hi, .string tx, .slice va ln vc] 29 := by rw [← eb]; exact hBa.alloc _
  have hsb : wb.heap.size = B + 2 := by rw [← eb]; simp; omega
  have HBB : Hid (Below w.heap.size w wb) := by rw [← eb]; exact hba.alloc (by rw [hB, hsa]; omega) _
  have HA := hide hab
  have HB := hide hBb
  have HW := hide hB
  have c0 := hab.cell 0; have c1 := hab.cell 1; have c2 := hab.cell 2; have c3 := hab.cell 3; have c4 := hab.cell 4; have c5 := hab.cell 5; have c6 := hab.cell 6; have c7 := hab.cell 7; have c8 := hab.cell 8
  simp only [List.getElem?_toArray, List.getElem?_cons_zero, List.getElem?_cons_succ] at c0 c1 c2 c3 c4 c5 c6 c7 c8
  clear hBa hba hab hBb
  go_enter Tryz.func9, Tryz.ntmps9
  unfold sgS at hu
  have hsl : ∀ W : World, (Instr.slice 9 (.string ⟨#[40, 41, 44, 46, 59, 124, 42, 61]⟩) (some (.int .i64 (j : Int))) (some (.int .i64 ((j : Int) + 1))) none).run Tryz.prog W = .ok (.string u) W := fun W => by
    rw [← hu, show (j : Int) + 1 = ((j + 1 : Nat) : Int) from by omega]
    exact run_sl _ j (j + 1) (by omega) (by show j + 1 ≤ 8; omega) W
  have q0 := HB.out.cell 0; have q1 := HB.out.cell 1; have q2 := HB.out.cell 2; have q3 := HB.out.cell 3
  have g0 := HB.out.frozen 0; have g1 := HB.out.frozen 1; have g2 := HB.out.frozen 2; have g3 := HB.out.frozen 3
  simp only [List.getElem?_toArray, List.getElem?_cons_zero, List.getElem?_cons_succ] at q0 q1 q2 q3
  go_wp2
  clear q0 q1 q2 q3 g0 g1 g2 g3
  have hF := ((((HB.out.set 0 (.int .i64 2)).set 1 (.string u)).set 2 (.pointer none)).set 3 (.int .i64 0))
  have z0 := hF.cell 0; have z1 := hF.cell 1; have z2 := hF.cell 2; have z3 := hF.cell 3
  simp only [List.setIfInBounds_toArray, List.set_cons_zero, List.set_cons_succ, List.getElem?_toArray, List.getElem?_cons_zero, List.getElem?_cons_succ] at z0 z1 z2 z3
  refine bodyPost_ret (v := .tuple #[.string u, .agg #[(.int .i64 2), (.string u), (.pointer none), (.int .i64 0)]]) (by simp [results, Tryz.results9, go_sem, z0, z1, z2, z3]) rfl ⟨rfl, ?_⟩
  exact ((((HBB.out.setCell (p := ⟨B + 1, 0, none⟩) (by rw [HW.out]; simp) (.int .i64 2)).setCell (p := ⟨B + 1, 1, none⟩) (by rw [HW.out]; simp) (.string u)).setCell (p := ⟨B + 1, 2, none⟩) (by rw [HW.out]; simp) (.pointer none)).setCell (p := ⟨B + 1, 3, none⟩) (by rw [HW.out]; simp) (.int .i64 0))
set_option maxHeartbeats 3000000 in
/-- A text. -/
theorem write_text (kk nn gg op : Int) (lo hi ln vc : Nat) (s tx : ByteArray) (va : Option Addr) (w : World) (hT : TabAt w) (hk : wrap64 ((IntKind.u64.wrap kk).tmod 4) = 2) (hs40 : s.size ≤ 40) (u : ByteArray) (hu : u = strB (quoteT s)) :
    Calls Tryz.prog 9 #[.agg #[.int .i64 kk, .int .i64 nn, .int .i64 gg, .string s, .int .i64 op, .int .u8 lo, .int .u8 hi, .string tx, .slice va ln vc]] w fun e w' => e = .returned (.tuple #[.string u, .agg #[.int .i64 3, .string s, .pointer none, .int .i64 0]]) ∧ Below w.heap.size w w' := by
  have HT := hide hT
  clear hT
  obtain ⟨B, hB⟩ : ∃ B, w.heap.size = B := ⟨_, rfl⟩
  obtain ⟨wa, ea⟩ : ∃ wa, w.alloc (.cells #[.int .i64 kk, .int .i64 nn, .int .i64 gg, .string s, .int .i64 op, .int .u8 lo, .int .u8 hi, .string tx, .slice va ln vc] 29) = wa := ⟨_, rfl⟩
  have hBa : Blk wa B #[.int .i64 kk, .int .i64 nn, .int .i64 gg, .string s, .int .i64 op, .int .u8 lo, .int .u8 hi, .string tx, .slice va ln vc] 29 := by rw [← ea, ← hB]; exact Blk.newAt rfl _ _
  have hsa : wa.heap.size = B + 1 := by rw [← ea, ← hB]; simp
  have hba : Below w.heap.size w wa := by rw [← ea]; exact (Below.refl _ _).alloc (Nat.le_refl _) _
  obtain ⟨wb, eb⟩ : ∃ wb, wa.alloc (.cells #[.int .i64 0, .string ⟨#[]⟩, .pointer none, .int .i64 0] 35) = wb := ⟨_, rfl⟩
  have hBb : Blk wb (B + 1) #[.int .i64 0, .string ⟨#[]⟩, .pointer none, .int .i64 0] 35 := by rw [← eb, ← hsa]; exact Blk.newAt rfl _ _
  have hab : Blk wb B #[.int .i64 kk, .int .i64 nn, .int .i64 gg, .string s, .int .i64 op, .int .u8 lo, .int .u8 hi, .string tx, .slice va ln vc] 29 := by rw [← eb]; exact hBa.alloc _
  have hsb : wb.heap.size = B + 2 := by rw [← eb]; simp; omega
  have HBB : Hid (Below w.heap.size w wb) := by rw [← eb]; exact hba.alloc (by rw [hB, hsa]; omega) _
  have HA := hide hab
  have HB := hide hBb
  have HW := hide hB
  have c0 := hab.cell 0; have c1 := hab.cell 1; have c2 := hab.cell 2; have c3 := hab.cell 3; have c4 := hab.cell 4; have c5 := hab.cell 5; have c6 := hab.cell 6; have c7 := hab.cell 7; have c8 := hab.cell 8
  simp only [List.getElem?_toArray, List.getElem?_cons_zero, List.getElem?_cons_succ] at c0 c1 c2 c3 c4 c5 c6 c7 c8
  clear hBa hba hab hBb
  go_enter Tryz.func9, Tryz.ntmps9
  have HU := hide hu
  clear hu c3
  go_wp2
  have hS : Blk { wb with drawn := wb.drawn + 1 } B #[.int .i64 kk, .int .i64 nn, .int .i64 gg, .string s, .int .i64 op, .int .u8 lo, .int .u8 hi, .string tx, .slice va ln vc] 29 := HA.out
  have hS2 : Below wb.heap.size wb { wb with drawn := wb.drawn + 1 } := ⟨rfl, rfl, rfl, Nat.le_refl _, fun _ _ => rfl⟩
  refine wp_region_noPanic (wp_region_held (S := fun W => Blk W B #[.int .i64 kk, .int .i64 nn, .int .i64 gg, .string s, .int .i64 op, .int .u8 lo, .int .u8 hi, .string tx, .slice va ln vc] 29) (by kernel_rfl) ?_)
  show wpAnyH _ _ _ _ _ 8 #[false, false, false, false, false, false, false, false] _ _
  generalize ({ wb with drawn := wb.drawn + 1 } : World) = W at hS hS2 ⊢
  refine h_take 0 (.pointer (some ⟨B, 3, none⟩)) rfl (by kernel_rfl) (by kernel_rfl) (by kernel_rfl) rfl (fun w hw => x_fldP3 _ _ _ _ _ _ _ B rfl w) hS ?_
  simp only [Act.put, List.setIfInBounds_toArray, List.set_cons_succ, List.set_cons_zero]
  refine h_take 1 (.string s) rfl (by kernel_rfl) (by kernel_rfl) (by kernel_rfl) rfl (fun w hw => x_ldS2 _ _ _ _ _ _ _ B 3 _ rfl w (hw.cell 3)) hS ?_
  simp only [Act.put, List.setIfInBounds_toArray, List.set_cons_succ, List.set_cons_zero]
  refine h_take 3 (.pointer (some ⟨B, 3, none⟩)) rfl (by kernel_rfl) (by kernel_rfl) (by kernel_rfl) rfl (fun w hw => x_fldP3 _ _ _ _ _ _ _ B rfl w) hS ?_
  simp only [Act.put, List.setIfInBounds_toArray, List.set_cons_succ, List.set_cons_zero]
  refine h_take 4 (.string s) rfl (by kernel_rfl) (by kernel_rfl) (by kernel_rfl) rfl (fun w hw => x_ldS2 _ _ _ _ _ _ _ B 3 _ rfl w (hw.cell 3)) hS ?_
  simp only [Act.put, List.setIfInBounds_toArray, List.set_cons_succ, List.set_cons_zero]
  refine h_take 5 (.agg #[.int .i64 3, .string s, .pointer none, .int .i64 0]) rfl (by kernel_rfl) (by kernel_rfl) (by kernel_rfl) rfl (fun w hw => x_bldT3 _ _ _ _ _ _ _ _ s rfl rfl w) hS ?_
  simp only [Act.put, List.setIfInBounds_toArray, List.set_cons_succ, List.set_cons_zero]
  refine h_callE 2 15 #[.string s] (fun v w' => v = .string u ∧ Below W.heap.size W w') rfl (by kernel_rfl) rfl (x_call1 _ _ _ _ _ _ _ _ _ _ rfl rfl (enters_of Tryz.func15 (by kernel_rfl) rfl) _) ((quote_any s (by omega) W).mono fun e w' h => ⟨_, h.1, by rw [HU.out], h.2⟩) (fun v w' h => hS.below h.2 hS.lt) ?_
  rintro v W2 ⟨rfl, hb2⟩
  simp only [Act.put, List.setIfInBounds_toArray, List.set_cons_succ, List.set_cons_zero]
  have hS0 := hS
  have hS := hS0.below hb2 hS0.lt
  refine h_take 6 (.string u) rfl (by kernel_rfl) (by kernel_rfl) (by kernel_rfl) rfl (fun w hw => x_assign _ _ _ _ _ _ _ _ rfl w) hS ?_
  simp only [Act.put, List.setIfInBounds_toArray, List.set_cons_succ, List.set_cons_zero]
  have HBc : Hid (Blk W2 (B + 1) #[.int .i64 0, .string ⟨#[]⟩, .pointer none, .int .i64 0] 35) := (HB.out.below hS2 HB.out.lt).below hb2 (HB.out.below hS2 HB.out.lt).lt
  have HBL : Hid (Below w.heap.size w W2) := HBB.out.trans ((hS2.trans (hb2.mono hS2.size)).mono HBB.out.size)
  have hS4 := (((hS.setOther ⟨B + 1, 0, none⟩ (.int .i64 3) (by show B ≠ B + 1; omega)).setOther ⟨B + 1, 1, none⟩ (.string s) (by show B ≠ B + 1; omega)).setOther ⟨B + 1, 2, none⟩ (.pointer none) (by show B ≠ B + 1; omega)).setOther ⟨B + 1, 3, none⟩ (.int .i64 0) (by show B ≠ B + 1; omega)
  refine h_step 7 _ rfl (by kernel_rfl) rfl (x_stT _ _ _ _ _ _ _ _ (B + 1) undef undef undef s #[] rfl rfl W2 HBc.out) hS4 ?_
  simp only [Act.put, List.setIfInBounds_toArray, List.set_cons_succ, List.set_cons_zero]
  refine wpAnyH_done (by kernel_rfl) ?_ _
  refine NoPanic.normal ?_
  clear hS hS2 hS0 hS4 hb2
  go_wp2
  have hF := ((((HBc.out.set 0 (.int .i64 3)).set 1 (.string s)).set 2 (.pointer none)).set 3 (.int .i64 0))
  have z0 := hF.cell 0; have z1 := hF.cell 1; have z2 := hF.cell 2; have z3 := hF.cell 3
  simp only [List.setIfInBounds_toArray, List.set_cons_zero, List.set_cons_succ, List.getElem?_toArray, List.getElem?_cons_zero, List.getElem?_cons_succ] at z0 z1 z2 z3
  refine bodyPost_ret (v := .tuple #[.string u, .agg #[(.int .i64 3), (.string s), (.pointer none), (.int .i64 0)]]) (by simp [results, Tryz.results9, go_sem, z0, z1, z2, z3]) rfl ⟨rfl, ?_⟩
  exact ((((HBL.out.setCell (p := ⟨B + 1, 0, none⟩) (by rw [HW.out]; simp) (.int .i64 3)).setCell (p := ⟨B + 1, 1, none⟩) (by rw [HW.out]; simp) (.string s)).setCell (p := ⟨B + 1, 2, none⟩) (by rw [HW.out]; simp) (.pointer none)).setCell (p := ⟨B + 1, 3, none⟩) (by rw [HW.out]; simp) (.int .i64 0))
set_option maxHeartbeats 3000000 in
/-- An expression. -/
theorem write_re (kk nn gg op : Int) (lo hi ln vc : Nat) (s tx : ByteArray) (va : Option Addr) (w : World) (hT : TabAt w) (hk : wrap64 ((IntKind.u64.wrap kk).tmod 4) = 3) (sh : SHP) (hC : ShC w [.int .i64 op, .int .u8 lo, .int .u8 hi, .string tx, .slice va ln vc] sh) (htx : Tx sh) (hnd : sh.nodes ≤ 15) :
    Calls Tryz.prog 9 #[.agg #[.int .i64 kk, .int .i64 nn, .int .i64 gg, .string s, .int .i64 op, .int .u8 lo, .int .u8 hi, .string tx, .slice va ln vc]] w fun e w' => ∃ q, e = .returned (.tuple #[.string (strB (47 :: (sh.re.txt ++ [47]))), .agg #[.int .i64 4, .string ⟨#[]⟩, .pointer (some ⟨q, 0, none⟩), .int .i64 0]]) ∧ ReAt w' q sh.re ∧ Below w.heap.size w w' := by
  have HT := hide hT
  clear hT
  obtain ⟨B, hB⟩ : ∃ B, w.heap.size = B := ⟨_, rfl⟩
  obtain ⟨wa, ea⟩ : ∃ wa, w.alloc (.cells #[.int .i64 kk, .int .i64 nn, .int .i64 gg, .string s, .int .i64 op, .int .u8 lo, .int .u8 hi, .string tx, .slice va ln vc] 29) = wa := ⟨_, rfl⟩
  have hBa : Blk wa B #[.int .i64 kk, .int .i64 nn, .int .i64 gg, .string s, .int .i64 op, .int .u8 lo, .int .u8 hi, .string tx, .slice va ln vc] 29 := by rw [← ea, ← hB]; exact Blk.newAt rfl _ _
  have hsa : wa.heap.size = B + 1 := by rw [← ea, ← hB]; simp
  have hba : Below w.heap.size w wa := by rw [← ea]; exact (Below.refl _ _).alloc (Nat.le_refl _) _
  obtain ⟨wb, eb⟩ : ∃ wb, wa.alloc (.cells #[.int .i64 0, .string ⟨#[]⟩, .pointer none, .int .i64 0] 35) = wb := ⟨_, rfl⟩
  have hBb : Blk wb (B + 1) #[.int .i64 0, .string ⟨#[]⟩, .pointer none, .int .i64 0] 35 := by rw [← eb, ← hsa]; exact Blk.newAt rfl _ _
  have hab : Blk wb B #[.int .i64 kk, .int .i64 nn, .int .i64 gg, .string s, .int .i64 op, .int .u8 lo, .int .u8 hi, .string tx, .slice va ln vc] 29 := by rw [← eb]; exact hBa.alloc _
  have hsb : wb.heap.size = B + 2 := by rw [← eb]; simp; omega
  have HBB : Hid (Below w.heap.size w wb) := by rw [← eb]; exact hba.alloc (by rw [hB, hsa]; omega) _
  have HA := hide hab
  have HB := hide hBb
  have HW := hide hB
  have c0 := hab.cell 0; have c1 := hab.cell 1; have c2 := hab.cell 2; have c3 := hab.cell 3; have c4 := hab.cell 4; have c5 := hab.cell 5; have c6 := hab.cell 6; have c7 := hab.cell 7; have c8 := hab.cell 8
  simp only [List.getElem?_toArray, List.getElem?_cons_zero, List.getElem?_cons_succ] at c0 c1 c2 c3 c4 c5 c6 c7 c8
  clear hBa hba hab hBb
  go_enter Tryz.func9, Tryz.ntmps9
  have hTb : TabAt wb := HT.out.agree (Agree.of_all (K := fun _ => True) HBB.out) trivial
  have HMK := hide (make_any sh _ wb (hC.keep HBB.out) htx (by omega) hTb)
  have HTX := hide htx
  have HND := hide hnd
  clear hC htx hnd hTb
  unfold ShVal at HMK
  go_wp2_with fail
  refine HMK.out.mono ?_
  rintro e w2 ⟨q, rfl, hq, hb2⟩
  have HQ := hide hq
  have HB2 : Hid (Below w.heap.size w w2) := HBB.out.trans (hb2.mono HBB.out.size)
  have HBc := hide (HB.out.below hb2 HB.out.lt)
  have hag := again15 HTX.out HND.out
  have hOF := textOf_any sh.re q w2 sh.wf hq (by omega) (HT.out.agree (Agree.of_all (K := fun _ => True) HB2.out) trivial)
  obtain ⟨u, hu⟩ : ∃ u, u = strB sh.re.txt := ⟨_, rfl⟩
  have hus : u.size ≤ 65000 := by rw [hu, strB_size]; exact hag.1
  rw [← hu] at hOF
  have HU := hide hu
  have HOF := hide hOF
  clear hq hb2 HMK hOF hu hag
  unfold PT at HOF ⊢
  go_wp2_with fail
  refine HOF.out.mono ?_
  rintro e w3 ⟨rfl, hb3⟩
  have HB3 : Hid (Below w.heap.size w w3) := HB2.out.trans (hb3.mono HB2.out.size)
  have HBd := hide (HBc.out.below hb3 HBc.out.lt)
  have HQ3 := hide (HQ.out.keep hb3)
  have z47 : (⟨#[47]⟩ : ByteArray).size = 1 := rfl
  clear hb3 HOF
  have q0 := HBd.out.cell 0; have q1 := HBd.out.cell 1; have q2 := HBd.out.cell 2; have q3 := HBd.out.cell 3
  have g0 := HBd.out.frozen 0; have g1 := HBd.out.frozen 1; have g2 := HBd.out.frozen 2; have g3 := HBd.out.frozen 3
  simp only [List.getElem?_toArray, List.getElem?_cons_zero, List.getElem?_cons_succ] at q0 q1 q2 q3
  go_wp2
  all_goals try (exfalso; simp only [ByteArray.size_append] at *; omega)
  clear q0 q1 q2 q3 g0 g1 g2 g3
  have hF := ((((HBd.out.set 0 (.int .i64 4)).set 1 (.string ⟨#[]⟩)).set 2 (.pointer (some ⟨q, 0, none⟩))).set 3 (.int .i64 0))
  have z0 := hF.cell 0; have z1 := hF.cell 1; have z2 := hF.cell 2; have z3 := hF.cell 3
  simp only [List.setIfInBounds_toArray, List.set_cons_zero, List.set_cons_succ, List.getElem?_toArray, List.getElem?_cons_zero, List.getElem?_cons_succ] at z0 z1 z2 z3
  refine bodyPost_ret (v := .tuple #[.string (⟨#[47]⟩ ++ u ++ ⟨#[47]⟩), .agg #[(.int .i64 4), (.string ⟨#[]⟩), (.pointer (some ⟨q, 0, none⟩)), (.int .i64 0)]]) (by simp [results, Tryz.results9, go_sem, z0, z1, z2, z3]) rfl ⟨q, ?_, ?_, ?_⟩
  · rw [HU.out, show (47 :: (sh.re.txt ++ [47])) = [47] ++ sh.re.txt ++ [47] from rfl, strB_append, strB_append]
    rfl
  · have e1 := HQ3.out.stT (i := 0) (v := .int .i64 4) (old := .int .i64 0) HBd.out rfl (by intro p; simp [PT])
    have b1 := HBd.out.set 0 (.int .i64 4)
    have e2 := e1.stT (i := 1) (v := .string ⟨#[]⟩) (old := .string ⟨#[]⟩) b1 rfl (by intro p; simp [PT])
    have b2 := b1.set 1 (.string ⟨#[]⟩)
    have e3 := e2.stT (i := 2) (v := .pointer (some ⟨q, 0, none⟩)) (old := .pointer none) b2 rfl (by intro p; simp [PT])
    have b3 := b2.set 2 (.pointer (some ⟨q, 0, none⟩))
    exact e3.stT (i := 3) (v := .int .i64 0) (old := .int .i64 0) b3 rfl (by intro p; simp [PT])
  · exact ((((HB3.out.setCell (p := ⟨B + 1, 0, none⟩) (by rw [HW.out]; simp) (.int .i64 4)).setCell (p := ⟨B + 1, 1, none⟩) (by rw [HW.out]; simp) (.string ⟨#[]⟩)).setCell (p := ⟨B + 1, 2, none⟩) (by rw [HW.out]; simp) (.pointer (some ⟨q, 0, none⟩))).setCell (p := ⟨B + 1, 3, none⟩) (by rw [HW.out]; simp) (.int .i64 0))
end Go.Proofs.YtjlgepahgmkamaaGreatDoor
