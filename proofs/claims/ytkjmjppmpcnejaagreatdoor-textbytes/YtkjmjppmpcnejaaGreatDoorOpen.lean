/- A set that came in, opened; the table of math/bits, out of the row's condition. -/
import Derived.Test.YtkjmjppmpcnejaaGreatDoorRows
import Derived.Test.YtkjmjppmpcnejaaGreatDoorSetE
import Derived.Test.YtkjmjppmpcnejaaGreatDoorRow
import Derived.ProofKit
import Derived.LaidMore
import Derived.OpenShut
import Derived.Stop.Joined
import Derived.Lib.LaidTab
namespace Go.Proofs.YtkjmjppmpcnejaaGreatDoor
set_option maxRecDepth 100000
open Go.ChangeShapes Go.WideShapes Go.ChangeAt Go.WideMaps Go.WideElems Go.RowKit

/-- A set as data. -/
def SD {H : Type} (s : BitVec 256) : DataW H := .agg [.lit (.int .u64 (wd s 0)), .lit (.int .u64 (wd s 1)), .lit (.int .u64 (wd s 2)), .lit (.int .u64 (wd s 3))]

theorem mk_set (a b c d : Nat) (ha : a < 18446744073709551616) (hb : b < 18446744073709551616) (hc : c < 18446744073709551616) (hd : d < 18446744073709551616) : ∃ s : BitVec 256, wd s 0 = a ∧ wd s 1 = b ∧ wd s 2 = c ∧ wd s 3 = d := by
  refine ⟨BitVec.ofNat 256 (a + 18446744073709551616 * (b + 18446744073709551616 * (c + 18446744073709551616 * d))), ?_, ?_, ?_, ?_⟩ <;>
    (unfold wd; rw [BitVec.extractLsb'_toNat, BitVec.toNat_ofNat, Nat.shiftRight_eq_div_pow]; omega)

theorem own : ownKnob Tryz.prog.godebug = none := by kernel_rfl
theorem cells4 : Tryz.prog.cellsOf 42 = 4 := by kernel_rfl
theorem cells1 : Tryz.prog.cellsOf 40 = 1 := by kernel_rfl
theorem cellsB : Tryz.prog.cellsOf 5 = 1 := by kernel_rfl

theorem okWide_arr {P : Program} {w : World} {r : Reach} {base : Nat} {t e : TypeId} {v : Value} {n : Nat} (ht : P.underlying t = some (.array n e)) (h : Value.okWide P w r base t v) : ∃ cs, v = .agg cs ∧ cs.size = P.cellsOf t := by
  simp only [Value.okWide, ht] at h
  obtain ⟨cs, h1, h2, _⟩ := h
  exact ⟨cs, h1, h2⟩

theorem open_set {H : Type} {enc : TypeId × Value → H} {w : World} {r : Reach} {b0 base : Nat} {sp : Nat → Bool} {held : Bool} {v : Value} {d : DataW H} {p : List MemPlace}
    (hv : Value.okWide Tryz.prog w r b0 42 v) (h : DataW.Trod enc Tryz.prog w base sp held 42 v d p) : ∃ s, v = SV s ∧ d = SD s ∧ p = [] := by
  obtain ⟨cs, rfl, hsz⟩ := okWide_arr Tryz.underlying42 hv
  obtain ⟨fuel, hf⟩ := h
  obtain ⟨xs, m, rfl, hx, hl, hn, hel⟩ := DataW.trod_array Tryz.underlying42 hf
  rw [cells4] at hsz
  have h0 := hel 0 (by omega); have h1 := hel 1 (by omega); have h2 := hel 2 (by omega); have h3 := hel 3 (by omega)
  rw [cells1] at h0 h1 h2 h3
  obtain ⟨l⟩ := cs
  match l, hsz, xs, hn with
  | [c0, c1, c2, c3], _, [x0, x1, x2, x3], _ =>
    simp only [Value.cells, List.getElem?_cons_zero, List.getElem?_cons_succ] at h0 h1 h2 h3
    obtain ⟨a, e0, rfl, w0⟩ := DataW.trod_int Tryz.underlying40 h0
    obtain ⟨b, e1, rfl, w1⟩ := DataW.trod_int Tryz.underlying40 h1
    obtain ⟨c, e2, rfl, w2⟩ := DataW.trod_int Tryz.underlying40 h2
    obtain ⟨d', e3, rfl, w3⟩ := DataW.trod_int Tryz.underlying40 h3
    simp at e0 e1 e2 e3
    subst e0 e1 e2 e3
    have b0 := bounds_u64 w0; have b1 := bounds_u64 w1; have b2 := bounds_u64 w2; have b3 := bounds_u64 w3
    obtain ⟨a, rfl⟩ := Int.eq_ofNat_of_zero_le b0.1
    obtain ⟨b, rfl⟩ := Int.eq_ofNat_of_zero_le b1.1
    obtain ⟨c, rfl⟩ := Int.eq_ofNat_of_zero_le b2.1
    obtain ⟨d', rfl⟩ := Int.eq_ofNat_of_zero_le b3.1
    obtain ⟨s, g0, g1, g2, g3⟩ := mk_set a b c d' (by omega) (by omega) (by omega) (by omega)
    subst g0 g1 g2 g3
    simp at hx
    exact ⟨s, rfl, hx.1, hx.2⟩

theorem wf_wd (s : BitVec 256) (i : Nat) : (Lit.int .u64 (wd s i : Int)).wf = true := by
  have := wd_lt s i
  exact WalkArith.wf_u64 ⟨by omega, by omega⟩

theorem shut_set {H : Type} {enc : TypeId × Value → H} {w : World} {base : Nat} {sp : Nat → Bool} {held : Bool} (s : BitVec 256) : DataW.Trod enc Tryz.prog w base sp held 42 (SV s) (SD s) [] := by
  refine ⟨3, ?_⟩
  simp [DataW.trod, Tryz.underlying42, Tryz.underlying40, cells1, cells4, Value.cells, SD, wf_wd, List.range_succ]

theorem laidOut : laidOutB Tryz.prog = true := by kernel_rfl
theorem open_bytes {H : Type} {enc : TypeId × Value → H} {w : World} {r : Reach} {b0 base : Nat} {sp : Nat → Bool} {held : Bool} {v : Value} {d : DataW H} {p : List MemPlace}
    (hv : Value.okWide Tryz.prog w r b0 61 v) (h : DataW.Trod enc Tryz.prog w base sp held 61 v d p) : ∃ l, BytesRow w v l := by
  obtain ⟨a, len, cap, rfl⟩ := okWide_slice Tryz.underlying61 hv
  obtain ⟨fuel, hf⟩ := h
  rcases open_ints Tryz.underlying61 Tryz.underlying5 cellsB hf with ⟨hcs, _⟩ | ⟨x, l, c, zs, hcs, _, hl, hm, hz, _, hcell, hwz⟩
  · simp [Value.cells] at hcs
    obtain ⟨rfl, rfl, rfl⟩ := hcs
    exact ⟨[], by simp, by simp, none, 0, rfl, fun k hk => by simp at hk⟩
  · simp [Value.cells] at hcs
    obtain ⟨rfl, rfl, rfl⟩ := hcs
    have hlen : len ≤ zs.length := by rw [hz]; split <;> omega
    unfold maxLen at hm
    have hb : ∀ k, k < zs.length → 0 ≤ zs.getD k 0 ∧ zs.getD k 0 ≤ 255 := fun k hk => by
      refine bounds_u8 (hwz _ ?_)
      rw [List.getD_eq_getElem?_getD, List.getElem?_eq_getElem hk]; simp
    refine ⟨(zs.take len).map Int.toNat, ?_, by simp; omega, some x, cap, by simp [Nat.min_eq_left hlen], fun k hk => ?_⟩
    · intro y hy
      obtain ⟨z, hz1, rfl⟩ := List.mem_map.1 hy
      have := bounds_u8 (hwz z (List.mem_of_mem_take hz1))
      omega
    · have hk' : k < len := by simpa [Nat.min_eq_left hlen] using hk
      obtain ⟨b, off, rfl, hc⟩ := ints_at hcell (show 0 < zs.length by omega)
      refine ⟨b, off, rfl, World.block_lt_of_cell? _ _ (hc k (by omega)), ?_⟩
      rw [hc k (by omega)]
      have h0 := hb k (by omega)
      have e : ((zs.take len).map Int.toNat).getD k 0 = (zs.getD k 0).toNat := by
        rw [List.getD_eq_getElem?_getD, List.getD_eq_getElem?_getD, List.getElem?_map, List.getElem?_take_of_lt hk', List.getElem?_eq_getElem (show k < zs.length by omega)]; simp
      rw [e]
      congr 2
      omega

theorem gTab : Tryz.prog.globalNamed "math/bits.deBruijn64tab" = some 1 := by kernel_rfl
theorem tTab : (Tryz.prog.globals[1]?).map (·.type) = some 137 := by kernel_rfl
theorem cells64 : Tryz.prog.cellsOf 137 = 64 := by kernel_rfl
theorem laidTab : (Rows.laid_math_bits_deBruijn64tab : DataW Unit) = Lib.tabData .u8 (Lib.deBruijn64tab.map fun n : Nat => (n : Int)) := by kernel_rfl

theorem tab_of_laid {W : World} (h : laidMetH Tryz.prog [("math/bits.deBruijn64tab", Rows.laid_math_bits_deBruijn64tab)] W) : TabAt W := by
  rw [MakeChecks.laidMetH_plain _ _ _ (by kernel_rfl), laidTab] at h
  have hT := Lib.tabIs_of_head gTab tTab Tryz.underlying137 Tryz.underlying5 cellsB cells64 h
  intro j hj
  have := hT.cell gTab j (by simpa [Lib.deBruijn64tab] using hj)
  rw [this]
  have e : ((Lib.deBruijn64tab.map fun n : Nat => (n : Int)).getD j 0) = ((Lib.deBruijn64tab.getD j 0 : Nat) : Int) := by
    rw [List.getD_eq_getElem?_getD, List.getD_eq_getElem?_getD, List.getElem?_map]
    cases Lib.deBruijn64tab[j]? <;> rfl
  rw [e]

theorem door_met (os : Os) (args : Array Value) : laidMetH Tryz.prog [("math/bits.deBruijn64tab", Rows.laid_math_bits_deBruijn64tab)] ((World.doorLaid Tryz.prog 400 os).forCall (fun _ _ => 0) ⟨#[], args, []⟩).memory :=
  laidMetH_of_parts3 (fuel := 8) (laidMet_of_run' 8 (by kernel_rfl) (by kernel_rfl)) (by kernel_rfl) (by kernel_rfl)
end Go.Proofs.YtkjmjppmpcnejaaGreatDoor
