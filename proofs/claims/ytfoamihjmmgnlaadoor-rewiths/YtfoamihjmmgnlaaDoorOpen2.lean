/- A slice of sets that came in. -/
import Derived.Test.YtfoamihjmmgnlaaDoorOpen
import Derived.Test.YtfoamihjmmgnlaaDoorRow
import Derived.Deep.Slices
namespace Go.Proofs.YtfoamihjmmgnlaaDoor
set_option maxRecDepth 100000
open Go.ChangeShapes Go.WideShapes Go.ChangeAt Go.WideMaps Go.WideElems Go.RowKit

theorem elem_set {H : Type} {enc : TypeId × Value → H} {w : World} {base : Nat} {sp : Nat → Bool} {held : Bool} {n : Nat} {cs : List Value} {x : DataW H × List MemPlace}
    (hf : DataW.trod enc Tryd.prog w base sp held n 24 cs = some x) : ∃ s, cs = [.int .u64 (wd s 0), .int .u64 (wd s 1), .int .u64 (wd s 2), .int .u64 (wd s 3)] := by
  obtain ⟨xs, m, rfl, hx, hl, hn, hel⟩ := DataW.trod_array Tryd.underlying24 hf
  rw [cells4] at hl
  have h0 := hel 0 (by omega); have h1 := hel 1 (by omega); have h2 := hel 2 (by omega); have h3 := hel 3 (by omega)
  rw [cells1] at h0 h1 h2 h3
  match cs, hl, xs, hn with
  | [c0, c1, c2, c3], _, [x0, x1, x2, x3], _ =>
    simp only [List.getElem?_cons_zero, List.getElem?_cons_succ] at h0 h1 h2 h3
    obtain ⟨a, e0, rfl, w0⟩ := DataW.trod_int Tryd.underlying22 h0
    obtain ⟨b, e1, rfl, w1⟩ := DataW.trod_int Tryd.underlying22 h1
    obtain ⟨c, e2, rfl, w2⟩ := DataW.trod_int Tryd.underlying22 h2
    obtain ⟨d', e3, rfl, w3⟩ := DataW.trod_int Tryd.underlying22 h3
    simp at e0 e1 e2 e3
    subst e0 e1 e2 e3
    have b0 := bounds_u64 w0; have b1 := bounds_u64 w1; have b2 := bounds_u64 w2; have b3 := bounds_u64 w3
    obtain ⟨a, rfl⟩ := Int.eq_ofNat_of_zero_le b0.1
    obtain ⟨b, rfl⟩ := Int.eq_ofNat_of_zero_le b1.1
    obtain ⟨c, rfl⟩ := Int.eq_ofNat_of_zero_le b2.1
    obtain ⟨d', rfl⟩ := Int.eq_ofNat_of_zero_le b3.1
    obtain ⟨s, g0, g1, g2, g3⟩ := mk_set a b c d' (by omega) (by omega) (by omega) (by omega)
    subst g0 g1 g2 g3
    exact ⟨s, rfl⟩

theorem open_sets {H : Type} {enc : TypeId × Value → H} {w : World} {r : Reach} {b0 base : Nat} {sp : Nat → Bool} {held : Bool} {v : Value} {d : DataW H} {p : List MemPlace}
    (hv : Value.okWide Tryd.prog w r b0 47 v) (h : DataW.Trod enc Tryd.prog w base sp held 47 v d p) : ∃ l, SetsRow w v l := by
  obtain ⟨a, len, cap, rfl⟩ := okWide_slice Tryd.underlying47 hv
  obtain ⟨fuel, hf⟩ := h
  rcases Go.Deep.open_slice Tryd.underlying47 hf with ⟨hcs, _⟩ | ⟨x, l, c, m, n, D, Pl, hcs, _, hl, hm, hmm, _, hel⟩
  · simp [Value.cells] at hcs
    obtain ⟨rfl, rfl, rfl⟩ := hcs
    exact ⟨[], by simp, none, 0, rfl, fun k hk => by simp at hk⟩
  · simp [Value.cells] at hcs
    obtain ⟨rfl, rfl, rfl⟩ := hcs
    have hlm : len ≤ m := by rw [hmm]; split <;> omega
    unfold maxLen at hm
    have key : ∀ i, ∃ s : BitVec 256, i < len → ∀ j, j < 4 → w.cell? ((x.add (i * 4)).add j) = some (.int .u64 (wd s j)) := fun i => by
      by_cases hi : i < len
      · obtain ⟨cs', h1, h2⟩ := hel i (by omega)
        rw [cells4] at h1
        obtain ⟨s, rfl⟩ := elem_set h2
        obtain ⟨_, h4, h5⟩ := World.cells?_some h1
        refine ⟨s, fun _ j hj => ?_⟩
        rw [h5 j hj]
        match j, hj with
        | 0, _ => rfl
        | 1, _ => rfl
        | 2, _ => rfl
        | 3, _ => rfl
      · exact ⟨0, fun h => absurd h hi⟩
    let f : Nat → BitVec 256 := fun i => Classical.choose (key i)
    have hfs : ∀ i, i < len → ∀ j, j < 4 → w.cell? ((x.add (i * 4)).add j) = some (.int .u64 (wd (f i) j)) := fun i => Classical.choose_spec (key i)
    refine ⟨(List.range len).map f, by simp; omega, some x, cap, by simp, fun k hk => ?_⟩
    have hk' : k < len := by simpa using hk
    obtain ⟨b, off, spot⟩ := x
    have hspot : spot = none := by
      have := World.cell?_spot (hfs 0 (by omega) 0 (by omega))
      simpa [Addr.add] using this
    subst hspot
    have hadd : ∀ j, ((⟨b, off, none⟩ : Addr).add (k * 4)).add j = ⟨b, off + k * 4 + j, none⟩ := fun j => by rw [Go.WideShapes.add_plain, Go.WideShapes.add_plain]
    refine ⟨b, off, rfl, ?_, fun j hj => ?_⟩
    · have h0 := hfs k hk' 0 (by omega)
      rw [hadd] at h0
      exact World.block_lt_of_cell? _ _ h0
    · have h0 := hfs k hk' j hj
      rw [hadd] at h0
      rw [h0]
      simp [List.getD_eq_getElem?_getD, hk']
end Go.Proofs.YtfoamihjmmgnlaaDoor
