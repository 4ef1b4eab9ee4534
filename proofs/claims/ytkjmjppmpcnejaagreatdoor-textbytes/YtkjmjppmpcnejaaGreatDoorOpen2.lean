/- A slice of sets that came in. -/
import Derived.Test.YtkjmjppmpcnejaaGreatDoorOpen
import Derived.Test.YtkjmjppmpcnejaaGreatDoorRow
import Derived.Deep.Slices
namespace Go.Proofs.YtkjmjppmpcnejaaGreatDoor
set_option maxRecDepth 100000
open Go.ChangeShapes Go.WideShapes Go.ChangeAt Go.WideMaps Go.WideElems Go.RowKit

theorem elem_set {H : Type} {enc : TypeId × Value → H} {w : World} {base : Nat} {sp : Nat → Bool} {held : Bool} {n : Nat} {cs : List Value} {x : DataW H × List MemPlace}
    (hf : DataW.trod enc Tryz.prog w base sp held n 42 cs = some x) : ∃ s, cs = [.int .u64 (wd s 0), .int .u64 (wd s 1), .int .u64 (wd s 2), .int .u64 (wd s 3)] := by
  obtain ⟨xs, m, rfl, hx, hl, hn, hel⟩ := DataW.trod_array Tryz.underlying42 hf
  rw [cells4] at hl
  have h0 := hel 0 (by omega); have h1 := hel 1 (by omega); have h2 := hel 2 (by omega); have h3 := hel 3 (by omega)
  rw [cells1] at h0 h1 h2 h3
  match cs, hl, xs, hn with
  | [c0, c1, c2, c3], _, [x0, x1, x2, x3], _ =>
    simp only [List.getElem?_cons_zero, List.getElem?_cons_succ] at h0 h1 h2 h3
    obtain ⟨a, e0, rfl, w0⟩ := DataW.trod_int Tryz.underlying40 h0
    obtain ⟨b, e1, rfl, w1⟩ := DataW.trod_int Tryz.underlying40 h1
    obtain ⟨c, e2, rfl, w2⟩ := DataW.trod_int Tryz.underlying40 h2
    obtain ⟨d', e3, rfl, w3⟩ := DataW.trod_int Tryz.underlying40 h3
    simp at e0 e1 e2 e3
    subst e0 e1 e2 e3
    have b0 := bounds_u64 w0; have b1 := bounds_u64 w1; have b2 := bounds_u64 w2; have b3 := bounds_u64 w3
    obtain ⟨a, rfl⟩ := Int.eq_ofNat_of_zero_le b0.1
    obtain ⟨b, rfl⟩ := Int.eq_ofNat_of_zero_le b1.1
    obtain ⟨c, rfl⟩ := Int.eq_ofNat_of_zero_le b2.1
    obtain ⟨d', rfl⟩ := Int.eq_ofNat_of_zero_le b3.1
    obtain ⟨s, g0, g1, g2, g3⟩ := mk_set a b c d' (by omega) (by omega) (by omega) (by omega)
    subst g0 g1 g2 g3
    exact ⟨s, rfl⟩

end Go.Proofs.YtkjmjppmpcnejaaGreatDoor
