/- byLeast: what it hands back; it lays blocks, and turns nothing. -/
import Derived.Test.YtfoamihjmmgnlaaDoorSetF
import Derived.Sort.Grow
import Derived.Deep.Draws
namespace Go.Proofs.YtfoamihjmmgnlaaDoor
set_option maxRecDepth 100000
open Go.RowKit Go.Sort

/-- The least byte of a set, 0 where there is none. -/
def least (s : BitVec 256) : Nat := (bytesOf s).headD 0
theorem least_lt (s : BitVec 256) : least s < 256 := by
  unfold least
  cases e : bytesOf s with
  | nil => simp
  | cons x r => have := bytesOf_lt s x (by rw [e]; simp); simpa using this

/-- New memory and draws: a world that has grown. -/
theorem grown_of_below {w w' : World} (h : Below w.heap.size w w') (hd : w.drawn ≤ w'.drawn) : ∃ q os, w' = grow (w.drewN q) os := by
  refine ⟨w'.drawn - w.drawn, w'.heap.extract w.heap.size w'.heap.size, ?_⟩
  obtain ⟨h1, h2, h3, h4, h5⟩ := h
  have hh : w'.heap = w.heap ++ w'.heap.extract w.heap.size w'.heap.size := by
    apply Array.ext_getElem?
    intro i
    rw [Array.getElem?_append]
    split
    · exact h5 i ‹_›
    · rename_i hlt
      rw [Array.getElem?_extract]
      split
      · congr 1; omega
      · rw [Array.getElem?_eq_none (by omega)]
  cases w' with
  | mk heap tape drawn os output =>
  cases w with
  | mk heap0 tape0 drawn0 os0 output0 =>
    simp only at *
    subst h1 h2 h3
    simp only [grow, World.drewN]
    congr 1
    omega

def cmpB (x y : Nat) : Int := if x < y then -1 else if y < x then 1 else 0
set_option maxRecDepth 100000 in
theorem compare_any (x y : Nat) (w : World) :
    Calls Tryd.prog 81 #[.int .u8 x, .int .u8 y] w fun e w' => e = .returned (.int .i64 (cmpB x y)) ∧ w' = w := by
  go_enter Tryd.func81, Tryd.ntmps81
  go_wp2
  all_goals
    go_ret
    refine ⟨?_, rfl⟩
    unfold cmpB
    repeat' split
    all_goals first | rfl | omega

set_option maxRecDepth 100000 in
set_option maxHeartbeats 1000000 in
theorem byLeast_any (x y : BitVec 256) (w : World) (hT : TabAt w) :
    Calls Tryd.prog 59 #[SV x, SV y] w fun e w' => e = .returned (.int .i64 (cmpB (least x) (least y))) ∧ ∃ q os, w' = grow (w.drewN q) os := by
  have HT := hide hT
  clear hT
  go_enter Tryd.func59, Tryd.ntmps59
  go_wp2_with fail
  refine (least_drawn x _ (HT.out.agree (Agree.of_all (K := fun _ => True) (((Below.refl w.heap.size w).alloc (Nat.le_refl _) _).alloc (by simp) _)) trivial)).mono ?_
  rintro e w1 ⟨rfl, hb, hd⟩
  have ky := (Blk.newAt (w := w.alloc (.cells (WS x) 24)) (n := w.heap.size + 1) (by simp) (WS y) 24).below hb (by simp)
  have hB1 := (((Below.refl w.heap.size w).alloc (Nat.le_refl _) (.cells (WS x) 24)).alloc (by simp) (.cells (WS y) 24)).trans (hb.mono (by simp; omega))
  have HB := hide hB1
  have HD := hide (show w.drawn ≤ w1.drawn from hd)
  clear hb hd hB1
  have c0 := ky.cell 0; have c1 := ky.cell 1; have c2 := ky.cell 2; have c3 := ky.cell 3
  simp only [List.getElem?_toArray, List.getElem?_cons_zero, List.getElem?_cons_succ] at c0 c1 c2 c3
  rw [show leastV (bytesOf x) = .tuple #[.int .u8 (least x), .bool (!(bytesOf x).isEmpty)] from rfl]
  generalize (!(bytesOf x).isEmpty) = bx
  go_wp2_with fail
  refine (least_drawn y _ (HT.out.agree (Agree.of_all (K := fun _ => True) HB.out) trivial)).mono ?_
  rintro e w2 ⟨rfl, hb, hd⟩
  have HB2 := hide (HB.out.trans (hb.mono HB.out.size))
  have HD2 := hide (Nat.le_trans HD.out hd)
  clear hb hd c0 c1 c2 c3 ky
  rw [show leastV (bytesOf y) = .tuple #[.int .u8 (least y), .bool (!(bytesOf y).isEmpty)] from rfl]
  generalize (!(bytesOf y).isEmpty) = bY
  go_wp2_with fail
  refine (compare_any _ _ _).mono ?_
  rintro e w3 ⟨rfl, rfl⟩
  go_wp2
  go_ret
  exact ⟨rfl, grown_of_below HB2.out HD2.out⟩
end Go.Proofs.YtfoamihjmmgnlaaDoor
