/- Blocks that an expression doesn't read. -/
import Derived.Test.YtkjmjppmpcnejaaGreatDoorReE
namespace Go.Proofs.YtkjmjppmpcnejaaGreatDoor
set_option maxRecDepth 100000
set_option linter.unusedSimpArgs false
set_option linter.unusedVariables false
open Go.RowKit

/-- An expression stays where the blocks that it reads stay. -/
theorem ReAt.via {w w' : World} {b : Nat} {r : RE} (h : ReAt w b r) (hs : w.heap.size ≤ w'.heap.size) (hc : ∀ a : Addr, (w.cell? a).isSome = true → w'.heap[a.block]? = w.heap[a.block]?) : ReAt w' b r := by
  induction h with
  | mk b o s ks v bs blk row kid ih =>
    refine .mk b o s ks v bs ((hc ⟨b, 0, none⟩ (by rw [blk.cell]; rfl)).trans blk) ?_ ih
    obtain ⟨h1, a, cap, rfl, h2⟩ := row
    refine ⟨h1, a, cap, rfl, fun k hk => ?_⟩
    obtain ⟨b', off, e, hlt, hcell⟩ := h2 k hk
    refine ⟨b', off, e, Nat.lt_of_lt_of_le hlt hs, ?_⟩
    rw [← hcell]
    exact World.cell?_of_block (w := w) (hc ⟨b', off + k, none⟩ (by rw [hcell]; rfl))
/-- The world without what one block holds. -/
def wipe (w : World) (blk : Nat) : World := w.putObj blk (.cells #[] 0)
theorem wipe_size (w : World) (blk : Nat) : (wipe w blk).heap.size = w.heap.size := World.putObj_size
theorem wipe_cell {w : World} {blk : Nat} (hb : blk < w.heap.size) {a : Addr} (h : ((wipe w blk).cell? a).isSome = true) : a.block ≠ blk := by
  intro e
  have hk : Blk (wipe w blk) blk #[] 0 := by
    unfold Blk wipe World.putObj
    simp [hb]
  unfold World.cell? at h
  rw [e, hk.of_cells] at h
  simp at h
theorem wipe_other {w : World} {blk k : Nat} (h : k ≠ blk) : (wipe w blk).heap[k]? = w.heap[k]? := World.putObj_heap_other h
/-- What does not read a block lies in every world that differs there alone. -/
theorem ReAt.unwipe {w w' : World} {blk b : Nat} {r : RE} (h : ReAt (wipe w blk) b r) (hb : blk < w.heap.size) (hs : w.heap.size ≤ w'.heap.size) (hk : ∀ k, k < w.heap.size → k ≠ blk → w'.heap[k]? = w.heap[k]?) : ReAt w' b r := by
  refine h.via (by rw [wipe_size]; exact hs) fun a ha => ?_
  have hne := wipe_cell hb ha
  rw [wipe_other hne]
  by_cases hl : a.block < w.heap.size
  · exact hk _ hl hne
  · exfalso
    unfold World.cell? at ha
    rw [wipe_other hne, Array.getElem?_eq_none (by omega)] at ha
    simp at ha
theorem ReAt.rewipe {w w' : World} {blk b : Nat} {r : RE} (h : ReAt (wipe w blk) b r) (hb : blk < w.heap.size) (hs : w.heap.size ≤ w'.heap.size) (hk : ∀ k, k < w.heap.size → k ≠ blk → w'.heap[k]? = w.heap[k]?) : ReAt (wipe w' blk) b r :=
  h.unwipe hb (by rw [wipe_size]; exact hs) fun k hl hne => by rw [wipe_other hne]; exact hk k hl hne

/-- Pointers to expressions in a block of their own, which the expressions don't read. -/
structure PtrsIn (w : World) (blk : Nat) (ps : List (Nat × RE)) : Prop where
  lt : blk < w.heap.size
  cell : ∀ j p, ps[j]? = some p → w.cell? ⟨blk, j, none⟩ = some (PT p.1) ∧ w.frozen? ⟨blk, j, none⟩ = false
  elem : ∀ p ∈ ps, ReAt (wipe w blk) p.1 p.2 ∧ WfK p.2

end Go.Proofs.YtkjmjppmpcnejaaGreatDoor
