/- Texts of this claim put together: Grow, ReG. -/
import Derived.Test.YthhfpjehamhcbaaGreatDoorJoinHeap
import Derived.Sort.Grow
import Derived.Deep.Draws
import Derived.Test.YthhfpjehamhcbaaGreatDoorJoinReF
import Derived.Shelf.SlSortCmp.Whole1
import Derived.Shelf.SlGeneric
/- A world that has only grown. -/
namespace Go.Proofs.YthhfpjehamhcbaaGreatDoor
set_option maxRecDepth 100000
open Go.RowKit Go.Sort

/-- New memory and draws: a world that has grown. -/
theorem grown_of_below {w w' : World} (h : Below w.heap.size w w') (hd : w.drawn ≤ w'.drawn) : ∃ q os, w' = grow (w.drewN q) os := by
  refine ⟨w'.drawn - w.drawn, w'.heap.extract w.heap.size w'.heap.size, ?_⟩
  obtain ⟨h1, h2, h3, h4, h5⟩ := h
  have hh : w'.heap = w.heap ++ w'.heap.extract w.heap.size w'.heap.size := by
    apply Array.ext_getElem?
    intro i
    rw [Array.getElem?_append]
    split
    · exact h5 i ‹_›
    · rename_i hlt
      rw [Array.getElem?_extract]
      split
      · congr 1; omega
      · rw [Array.getElem?_eq_none (by omega)]
  cases w' with
  | mk heap tape drawn os output =>
  cases w with
  | mk heap0 tape0 drawn0 os0 output0 =>
    simp only at *
    subst h1 h2 h3
    simp only [grow, World.drewN]
    congr 1
    omega


end Go.Proofs.YthhfpjehamhcbaaGreatDoor
/- slices.SortFunc at expressions. -/
namespace Go.Proofs.YthhfpjehamhcbaaGreatDoor
set_option maxRecDepth 100000
set_option linter.unusedSimpArgs false
set_option linter.unusedVariables false
open Go.Shelf Go.RowKit Go.Lib Go.Sort
shelf_lay_g SlLaysF.n6 Slsf 6 at Tryz 86 as sortLaidRe

/-- An expression and where it lies. -/
def Elem (W0 : World) : Type := { p : Nat × RE // ReAt W0 p.1 p.2 ∧ WfK p.2 }
def encP {W0 : World} (x : Elem W0) : Value := PT x.1.1
def cfP {W0 : World} (x y : Elem W0) : Int := lexN x.1.2.key y.1.2.key
theorem swoP {W0 : World} : SWO (ltOf (cfP (W0 := W0))) where
  irrefl x := by unfold ltOf cfP; rw [lexN_self]; rfl
  trans x y z h1 h2 := by
    unfold ltOf cfP at *
    simp at *
    have h := lexN_trans x.1.2.key y.1.2.key z.1.2.key (by omega) (by omega)
    rcases Int.lt_or_eq_of_le h.1 with h3 | h3
    · exact h3
    · have := (h.2 h3).1; omega
  ntrans x y z h1 h2 := by
    unfold ltOf cfP at *
    simp at *
    have e1 := lexN_swap x.1.2.key y.1.2.key
    have e2 := lexN_swap y.1.2.key z.1.2.key
    have e3 := lexN_swap x.1.2.key z.1.2.key
    have h := lexN_trans z.1.2.key y.1.2.key x.1.2.key (by omega) (by omega)
    omega
section
variable {W0 : World} [Inhabited (Elem W0)]
theorem heap_sortP (w : World) (blk off m : Nat) (dk : Array (Elem W0)) (os : Array Obj) (k : Nat) (hk : k < w.heap.size) (hne : k ≠ blk) : (sortWorld encP w blk off m dk os).heap[k]? = w.heap[k]? := by
  unfold sortWorld
  have hz : (putRow encP (Sort.ahead w m) blk off dk).heap.size = w.heap.size := by simp [putRow, mapBlock, Sort.ahead]
  show ((putRow encP (Sort.ahead w m) blk off dk).heap ++ os)[k]? = _
  rw [Array.getElem?_append_left (by rw [hz]; exact hk)]
  unfold putRow mapBlock
  simp [Sort.ahead, Array.getElem?_modify, Ne.symm hne]
theorem size_sortP (w : World) (blk off m : Nat) (dk : Array (Elem W0)) (os : Array Obj) : (sortWorld encP w blk off m dk os).heap.size = w.heap.size + os.size := by
  show ((putRow encP (Sort.ahead w m) blk off dk).heap ++ os).size = _
  rw [Array.size_append]; simp [putRow, mapBlock, Sort.ahead]
end
theorem cmpLaysP (w : World) (hT : TabAt w) (blk off size : Nat) [Inhabited (Elem (wipe w blk))] (hb : blk < w.heap.size) (hne : blk ≠ 0) : CmpLays1 Tryz.prog 49 #[] (encP (W0 := wipe w blk)) cfP blk off size w := by
  intro m os dk _ x y
  have hk := heap_sortP w blk off m dk os
  have hs := size_sortP w blk off m dk os
  have hT2 : TabAt (sortWorld encP w blk off m dk os) := fun j hj => by
    have hc := hT j hj
    rw [← hc]
    exact World.cell?_of_block (w := w) (hk _ (World.block_lt_of_cell? _ _ hc) (Ne.symm hne))
  have h1 := x.2.1.unwipe (w' := sortWorld encP w blk off m dk os) hb (by omega) hk
  have h2 := y.2.1.unwipe (w' := sortWorld encP w blk off m dk os) hb (by omega) hk
  exact (reCompare_any x.1.2 y.1.2 x.1.1 y.1.1 _ x.2.2 y.2.2 h1 h2 hT2).mono fun e w' h => ⟨h.1, grown_of_below h.2.below h.2.drawn⟩

theorem sortRe_any (blk cap : Nat) (ps : List (Nat × RE)) (w : World) (hT : TabAt w) (hne : blk ≠ 0) (hl : ps.length < 4611686018427387904) (h0 : ps ≠ []) (hP : PtrsIn w blk ps) :
    Calls Tryz.prog 86 #[.slice (some ⟨blk, 0, none⟩) ps.length cap, .func (.func 49) #[] #[]] w fun e w' => e = .returned (.tuple #[]) ∧
      ∃ ps' : List (Nat × RE), ps'.Perm ps ∧ ps'.Pairwise (fun x y => lexN x.2.key y.2.key ≤ 0) ∧ PtrsIn w' blk ps' ∧ w'.os = w.os ∧ w'.tape = w.tape ∧ w'.output = w.output ∧ w.heap.size ≤ w'.heap.size ∧ ∀ k, k < w.heap.size → k ≠ blk → w'.heap[k]? = w.heap[k]? := by
  obtain ⟨p0, hp0⟩ := List.exists_mem_of_ne_nil ps h0
  letI : Inhabited (Elem (wipe w blk)) := ⟨⟨p0, hP.elem p0 hp0⟩⟩
  obtain ⟨d, hd⟩ : ∃ d : Array (Elem (wipe w blk)), d = (ps.attach.map fun p => (⟨p.1, hP.elem p.1 p.2⟩ : Elem (wipe w blk))).toArray := ⟨_, rfl⟩
  have hdm : d.toList.map (fun x => x.1) = ps := by
    subst hd
    show (ps.attach.map fun p => (⟨p.1, hP.elem p.1 p.2⟩ : Elem (wipe w blk))).map (fun x => x.1) = ps
    rw [List.map_map]
    exact List.attach_map_subtype_val ps
  have hsz : d.size = ps.length := by rw [← hdm, List.length_map]; simp
  have hget : ∀ (d : Array (Elem (wipe w blk))) j (hj : j < d.size), d[j]! = d[j] := fun d j hj => getElem!_pos d j hj
  have hH : Holds encP w blk 0 d := fun j hj => by
    rw [hget d j hj, Nat.zero_add]
    have := hP.cell j (d[j]).1 (by rw [← hdm]; simp [hj])
    exact this
  have hcon := Any.slices_SortFunc sortLaidRe (encP (W0 := wipe w blk)) (fun x => rfl) cfP swoP 49 #[] blk 0 cap d w (enters_of Tryz.func49 (by kernel_rfl) rfl) (cmpLaysP w hT blk 0 _ hP.lt hne) hH hP.lt (by omega)
  rw [hsz] at hcon
  refine Calls.mono hcon ?_
  rintro e w' ⟨rfl, d', n, os, ⟨hp1, -, hp3⟩, hs, rfl⟩
  have hk := heap_sortP w blk 0 n d' os
  have hz := size_sortP w blk 0 n d' os
  have hsz' : d'.size = ps.length := by omega
  refine ⟨rfl, d'.toList.map (fun x => x.1), ?_, ?_, ?_, rfl, rfl, rfl, by omega, hk⟩
  · rw [← hdm]
    refine List.Perm.map _ ?_
    have e1 : d'.extract 0 ps.length = d' := by rw [← hsz']; simp
    have e2 : d.extract 0 ps.length = d := by rw [← hsz]; simp
    rw [e1, e2] at hp3
    exact hp3
  · rw [List.pairwise_map, List.pairwise_iff_getElem]
    intro i j hi hj hij
    have h := hs i j (by omega) hij (by simp at hj; omega)
    simp only [Array.length_toList] at hi hj
    rw [hget d' i hi, hget d' j hj] at h
    unfold ltOf cfP at h
    simp at h
    have := lexN_swap (d'[i]).1.2.key (d'[j]).1.2.key
    simp only [Array.getElem_toList]
    omega
  · refine ⟨by have := hP.lt; omega, fun j p hp => ?_, fun p hp => ?_⟩
    · have h1 := holds_putRow encP (Sort.ahead w n) blk 0 d d' hH (by omega)
      have hj : j < d'.size := by have := (List.getElem?_eq_some_iff.1 hp).1; simpa using this
      have hlt : blk < (putRow encP (Sort.ahead w n) blk 0 d').heap.size := by simp [Sort.ahead]; exact hP.lt
      have h2 := h1 j hj
      rw [hget d' j hj, Nat.zero_add] at h2
      have hpe : p = (d'[j]).1 := by simpa [hj] using hp.symm
      refine ⟨?_, ?_⟩
      · rw [show sortWorld encP w blk 0 n d' os = grow (putRow encP (Sort.ahead w n) blk 0 d') os from rfl, cell?_grow _ _ _ hlt, h2.1, hpe]; rfl
      · rw [show sortWorld encP w blk 0 n d' os = grow (putRow encP (Sort.ahead w n) blk 0 d') os from rfl, frozen?_grow _ _ _ hlt]; exact h2.2
    · obtain ⟨x, -, rfl⟩ := List.mem_map.1 hp
      exact ⟨x.2.1.rewipe hP.lt (by omega) hk, x.2.2⟩
end Go.Proofs.YthhfpjehamhcbaaGreatDoor
