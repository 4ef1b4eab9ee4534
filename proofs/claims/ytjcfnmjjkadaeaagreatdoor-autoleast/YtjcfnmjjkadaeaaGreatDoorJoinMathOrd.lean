/- Texts of this claim put together: ReF, Grow, ReG, ReH, MathOrd. -/
import Derived.Test.YtjcfnmjjkadaeaaGreatDoorJoinBudA
import Derived.Test.YtjcfnmjjkadaeaaGreatDoorJoinSetD
import Derived.Sort.Grow
import Derived.Deep.Draws
import Derived.Shelf.SlSortCmp.Whole1
import Derived.Shelf.SlGeneric
import Derived.Lib.SliceRun
/- Blocks that an expression doesn't read. -/
namespace Go.Proofs.YtjcfnmjjkadaeaaGreatDoor
set_option maxRecDepth 100000
set_option linter.unusedSimpArgs false
set_option linter.unusedVariables false
open Go.RowKit

/-- An expression stays where the blocks that it reads stay. -/
theorem ReAt.via [Forb] {w w' : World} {b : Nat} {r : RE} (h : ReAt w b r) (hs : w.heap.size ≤ w'.heap.size) (hc : ∀ a : Addr, (w.cell? a).isSome = true → w'.heap[a.block]? = w.heap[a.block]?) : ReAt w' b r := by
  induction h with
  | mk b o s ks v bs blk row kid ih =>
    refine .mk b o s ks v bs ((hc ⟨b, 0, none⟩ (by rw [blk.cell]; rfl)).trans blk) ?_ ih
    obtain ⟨h1, a, cap, rfl, h2⟩ := row
    refine ⟨⟨h1.1, h1.2.keep hs⟩, a, cap, rfl, fun k hk => ?_⟩
    obtain ⟨b', off, e, hlt, hcell⟩ := h2 k hk
    refine ⟨b', off, e, Nat.lt_of_lt_of_le hlt hs, ?_⟩
    rw [← hcell]
    exact World.cell?_of_block (w := w) (hc ⟨b', off + k, none⟩ (by rw [hcell]; rfl))
/-- The world without what one block holds. -/
def wipe (w : World) (blk : Nat) : World := w.putObj blk (.cells #[] 0)
theorem wipe_size (w : World) (blk : Nat) : (wipe w blk).heap.size = w.heap.size := World.putObj_size
theorem wipe_cell {w : World} {blk : Nat} (hb : blk < w.heap.size) {a : Addr} (h : ((wipe w blk).cell? a).isSome = true) : a.block ≠ blk := by
  intro e
  have hk : Blk (wipe w blk) blk #[] 0 := by
    unfold Blk wipe World.putObj
    simp [hb]
  unfold World.cell? at h
  rw [e, hk.of_cells] at h
  simp at h
theorem wipe_other {w : World} {blk k : Nat} (h : k ≠ blk) : (wipe w blk).heap[k]? = w.heap[k]? := World.putObj_heap_other h
/-- What does not read a block lies in every world that differs there alone. -/
theorem ReAt.unwipe [Forb] {w w' : World} {blk b : Nat} {r : RE} (h : ReAt (wipe w blk) b r) (hb : blk < w.heap.size) (hs : w.heap.size ≤ w'.heap.size) (hk : ∀ k, k < w.heap.size → k ≠ blk → w'.heap[k]? = w.heap[k]?) : ReAt w' b r := by
  refine h.via (by rw [wipe_size]; exact hs) fun a ha => ?_
  have hne := wipe_cell hb ha
  rw [wipe_other hne]
  by_cases hl : a.block < w.heap.size
  · exact hk _ hl hne
  · exfalso
    unfold World.cell? at ha
    rw [wipe_other hne, Array.getElem?_eq_none (by omega)] at ha
    simp at ha
theorem ReAt.rewipe [Forb] {w w' : World} {blk b : Nat} {r : RE} (h : ReAt (wipe w blk) b r) (hb : blk < w.heap.size) (hs : w.heap.size ≤ w'.heap.size) (hk : ∀ k, k < w.heap.size → k ≠ blk → w'.heap[k]? = w.heap[k]?) : ReAt (wipe w' blk) b r :=
  h.unwipe hb (by rw [wipe_size]; exact hs) fun k hl hne => by rw [wipe_other hne]; exact hk k hl hne

/-- Pointers to expressions in a block of their own, which the expressions don't read. -/
structure PtrsIn [Forb] (w : World) (blk : Nat) (ps : List (Nat × RE)) : Prop where
  lt : blk < w.heap.size
  cell : ∀ j p, ps[j]? = some p → w.cell? ⟨blk, j, none⟩ = some (PT p.1) ∧ w.frozen? ⟨blk, j, none⟩ = false
  elem : ∀ p ∈ ps, ReAt (wipe w blk) p.1 p.2 ∧ WfK p.2

end Go.Proofs.YtjcfnmjjkadaeaaGreatDoor
/- A world that has only grown. -/
namespace Go.Proofs.YtjcfnmjjkadaeaaGreatDoor
set_option maxRecDepth 100000
open Go.RowKit Go.Sort

/-- New memory and draws: a world that has grown. -/
theorem grown_of_below {w w' : World} (h : Below w.heap.size w w') (hd : w.drawn ≤ w'.drawn) : ∃ q os, w' = grow (w.drewN q) os := by
  refine ⟨w'.drawn - w.drawn, w'.heap.extract w.heap.size w'.heap.size, ?_⟩
  obtain ⟨h1, h2, h3, h4, h5⟩ := h
  have hh : w'.heap = w.heap ++ w'.heap.extract w.heap.size w'.heap.size := by
    apply Array.ext_getElem?
    intro i
    rw [Array.getElem?_append]
    split
    · exact h5 i ‹_›
    · rename_i hlt
      rw [Array.getElem?_extract]
      split
      · congr 1; omega
      · rw [Array.getElem?_eq_none (by omega)]
  cases w' with
  | mk heap tape drawn os output =>
  cases w with
  | mk heap0 tape0 drawn0 os0 output0 =>
    simp only at *
    subst h1 h2 h3
    simp only [grow, World.drewN]
    congr 1
    omega


end Go.Proofs.YtjcfnmjjkadaeaaGreatDoor
/- slices.SortFunc at expressions. -/
namespace Go.Proofs.YtjcfnmjjkadaeaaGreatDoor
set_option maxRecDepth 100000
set_option linter.unusedSimpArgs false
set_option linter.unusedVariables false
open Go.Shelf Go.RowKit Go.Lib Go.Sort
shelf_lay_g SlLaysF.n6 Slsf 6 at Tryz 100 as sortLaidRe

/-- An expression and where it lies. -/
def Elem [Forb] (W0 : World) : Type := { p : Nat × RE // ReAt W0 p.1 p.2 ∧ WfK p.2 }
def encP [Forb] {W0 : World} (x : Elem W0) : Value := PT x.1.1
def cfP [Forb] {W0 : World} (x y : Elem W0) : Int := lexN x.1.2.key y.1.2.key
theorem swoP [Forb] {W0 : World} : SWO (ltOf (cfP (W0 := W0))) where
  irrefl x := by unfold ltOf cfP; rw [lexN_self]; rfl
  trans x y z h1 h2 := by
    unfold ltOf cfP at *
    simp at *
    have h := lexN_trans x.1.2.key y.1.2.key z.1.2.key (by omega) (by omega)
    rcases Int.lt_or_eq_of_le h.1 with h3 | h3
    · exact h3
    · have := (h.2 h3).1; omega
  ntrans x y z h1 h2 := by
    unfold ltOf cfP at *
    simp at *
    have e1 := lexN_swap x.1.2.key y.1.2.key
    have e2 := lexN_swap y.1.2.key z.1.2.key
    have e3 := lexN_swap x.1.2.key z.1.2.key
    have h := lexN_trans z.1.2.key y.1.2.key x.1.2.key (by omega) (by omega)
    omega
section
variable [Forb] {W0 : World} [Inhabited (Elem W0)]
theorem heap_sortP (w : World) (blk off m : Nat) (dk : Array (Elem W0)) (os : Array Obj) (k : Nat) (hk : k < w.heap.size) (hne : k ≠ blk) : (sortWorld encP w blk off m dk os).heap[k]? = w.heap[k]? := by
  unfold sortWorld
  have hz : (putRow encP (Sort.ahead w m) blk off dk).heap.size = w.heap.size := by simp [putRow, mapBlock, Sort.ahead]
  show ((putRow encP (Sort.ahead w m) blk off dk).heap ++ os)[k]? = _
  rw [Array.getElem?_append_left (by rw [hz]; exact hk)]
  unfold putRow mapBlock
  simp [Sort.ahead, Array.getElem?_modify, Ne.symm hne]
theorem size_sortP (w : World) (blk off m : Nat) (dk : Array (Elem W0)) (os : Array Obj) : (sortWorld encP w blk off m dk os).heap.size = w.heap.size + os.size := by
  show ((putRow encP (Sort.ahead w m) blk off dk).heap ++ os).size = _
  rw [Array.size_append]; simp [putRow, mapBlock, Sort.ahead]
end
theorem cmpLaysP [Forb] (w : World) (hT : TabAt w) (blk off size : Nat) [Inhabited (Elem (wipe w blk))] (hb : blk < w.heap.size) (hne : blk ≠ 0) : CmpLays1 Tryz.prog 101 #[] (encP (W0 := wipe w blk)) cfP blk off size w := by
  intro m os dk _ x y
  have hk := heap_sortP w blk off m dk os
  have hs := size_sortP w blk off m dk os
  have hT2 : TabAt (sortWorld encP w blk off m dk os) := fun j hj => by
    have hc := hT j hj
    rw [← hc]
    exact World.cell?_of_block (w := w) (hk _ (World.block_lt_of_cell? _ _ hc) (Ne.symm hne))
  have h1 := x.2.1.unwipe (w' := sortWorld encP w blk off m dk os) hb (by omega) hk
  have h2 := y.2.1.unwipe (w' := sortWorld encP w blk off m dk os) hb (by omega) hk
  exact (reCompare_any x.1.2 y.1.2 x.1.1 y.1.1 _ x.2.2 y.2.2 h1 h2 hT2).mono fun e w' h => ⟨h.1, grown_of_below h.2.below h.2.drawn⟩

theorem sortRe_any [Forb] (blk cap : Nat) (ps : List (Nat × RE)) (w : World) (hT : TabAt w) (hne : blk ≠ 0) (hl : ps.length < 4611686018427387904) (h0 : ps ≠ []) (hP : PtrsIn w blk ps) :
    Calls Tryz.prog 100 #[.slice (some ⟨blk, 0, none⟩) ps.length cap, .func (.func 101) #[] #[]] w fun e w' => e = .returned (.tuple #[]) ∧
      ∃ ps' : List (Nat × RE), ps'.Perm ps ∧ ps'.Pairwise (fun x y => lexN x.2.key y.2.key ≤ 0) ∧ PtrsIn w' blk ps' ∧ w'.os = w.os ∧ w'.tape = w.tape ∧ w'.output = w.output ∧ w.heap.size ≤ w'.heap.size ∧ ∀ k, k < w.heap.size → k ≠ blk → w'.heap[k]? = w.heap[k]? := by
  obtain ⟨p0, hp0⟩ := List.exists_mem_of_ne_nil ps h0
  letI : Inhabited (Elem (wipe w blk)) := ⟨⟨p0, hP.elem p0 hp0⟩⟩
  obtain ⟨d, hd⟩ : ∃ d : Array (Elem (wipe w blk)), d = (ps.attach.map fun p => (⟨p.1, hP.elem p.1 p.2⟩ : Elem (wipe w blk))).toArray := ⟨_, rfl⟩
  have hdm : d.toList.map (fun x => x.1) = ps := by
    subst hd
    show (ps.attach.map fun p => (⟨p.1, hP.elem p.1 p.2⟩ : Elem (wipe w blk))).map (fun x => x.1) = ps
    rw [List.map_map]
    exact List.attach_map_subtype_val ps
  have hsz : d.size = ps.length := by rw [← hdm, List.length_map]; simp
  have hget : ∀ (d : Array (Elem (wipe w blk))) j (hj : j < d.size), d[j]! = d[j] := fun d j hj => getElem!_pos d j hj
  have hH : Holds encP w blk 0 d := fun j hj => by
    rw [hget d j hj, Nat.zero_add]
    have := hP.cell j (d[j]).1 (by rw [← hdm]; simp [hj])
    exact this
  have hcon := Any.slices_SortFunc sortLaidRe (encP (W0 := wipe w blk)) (fun x => rfl) cfP swoP 101 #[] blk 0 cap d w (enters_of Tryz.func101 (by kernel_rfl) rfl) (cmpLaysP w hT blk 0 _ hP.lt hne) hH hP.lt (by omega)
  rw [hsz] at hcon
  refine Calls.mono hcon ?_
  rintro e w' ⟨rfl, d', n, os, ⟨hp1, -, hp3⟩, hs, rfl⟩
  have hk := heap_sortP w blk 0 n d' os
  have hz := size_sortP w blk 0 n d' os
  have hsz' : d'.size = ps.length := by omega
  refine ⟨rfl, d'.toList.map (fun x => x.1), ?_, ?_, ?_, rfl, rfl, rfl, by omega, hk⟩
  · rw [← hdm]
    refine List.Perm.map _ ?_
    have e1 : d'.extract 0 ps.length = d' := by rw [← hsz']; simp
    have e2 : d.extract 0 ps.length = d := by rw [← hsz]; simp
    rw [e1, e2] at hp3
    exact hp3
  · rw [List.pairwise_map, List.pairwise_iff_getElem]
    intro i j hi hj hij
    have h := hs i j (by omega) hij (by simp at hj; omega)
    simp only [Array.length_toList] at hi hj
    rw [hget d' i hi, hget d' j hj] at h
    unfold ltOf cfP at h
    simp at h
    have := lexN_swap (d'[i]).1.2.key (d'[j]).1.2.key
    simp only [Array.getElem_toList]
    omega
  · refine ⟨by have := hP.lt; omega, fun j p hp => ?_, fun p hp => ?_⟩
    · have h1 := holds_putRow encP (Sort.ahead w n) blk 0 d d' hH (by omega)
      have hj : j < d'.size := by have := (List.getElem?_eq_some_iff.1 hp).1; simpa using this
      have hlt : blk < (putRow encP (Sort.ahead w n) blk 0 d').heap.size := by simp [Sort.ahead]; exact hP.lt
      have h2 := h1 j hj
      rw [hget d' j hj, Nat.zero_add] at h2
      have hpe : p = (d'[j]).1 := by simpa [hj] using hp.symm
      refine ⟨?_, ?_⟩
      · rw [show sortWorld encP w blk 0 n d' os = grow (putRow encP (Sort.ahead w n) blk 0 d') os from rfl, cell?_grow _ _ _ hlt, h2.1, hpe]; rfl
      · rw [show sortWorld encP w blk 0 n d' os = grow (putRow encP (Sort.ahead w n) blk 0 d') os from rfl, frozen?_grow _ _ _ hlt]; exact h2.2
    · obtain ⟨x, -, rfl⟩ := List.mem_map.1 hp
      exact ⟨x.2.1.rewipe hP.lt (by omega) hk, x.2.2⟩
end Go.Proofs.YtjcfnmjjkadaeaaGreatDoor
/- slices.CompactFunc at expressions. -/
namespace Go.Proofs.YtjcfnmjjkadaeaaGreatDoor
set_option maxRecDepth 100000
set_option linter.unusedSimpArgs false
set_option linter.unusedVariables false
open Go.RowKit

def pD : Nat × RE := (0, rNothing)
/-- Is a place's expression another one than the one ahead of it? -/
def keepAt (ps : List (Nat × RE)) (k : Nat) : Bool := !(lexN (ps.getD k pD).2.key (ps.getD (k - 1) pD).2.key == 0)
/-- The first k, without those that come again. -/
def cpt (ps : List (Nat × RE)) : Nat → List (Nat × RE)
  | 0 => []
  | k + 1 => cpt ps k ++ (if k = 0 ∨ keepAt ps k = true then [ps.getD k pD] else [])
theorem cpt_len (ps : List (Nat × RE)) : ∀ k, (cpt ps k).length ≤ k
  | 0 => by simp [cpt]
  | k + 1 => by
    have := cpt_len ps k
    simp only [cpt, List.length_append]
    split <;> simp <;> omega
theorem cpt_mem (ps : List (Nat × RE)) : ∀ k, k ≤ ps.length → ∀ p ∈ cpt ps k, p ∈ ps
  | 0, _ => by simp [cpt]
  | k + 1, h => by
    intro p hp
    simp only [cpt, List.mem_append] at hp
    rcases hp with hp | hp
    · exact cpt_mem ps k (by omega) p hp
    · split at hp
      · simp at hp; subst hp
        simp [List.getD_eq_getElem?_getD, show k < ps.length by omega]
      · simp at hp
theorem x_callV2 (ρ : Operand → Value) (d : Option Tmp) (f : FuncId) (c x y : Operand) (t t1 t2 : TypeId) (pos : String) (af : Array Edge) (g : Option (Nat × Bool)) (u v : Value) (hc : ρ c = .func (.func f) #[] #[]) (hx : ρ x = u) (hy : ρ y = v) (hf : ∀ args w, (callFunc f args).run Tryz.prog w = .ok (.enter f args) w) (w : World) :
    (execOp ρ { dst := d, op := .call { callee := .value c, args := #[x, y], argTypes := #[t1, t2] }, type := t, pos := pos, after := af, guard := g }).run Tryz.prog w = .ok (.enter f #[u, v]) w := by
  simp [go_sem, hc, hx, hy, hf]
theorem x_idxP (ρ : Operand → Value) (d : Option Tmp) (x y : Operand) (t : TypeId) (pos : String) (af : Array Edge) (g : Option (Nat × Bool)) (b off len cap n : Nat) (hx : ρ x = .slice (some ⟨b, off, none⟩) len cap) (hy : ρ y = .int .i64 n) (h1 : n < len) (w : World) :
    (execOp ρ { dst := d, op := .indexAddr 59 x y, type := t, pos := pos, after := af, guard := g }).run Tryz.prog w = .ok (.value (.pointer (some ⟨b, off + n, none⟩))) w := by
  simp [go_sem, hx, hy, h1]
theorem x_loadP (ρ : Operand → Value) (d : Option Tmp) (x : Operand) (t : TypeId) (pos : String) (af : Array Edge) (g : Option (Nat × Bool)) (b n : Nat) (v : Value) (hx : ρ x = .pointer (some ⟨b, n, none⟩)) (w : World) (hc : w.cell? ⟨b, n, none⟩ = some v) :
    (execOp ρ { dst := d, op := .load 30 x, type := t, pos := pos, after := af, guard := g }).run Tryz.prog w = .ok (.value v) w := by
  simp [go_sem, hx, hc]
theorem x_sub1 (ρ : Operand → Value) (d : Option Tmp) (x : Operand) (t : TypeId) (pos : String) (af : Array Edge) (g : Option (Nat × Bool)) (n : Nat) (hx : ρ x = .int .i64 n) (hy : ρ (.const (.int .i64 1)) = .int .i64 1) (h0 : 0 < n) (h1 : n ≤ 9223372036854775807) (w : World) :
    (execOp ρ { dst := d, op := .binOp .sub 3 x (.const (.int .i64 1)) 3, type := t, pos := pos, after := af, guard := g }).run Tryz.prog w = .ok (.value (.int .i64 ((n - 1 : Nat) : Int))) w := by
  have e : IntKind.i64.wrap ((n : Int) - 1) = ((n - 1 : Nat) : Int) := by rw [IntKind.wrap_i64]; omega
  simp [go_sem, hx, hy, e]

/-- What CompactFunc keeps: the block's cells, as a function; all else as it was. -/
structure CpW (w : World) (blk n : Nat) (f : Nat → Value) (W : World) : Prop where
  os : W.os = w.os
  tape : W.tape = w.tape
  output : W.output = w.output
  size : w.heap.size ≤ W.heap.size
  other : ∀ k, k < w.heap.size → k ≠ blk → W.heap[k]? = w.heap[k]?
  cell : ∀ j, j < n → W.cell? ⟨blk, j, none⟩ = some (f j)
  frozen : ∀ j, j < n → W.frozen? ⟨blk, j, none⟩ = false
theorem CpW.more {w W W' : World} {blk n : Nat} {f : Nat → Value} (h : CpW w blk n f W) (hb : blk < w.heap.size) (hm : More W W') : CpW w blk n f W' := by
  have hs := h.size
  refine ⟨hm.below.os.trans h.os, hm.below.tape.trans h.tape, hm.below.output.trans h.output, Nat.le_trans h.size hm.below.size, fun k hk hne => (hm.below.block k (by omega)).trans (h.other k hk hne), fun j hj => ?_, fun j hj => ?_⟩
  · rw [← h.cell j hj]; exact World.cell?_of_block (w := W) (hm.below.block blk (by omega))
  · rw [← h.frozen j hj]
    have := hm.below.block blk (show blk < W.heap.size by omega)
    unfold World.frozen?
    simp only [this]
theorem CpW.drew {w W : World} {blk n : Nat} {f : Nat → Value} (h : CpW w blk n f W) : CpW w blk n f { W with drawn := W.drawn + 1 } := ⟨h.os, h.tape, h.output, h.size, h.other, h.cell, h.frozen⟩
theorem CpW.set {w W : World} {blk n : Nat} {f : Nat → Value} (h : CpW w blk n f W) (i : Nat) (hi : i < n) (v : Value) : CpW w blk n (fun j => if j = i then v else f j) (W.setCell ⟨blk, i, none⟩ v) := by
  refine ⟨h.os, h.tape, h.output, by simpa using h.size, fun k hk hne => (Below.heap_setCell _ _ _ _ hne).trans (h.other k hk hne), fun j hj => ?_, fun j hj => ?_⟩
  · by_cases e : j = i
    · subst e
      rw [if_pos rfl]
      exact World.cell?_setCell_same' _ _ _ (by rw [h.cell j hj]; rfl)
    · rw [if_neg e, ← h.cell j hj]
      exact World.cell?_setCell_other _ _ _ _ (by simp [e])
  · rw [← h.frozen j hj]; simp
theorem CpW.re [Forb] {w W : World} {blk n b : Nat} {f : Nat → Value} {r : RE} (h : CpW w blk n f W) (hb : blk < w.heap.size) (hr : ReAt (wipe w blk) b r) : ReAt W b r := hr.unwipe hb h.size h.other
theorem CpW.tab {w W : World} {blk n : Nat} {f : Nat → Value} (h : CpW w blk n f W) (hne : blk ≠ 0) (hT : TabAt w) : TabAt W := fun j hj => by
  have hc := hT j hj
  rw [← hc]
  exact World.cell?_of_block (w := w) (h.other _ (World.block_lt_of_cell? _ _ hc) (Ne.symm hne))

theorem CpW.clear {w W : World} {blk n : Nat} {f : Nat → Value} (h : CpW w blk n f W) (i : Nat) (hi : i ≤ n) (hb : blk < w.heap.size) (v : Value) : CpW w blk n (fun j => if i ≤ j then v else f j) (W.setCells blk i (List.replicate (n - i) v)) := by
  have hb2 : Below 0 W (W.setCells blk i (List.replicate (n - i) v)) := below_setCells blk (Nat.zero_le _) _ _ (Below.refl _ _)
  have hsz := size_setCells blk (List.replicate (n - i) v) i W
  refine ⟨hb2.os.trans h.os, hb2.tape.trans h.tape, hb2.output.trans h.output, by rw [hsz]; exact h.size, fun k hk hne => (heap_setCells blk k hne _ _ _).trans (h.other k hk hne), fun j hj => ?_, fun j hj => by rw [World.frozen?_setCells]; exact h.frozen j hj⟩
  by_cases e : i ≤ j
  · rw [if_pos e]
    have := World.cell?_setCells_in blk (List.replicate (n - i) v) i W (fun q hq => by rw [h.cell (i + q) (by simp at hq; omega)]; rfl) (j - i) (by simp; omega)
    rw [show i + (j - i) = j from by omega] at this
    rw [this]; simp
  · rw [if_neg e, ← h.cell j hj]
    exact World.cell?_setCells_out blk _ _ _ _ (fun _ _ => .inl (by simp; omega))
theorem zeroP (w : World) : (zeroValue 30).run Tryz.prog w = .ok (.pointer none) w := by
  have h : (Tryz.prog.info? 30).map (·.zero) = some (some (.pointer none)) := by kernel_rfl
  cases hi : Tryz.prog.info? 30 with
  | none => rw [hi] at h; cases h
  | some i => rw [hi] at h; simp at h; simp [zeroValue, typeInfo, hi, h]

set_option maxHeartbeats 2000000 in
theorem compact_any [Forb] (blk cap : Nat) (ps : List (Nat × RE)) (w : World) (hT : TabAt w) (hne : blk ≠ 0) (hl : ps.length ≤ 4611686018427387904) (h0 : ps ≠ []) (hcap : ps.length ≤ cap) (hP : PtrsIn w blk ps) :
    Calls Tryz.prog 102 #[.slice (some ⟨blk, 0, none⟩) ps.length cap, .func (.func 87) #[] #[]] w fun e w' =>
      e = .returned (.slice (some ⟨blk, 0, none⟩) (cpt ps ps.length).length cap) ∧ ∃ f, CpW w blk ps.length f w' ∧ ∀ j p, (cpt ps ps.length)[j]? = some p → f j = PT p.1 := by
  have ent := enters_of Tryz.func87 (by kernel_rfl) rfl
  have hn0 : 0 < ps.length := List.length_pos_iff.2 h0
  obtain ⟨f0, hf0⟩ : ∃ f0 : Nat → Value, f0 = fun j => PT (ps.getD j pD).1 := ⟨_, rfl⟩
  have hget : ∀ j, j < ps.length → ps[j]? = some (ps.getD j pD) := fun j hj => by simp [List.getD_eq_getElem?_getD, hj]
  have hW0 : CpW w blk ps.length f0 w := ⟨rfl, rfl, rfl, Nat.le_refl _, fun _ _ _ => rfl, fun j hj => by rw [hf0]; exact (hP.cell j _ (hget j hj)).1, fun j hj => (hP.cell j _ (hget j hj)).2⟩
  have hel : ∀ j, j < ps.length → ReAt (wipe w blk) (ps.getD j pD).1 (ps.getD j pD).2 ∧ WfK (ps.getD j pD).2 := fun j hj => hP.elem _ (List.mem_of_getElem? (hget j hj))
  have hlt := hP.lt
  -- what Same tells of two places, in whatever world of the walk
  have hsame : ∀ i j, i < ps.length → j < ps.length → ∀ f W, CpW w blk ps.length f W → Calls Tryz.prog 87 #[PT (ps.getD i pD).1, PT (ps.getD j pD).1] W fun e w' => e = .returned (.bool (lexN (ps.getD i pD).2.key (ps.getD j pD).2.key == 0)) ∧ CpW w blk ps.length f w' := fun i j hi hj f W hW =>
    (same_re _ _ _ _ W (hel i hi).2 (hel j hj).2 (hW.re hlt (hel i hi).1) (hW.re hlt (hel j hj).1) (hW.tab hne hT)).mono fun e w' h => ⟨h.1, hW.more hlt h.2⟩
  generalize hn : ps.length = n at *
  have HS := hide hsame
  clear hsame hP h0 hT
  go_enter Tryz.func102, Tryz.ntmps102
  by_cases h2 : n < 2
  · have hd : decide ((n : Int) < 2) = true := by simp; omega
    have hd' : decide (n < 2) = true := by simp [h2]
    obtain rfl : n = 1 := by omega
    go_wp2
    go_ret
    refine ⟨by simp [cpt], f0, hW0, fun j p hp => ?_⟩
    simp [cpt] at hp
    have hj : j = 0 := by have := (List.getElem?_eq_some_iff.1 hp).1; simp at this; omega
    subst hj
    simp at hp
    rw [hf0, ← hp]
    rfl
  · have hd : decide ((n : Int) < 2) = false := by simp; omega
    have hd' : decide (n < 2) = false := by simp; omega
    have hI0 : cpt ps 1 = ps.take 1 := by
      cases ps with
      | nil => simp at hn; omega
      | cons x r => simp [cpt]
    go_wp2
    go_loopw [5] (fun k wr => ∃ kk : Nat, 1 ≤ kk ∧ kk ≤ n ∧ k = .int .i64 kk ∧ Hid (cpt ps kk = ps.take kk) ∧ Hid (CpW w blk n f0 wr)) (fun k _ => n - (intOf k).toNat)
    case atStart => exact ⟨1, by omega, by omega, rfl, hI0, hW0⟩
    case round =>
      clear hI0 hW0
      obtain ⟨k, hk1, hk2, rfl, HI, HW⟩ := hrel
      by_cases hlt2 : k < n
      · have hkd : decide (k < n) = true := by simp [hlt2]
        go_wp2
        refine w_lit (C := CpW w blk n f0) (by kernel_rfl) (by kernel_rfl) HW.out.drew ?_
        refine w_value (.func (.func 87) #[] #[]) (by kernel_rfl) (fun w hw => x_move _ _ _ _ _ _ _ _ rfl w) ?_
        simp only [Act.put, List.setIfInBounds_toArray, List.set_cons_succ, List.set_cons_zero]
        refine w_value (.slice (some ⟨blk, 0, none⟩) n cap) (by kernel_rfl) (fun w hw => x_move _ _ _ _ _ _ _ _ rfl w) ?_
        simp only [Act.put, List.setIfInBounds_toArray, List.set_cons_succ, List.set_cons_zero]
        refine w_value (.int .i64 k) (by kernel_rfl) (fun w hw => x_move _ _ _ _ _ _ _ _ rfl w) ?_
        simp only [Act.put, List.setIfInBounds_toArray, List.set_cons_succ, List.set_cons_zero]
        refine w_value (.pointer (some ⟨blk, 0 + k, none⟩)) (by kernel_rfl) (fun w hw => x_idxP _ _ _ _ _ _ _ _ blk 0 n cap k rfl rfl hlt2 w) ?_
        simp only [Act.put, List.setIfInBounds_toArray, List.set_cons_succ, List.set_cons_zero]
        refine w_value (PT (ps.getD k pD).1) (by kernel_rfl) (fun w hw => x_loadP _ _ _ _ _ _ _ _ _ _ rfl w (by rw [Nat.zero_add, hw.cell k hlt2, hf0])) ?_
        simp only [Act.put, List.setIfInBounds_toArray, List.set_cons_succ, List.set_cons_zero]
        refine w_value (.slice (some ⟨blk, 0, none⟩) n cap) (by kernel_rfl) (fun w hw => x_move _ _ _ _ _ _ _ _ rfl w) ?_
        simp only [Act.put, List.setIfInBounds_toArray, List.set_cons_succ, List.set_cons_zero]
        refine w_value (.int .i64 k) (by kernel_rfl) (fun w hw => x_move _ _ _ _ _ _ _ _ rfl w) ?_
        simp only [Act.put, List.setIfInBounds_toArray, List.set_cons_succ, List.set_cons_zero]
        refine w_value (.int .i64 ((k - 1 : Nat) : Int)) (by kernel_rfl) (fun w hw => x_sub1 _ _ _ _ _ _ _ k rfl rfl (by omega) (by omega) w) ?_
        simp only [Act.put, List.setIfInBounds_toArray, List.set_cons_succ, List.set_cons_zero]
        refine w_value (.pointer (some ⟨blk, 0 + (k - 1), none⟩)) (by kernel_rfl) (fun w hw => x_idxP _ _ _ _ _ _ _ _ blk 0 n cap (k - 1) rfl rfl (by omega) w) ?_
        simp only [Act.put, List.setIfInBounds_toArray, List.set_cons_succ, List.set_cons_zero]
        refine w_value (PT (ps.getD (k - 1) pD).1) (by kernel_rfl) (fun w hw => x_loadP _ _ _ _ _ _ _ _ _ _ rfl w (by rw [Nat.zero_add, hw.cell (k - 1) (by omega), hf0])) ?_
        simp only [Act.put, List.setIfInBounds_toArray, List.set_cons_succ, List.set_cons_zero]
        refine w_callC 87 #[PT (ps.getD k pD).1, PT (ps.getD (k - 1) pD).1] (.bool (lexN (ps.getD k pD).2.key (ps.getD (k - 1) pD).2.key == 0)) (by kernel_rfl) (x_callV2 _ _ _ _ _ _ _ _ _ _ _ _ _ _ rfl rfl rfl ent) (fun W hW => HS.out k (k - 1) hlt2 (by omega) f0 W hW) ?_
        simp only [Act.put, List.setIfInBounds_toArray, List.set_cons_succ, List.set_cons_zero]
        refine w_nil ?_
        intro w1 hW1
        have HW1 := hide hW1
        clear hW1 HW
        cases hsm : (lexN (ps.getD k pD).2.key (ps.getD (k - 1) pD).2.key == 0) with
        | false =>
          have HI2 : Hid (cpt ps (k + 1) = ps.take (k + 1)) := by
            show cpt ps (k + 1) = ps.take (k + 1)
            rw [List.take_add_one, hget k hlt2]
            simp only [cpt, keepAt, hsm, HI.out]
            simp
          go_wp2
          exact ⟨⟨k + 1, by omega, by omega, by go_num, HI2, HW1⟩, by simp [intOf]; omega⟩
        | true =>
          have HC1 : Hid (cpt ps (k + 1) = ps.take k) := by
            show cpt ps (k + 1) = ps.take k
            simp only [cpt, keepAt, hsm, HI.out]
            simp; omega
          have hck : ¬ cap = k := by omega
          have hlk : (cpt ps (k + 1)).length = k := by rw [HC1.out, List.length_take]; omega
          have hst : ∀ j p, (cpt ps (k + 1))[j]? = some p → f0 j = PT p.1 := fun j p hp => by
            rw [HC1.out, List.getElem?_take] at hp
            split at hp
            · rw [hf0]; simp [List.getD_eq_getElem?_getD, hp]
            · cases hp
          have HLK := hide hlk
          have HST := hide hst
          clear hlk hst
          go_wp2
          go_loopw [5, 7] (fun q c wr => ∃ (kk k2 : Nat) (f : Nat → Value), 1 ≤ k2 ∧ k2 ≤ n - k ∧ kk ≤ k + k2 - 1 ∧ q = .int .i64 kk ∧ c = .int .i64 k2 ∧ Hid (kk = (cpt ps (k + k2)).length) ∧ Hid (CpW w blk n f wr) ∧ Hid (∀ j p, (cpt ps (k + k2))[j]? = some p → f j = PT p.1) ∧ Hid (∀ j, k + k2 - 1 ≤ j → j < n → f j = PT (ps.getD j pD).1)) (fun _ c _ => n - (intOf c).toNat)
          case atStart => exact ⟨k, 1, f0, by omega, by omega, by omega, rfl, rfl, HLK.out.symm, HW1, HST, fun j _ _ => by rw [hf0]⟩
          case round =>
            clear HW1 HLK HST
            obtain ⟨kk, k2, f, hk2a, hk2b, hkk, rfl, rfl, HL, HWf, HF1, HF2⟩ := hrel
            by_cases hin : k2 < n - k
            · have hind : decide (k2 < n - k) = true := by simp [hin]
              have hi : k + k2 < n := by omega
              go_wp2
              refine w_lit (C := CpW w blk n f) (by kernel_rfl) (by kernel_rfl) HWf.out.drew ?_
              refine w_value (.func (.func 87) #[] #[]) (by kernel_rfl) (fun w hw => x_move _ _ _ _ _ _ _ _ rfl w) ?_
              simp only [Act.put, List.setIfInBounds_toArray, List.set_cons_succ, List.set_cons_zero]
              refine w_value (.slice (some ⟨blk, k, none⟩) (n - k) (cap - k)) (by kernel_rfl) (fun w hw => x_move _ _ _ _ _ _ _ _ rfl w) ?_
              simp only [Act.put, List.setIfInBounds_toArray, List.set_cons_succ, List.set_cons_zero]
              refine w_value (.int .i64 k2) (by kernel_rfl) (fun w hw => x_move _ _ _ _ _ _ _ _ rfl w) ?_
              simp only [Act.put, List.setIfInBounds_toArray, List.set_cons_succ, List.set_cons_zero]
              refine w_value (.pointer (some ⟨blk, k + k2, none⟩)) (by kernel_rfl) (fun w hw => x_idxP _ _ _ _ _ _ _ _ blk k (n - k) (cap - k) k2 rfl rfl hin w) ?_
              simp only [Act.put, List.setIfInBounds_toArray, List.set_cons_succ, List.set_cons_zero]
              refine w_value (PT (ps.getD (k + k2) pD).1) (by kernel_rfl) (fun w hw => x_loadP _ _ _ _ _ _ _ _ _ _ rfl w (by rw [hw.cell (k + k2) hi, HF2.out (k + k2) (by omega) hi])) ?_
              simp only [Act.put, List.setIfInBounds_toArray, List.set_cons_succ, List.set_cons_zero]
              refine w_value (.slice (some ⟨blk, k, none⟩) (n - k) (cap - k)) (by kernel_rfl) (fun w hw => x_move _ _ _ _ _ _ _ _ rfl w) ?_
              simp only [Act.put, List.setIfInBounds_toArray, List.set_cons_succ, List.set_cons_zero]
              refine w_value (.int .i64 k2) (by kernel_rfl) (fun w hw => x_move _ _ _ _ _ _ _ _ rfl w) ?_
              simp only [Act.put, List.setIfInBounds_toArray, List.set_cons_succ, List.set_cons_zero]
              refine w_value (.int .i64 ((k2 - 1 : Nat) : Int)) (by kernel_rfl) (fun w hw => x_sub1 _ _ _ _ _ _ _ k2 rfl rfl (by omega) (by omega) w) ?_
              simp only [Act.put, List.setIfInBounds_toArray, List.set_cons_succ, List.set_cons_zero]
              refine w_value (.pointer (some ⟨blk, k + (k2 - 1), none⟩)) (by kernel_rfl) (fun w hw => x_idxP _ _ _ _ _ _ _ _ blk k (n - k) (cap - k) (k2 - 1) rfl rfl (by omega) w) ?_
              simp only [Act.put, List.setIfInBounds_toArray, List.set_cons_succ, List.set_cons_zero]
              refine w_value (PT (ps.getD (k + k2 - 1) pD).1) (by kernel_rfl) (fun w hw => x_loadP _ _ _ _ _ _ _ _ _ _ rfl w (by rw [show k + (k2 - 1) = k + k2 - 1 from by omega, hw.cell (k + k2 - 1) (by omega), HF2.out (k + k2 - 1) (by omega) (by omega)])) ?_
              simp only [Act.put, List.setIfInBounds_toArray, List.set_cons_succ, List.set_cons_zero]
              refine w_callC 87 #[PT (ps.getD (k + k2) pD).1, PT (ps.getD (k + k2 - 1) pD).1] (.bool (lexN (ps.getD (k + k2) pD).2.key (ps.getD (k + k2 - 1) pD).2.key == 0)) (by kernel_rfl) (x_callV2 _ _ _ _ _ _ _ _ _ _ _ _ _ _ rfl rfl rfl ent) (fun W hW => HS.out (k + k2) (k + k2 - 1) hi (by omega) f W hW) ?_
              simp only [Act.put, List.setIfInBounds_toArray, List.set_cons_succ, List.set_cons_zero]
              refine w_value (.bool (!(lexN (ps.getD (k + k2) pD).2.key (ps.getD (k + k2 - 1) pD).2.key == 0))) (by kernel_rfl) (fun w hw => x_notBool _ _ _ _ _ _ _ _ rfl w) ?_
              simp only [Act.put, List.setIfInBounds_toArray, List.set_cons_succ, List.set_cons_zero]
              refine w_nil ?_
              clear HWf
              intro w2 hW2
              have HW2 := hide hW2
              have HKA : Hid (keepAt ps (k + k2) = !(lexN (ps.getD (k + k2) pD).2.key (ps.getD (k + k2 - 1) pD).2.key == 0)) := (rfl : keepAt ps (k + k2) = _)
              clear hW2
              cases hsm2 : (!(lexN (ps.getD (k + k2) pD).2.key (ps.getD (k + k2 - 1) pD).2.key == 0)) with
              | false =>
                have HC2 : Hid (cpt ps (k + (k2 + 1)) = cpt ps (k + k2)) := by
                  show cpt ps (k + k2 + 1) = cpt ps (k + k2)
                  have := HKA.out.trans hsm2
                  simp only [cpt, this]
                  simp; omega
                go_wp2
                exact ⟨⟨kk, k2 + 1, f, by omega, by omega, by omega, rfl, by go_num, (show kk = _ from by rw [HC2.out]; exact HL.out), HW2, (show ∀ j p, _ from by rw [HC2.out]; exact HF1.out), fun j hj hjn => HF2.out j (by omega) hjn⟩, by simp [intOf]; omega⟩
              | true =>
                have HC2 : Hid (cpt ps (k + (k2 + 1)) = cpt ps (k + k2) ++ [ps.getD (k + k2) pD]) := by
                  show cpt ps (k + k2 + 1) = _
                  have := HKA.out.trans hsm2
                  simp only [cpt, this]
                  simp
                have cA := HW2.out.cell (k + k2) hi
                rw [HF2.out (k + k2) (by omega) hi] at cA
                have fK := HW2.out.frozen kk (by omega)
                have cK := HW2.out.cell kk (by omega)
                have hkn : kk < n := by omega
                have hkn2 : decide (kk < n) = true := by simp [hkn]
                obtain ⟨pb, hpb⟩ : ∃ pb, pb = (ps.getD (k + k2) pD).1 := ⟨_, rfl⟩
                rw [← hpb] at cA
                have HPB := hide hpb
                unfold PT at cA
                generalize hfk : f kk = fkk at cK
                clear hpb
                go_wp2
                refine ⟨⟨kk + 1, k2 + 1, fun j => if j = kk then PT pb else f j, by omega, by omega, by omega, by go_num, by go_num, ?_, HW2.out.set kk hkn _, ?_, ?_⟩, by simp [intOf]; omega⟩
                · show kk + 1 = _
                  rw [HC2.out, List.length_append, ← HL.out]; rfl
                · intro j p hp
                  rw [HC2.out] at hp
                  by_cases e : j = kk
                  · subst e
                    rw [List.getElem?_append_right (by have := HL.out; omega), ← HL.out] at hp
                    simp at hp
                    show (if j = j then PT pb else f j) = _
                    rw [if_pos rfl, HPB.out, ← hp]
                    simp [List.getD_eq_getElem?_getD]
                  · show (if j = kk then PT pb else f j) = _
                    rw [if_neg e]
                    refine HF1.out j p ?_
                    have hj : j < kk := by
                      have := (List.getElem?_eq_some_iff.1 hp).1
                      rw [List.length_append, ← HL.out] at this
                      simp at this; omega
                    rwa [List.getElem?_append_left (by rw [← HL.out]; exact hj)] at hp
                · intro j hj hjn
                  show (if j = kk then PT pb else f j) = _
                  rw [if_neg (by omega)]
                  exact HF2.out j (by omega) hjn
            · obtain rfl : k2 = n - k := by omega
              have hck2 : ¬ cap = kk := by omega
              have hkn : kk ≤ n := by omega
              have hkc : ¬ cap < kk := by omega
              have hclr := fun ty => Lib.run_clear_slice (P := Tryz.prog) wr 59 30 ty (.pointer none) Tryz.underlying59 zeroP rfl rfl blk kk (n - kk) (cap - kk) (by omega) (fun j hj => by rw [HWf.out.cell (kk + j) (by omega)]; rfl) (fun j hj => HWf.out.frozen (kk + j) (by omega))
              have HCL := hide (HWf.out.clear kk hkn hlt (.pointer none))
              have HLE := hide hkk
              clear HWf
              go_wp2
              go_ret
              have hnk : k + (n - k) = n := by omega
              have hl1 := HL.out
              have hf1 := HF1.out
              rw [hnk] at hl1 hf1
              refine ⟨by rw [← hl1]; rfl, _, HCL.out, fun j p hp => ?_⟩
              have hj : j < kk := by rw [hl1]; exact (List.getElem?_eq_some_iff.1 hp).1
              show (if kk ≤ j then _ else f j) = _
              rw [if_neg (by omega)]
              exact hf1 j p hp
      · obtain rfl : k = n := by omega
        go_wp2
        go_ret
        have hI := HI.out
        rw [← hn, List.take_length] at hI
        refine ⟨?_, f0, HW.out, fun j p hp => ?_⟩
        · rw [← hn, hI, hn]; rfl
        · rw [← hn, hI] at hp
          rw [hf0]
          simp [List.getD_eq_getElem?_getD, hp]
end Go.Proofs.YtjcfnmjjkadaeaaGreatDoor
/- Lists of expressions in the order of their keys, each once. -/
namespace Go.Proofs.YtjcfnmjjkadaeaaGreatDoor
set_option maxRecDepth 100000
set_option linter.unusedSimpArgs false
set_option linter.unusedVariables false
open Go.RowKit

def ltK (a b : RE) : Prop := lexN a.key b.key < 0
theorem ltK_trans {a b c : RE} (h1 : ltK a b) (h2 : ltK b c) : ltK a c := by
  unfold ltK at *
  have h := lexN_trans a.key b.key c.key (by omega) (by omega)
  rcases Int.lt_or_eq_of_le h.1 with h3 | h3
  · exact h3
  · have := (h.2 h3).1; omega
theorem ltK_irrefl {a : RE} (h : ltK a a) : False := by unfold ltK at h; rw [lexN_self] at h; omega
theorem ltK_asymm {a b : RE} (h1 : ltK a b) (h2 : ltK b a) : False := ltK_irrefl (ltK_trans h1 h2)
/-- Two lists that go up and have the same members are one. -/
theorem up_unique : ∀ (a b : List RE), a.Pairwise ltK → b.Pairwise ltK → (∀ r, r ∈ a ↔ r ∈ b) → a = b
  | [], [], _, _, _ => rfl
  | [], y :: b, _, _, h => by have := (h y).2 (by simp); simp at this
  | x :: a, [], _, _, h => by have := (h x).1 (by simp); simp at this
  | x :: a, y :: b, ha, hb, h => by
    have ha' := List.pairwise_cons.1 ha
    have hb' := List.pairwise_cons.1 hb
    have e : x = y := by
      rcases List.mem_cons.1 ((h x).1 (by simp)) with e | hx
      · exact e
      · rcases List.mem_cons.1 ((h y).2 (by simp)) with e | hy
        · exact e.symm
        · exact (ltK_asymm (hb'.1 x hx) (ha'.1 y hy)).elim
    subst e
    have := up_unique a b ha'.2 hb'.2 fun r => by
      constructor
      · intro hr
        rcases List.mem_cons.1 ((h r).1 (by simp [hr])) with e | hx
        · subst e; exact (ltK_irrefl (ha'.1 r hr)).elim
        · exact hx
      · intro hr
        rcases List.mem_cons.1 ((h r).2 (by simp [hr])) with e | hx
        · subst e; exact (ltK_irrefl (hb'.1 r hr)).elim
        · exact hx
    rw [this]
/-- One more, in its place. -/
def insK (x : RE) : List RE → List RE
  | [] => [x]
  | y :: r => if lexN x.key y.key < 0 then x :: y :: r else if lexN x.key y.key = 0 then y :: r else y :: insK x r
def ordL (l : List RE) : List RE := l.foldr insK []
theorem mem_insK {x : RE} (hx : WfK x) : ∀ (l : List RE), (∀ y ∈ l, WfK y) → ∀ r, r ∈ insK x l ↔ r = x ∨ r ∈ l
  | [], _, r => by simp [insK]
  | y :: l, hl, r => by
    have ih := mem_insK hx l (fun y hy => hl y (by simp [hy])) r
    simp only [insK]
    split
    · simp
    · split
      · rename_i h1 h2
        have e := key_inj hx (hl y (by simp)) (lexN_zero _ _ h2)
        subst e
        simp
      · simp only [List.mem_cons, ih]
        constructor
        · rintro (h | h | h) <;> simp [h]
        · rintro (h | h | h) <;> simp [h]
theorem up_insK {x : RE} (hx : WfK x) : ∀ (l : List RE), (∀ y ∈ l, WfK y) → l.Pairwise ltK → (insK x l).Pairwise ltK
  | [], _, _ => by simp [insK]
  | y :: l, hl, h => by
    have h' := List.pairwise_cons.1 h
    simp only [insK]
    split
    · rename_i h1
      refine List.pairwise_cons.2 ⟨fun z hz => ?_, h⟩
      rcases List.mem_cons.1 hz with rfl | hz
      · exact h1
      · exact ltK_trans h1 (h'.1 z hz)
    · split
      · exact h
      · rename_i h1 h2
        refine List.pairwise_cons.2 ⟨fun z hz => ?_, up_insK hx l (fun y hy => hl y (by simp [hy])) h'.2⟩
        rcases (mem_insK hx l (fun y hy => hl y (by simp [hy])) z).1 hz with rfl | hz
        · have := lexN_swap z.key y.key
          unfold ltK; omega
        · exact h'.1 z hz
theorem ordL_spec : ∀ (l : List RE), (∀ y ∈ l, WfK y) → (ordL l).Pairwise ltK ∧ ∀ r, r ∈ ordL l ↔ r ∈ l
  | [], _ => by simp [ordL]
  | x :: l, hl => by
    have ih := ordL_spec l (fun y hy => hl y (by simp [hy]))
    have hx := hl x (by simp)
    have hw : ∀ y ∈ ordL l, WfK y := fun y hy => hl y (by simp [(ih.2 y).1 hy])
    refine ⟨up_insK hx _ hw ih.1, fun r => ?_⟩
    rw [show ordL (x :: l) = insK x (ordL l) from rfl, mem_insK hx _ hw r, ih.2 r]
    simp
theorem ordL_eq {a l : List RE} (hl : ∀ y ∈ l, WfK y) (ha : a.Pairwise ltK) (h : ∀ r, r ∈ a ↔ r ∈ l) : a = ordL l :=
  up_unique _ _ ha (ordL_spec l hl).1 fun r => (h r).trans ((ordL_spec l hl).2 r).symm

/-- What SortFunc and CompactFunc leave. -/
theorem cpt_up (ps : List (Nat × RE)) (hs : ps.Pairwise fun x y => lexN x.2.key y.2.key ≤ 0) : ∀ k, 0 < k → k ≤ ps.length →
    ((cpt ps k).Pairwise fun x y => lexN x.2.key y.2.key < 0) ∧ (∀ p ∈ cpt ps k, lexN p.2.key (ps.getD (k - 1) pD).2.key ≤ 0) ∧ (∀ j, j < k → ∃ p ∈ cpt ps k, lexN p.2.key (ps.getD j pD).2.key = 0)
  | 0, h, _ => by omega
  | k + 1, _, hk => by
    by_cases h0 : k = 0
    · subst h0
      simp only [cpt, List.nil_append, true_or, if_true]
      refine ⟨by simp, fun p hp => ?_, fun j hj => ⟨ps.getD 0 pD, by simp, ?_⟩⟩
      · simp at hp; subst hp; simp [List.getD_eq_getElem?_getD]; rw [lexN_self]; omega
      · obtain rfl : j = 0 := by omega
        exact lexN_self _
    · obtain ⟨i1, i2, i3⟩ := cpt_up ps hs k (by omega) (by omega)
      have hstep : lexN (ps.getD (k - 1) pD).2.key (ps.getD k pD).2.key ≤ 0 := by
        have := List.pairwise_iff_getElem.1 hs (k - 1) k (by omega) (by omega) (by omega)
        simpa [List.getD_eq_getElem?_getD, show k - 1 < ps.length by omega, show k < ps.length by omega] using this
      simp only [Nat.add_sub_cancel]
      cases hkeep : keepAt ps k with
      | false =>
        have hz : lexN (ps.getD k pD).2.key (ps.getD (k - 1) pD).2.key = 0 := by simpa [keepAt] using hkeep
        have hkeq := lexN_zero _ _ hz
        simp only [cpt, hkeep, h0]
        simp only [Bool.false_eq_true, or_self, if_false, List.append_nil]
        refine ⟨i1, fun p hp => by rw [hkeq]; exact i2 p hp, fun j hj => ?_⟩
        by_cases e : j = k
        · subst e
          obtain ⟨p, hp, h⟩ := i3 (j - 1) (by omega)
          exact ⟨p, hp, by rw [hkeq]; exact h⟩
        · exact i3 j (by omega)
      | true =>
        have hz : lexN (ps.getD k pD).2.key (ps.getD (k - 1) pD).2.key ≠ 0 := by simpa [keepAt] using hkeep
        simp only [cpt, hkeep, or_true, if_true]
        refine ⟨List.pairwise_append.2 ⟨i1, by simp, fun p hp q hq => ?_⟩, fun p hp => ?_, fun j hj => ?_⟩
        · simp at hq; subst hq
          have h := lexN_trans _ _ _ (i2 p hp) hstep
          have hsw := lexN_swap (ps.getD k pD).2.key (ps.getD (k - 1) pD).2.key
          rcases Int.lt_or_eq_of_le h.1 with h3 | h3
          · exact h3
          · have := (h.2 h3).2; omega
        · rcases List.mem_append.1 hp with hp | hp
          · exact (lexN_trans _ _ _ (i2 p hp) hstep).1
          · simp at hp; subst hp
            simp only [List.getD_eq_getElem?_getD]; rw [lexN_self]; omega
        · by_cases e : j = k
          · subst e
            exact ⟨ps.getD j pD, by simp, lexN_self _⟩
          · obtain ⟨p, hp, h⟩ := i3 j (by omega)
            exact ⟨p, by simp [hp], h⟩
theorem cpt_ord {ps qs : List (Nat × RE)} (hp : ps.Perm qs) (hs : ps.Pairwise fun x y => lexN x.2.key y.2.key ≤ 0) (hw : ∀ p ∈ qs, WfK p.2) (h0 : ps ≠ []) : (cpt ps ps.length).map Prod.snd = ordL (qs.map Prod.snd) := by
  have hl := List.length_pos_iff.2 h0
  obtain ⟨i1, -, i3⟩ := cpt_up ps hs ps.length hl (Nat.le_refl _)
  refine ordL_eq (fun y hy => ?_) ?_ fun r => ?_
  · obtain ⟨p, hp', rfl⟩ := List.mem_map.1 hy
    exact hw p hp'
  · rw [List.pairwise_map]; exact i1
  · simp only [List.mem_map]
    constructor
    · rintro ⟨p, hp', rfl⟩
      exact ⟨p, hp.subset (cpt_mem ps ps.length (Nat.le_refl _) p hp'), rfl⟩
    · rintro ⟨p, hp', rfl⟩
      have hpp := hp.symm.subset hp'
      obtain ⟨j, hj, hj2⟩ := List.getElem_of_mem hpp
      obtain ⟨q, hq, hq2⟩ := i3 j hj
      have e : ps.getD j pD = p := by simp [List.getD_eq_getElem?_getD, hj, hj2]
      rw [e] at hq2
      exact ⟨q, hq, key_inj (hw q (hp.subset (cpt_mem ps ps.length (Nat.le_refl _) q hq))) (hw p hp') (lexN_zero _ _ hq2)⟩
end Go.Proofs.YtjcfnmjjkadaeaaGreatDoor
