/- slices.SortFunc at sets, by the shelf. -/
import Derived.Test.YtfoamihjmmgnlaaDoorSortA
import Derived.Test.YtfoamihjmmgnlaaDoorRow
import Derived.Shelf.SlSortCmp.WholeK
import Derived.Shelf.SlGeneric
namespace Go.Proofs.YtfoamihjmmgnlaaDoor
set_option maxRecDepth 100000
open Go.Shelf Go.RowKit Go.Lib Go.Sort
shelf_lay_g SlLaysF0.n6 Slsf 6 at Tryd 58 as sortLaid

def encS (s : BitVec 256) : List Value := [.int .u64 (wd s 0), .int .u64 (wd s 1), .int .u64 (wd s 2), .int .u64 (wd s 3)]
def cfS (x y : BitVec 256) : Int := cmpB (least x) (least y)
theorem ltS (x y : BitVec 256) : ltOf cfS x y = decide (least x < least y) := by
  unfold ltOf cfS cmpB
  by_cases h1 : least x < least y
  · simp [h1]
  · by_cases h2 : least y < least x <;> simp [h1, h2]
theorem swoS : SWO (ltOf cfS) where
  irrefl x := by rw [ltS]; simp
  trans x y z h1 h2 := by rw [ltS] at *; simp at *; omega
  ntrans x y z h1 h2 := by rw [ltS] at *; simp at *; omega

theorem heap_sortWorld (w : World) (blk off m : Nat) (dk : Array (BitVec 256)) (os : Array Obj) (k : Nat) (hk : k < w.heap.size) (hne : k ≠ blk) : (sortWorldK encS 4 w blk off m dk os).heap[k]? = w.heap[k]? := by
  unfold sortWorldK
  have hz : (putRowK encS 4 (Sort.ahead w m) blk off dk).heap.size = w.heap.size := by rw [size_putRowK]; rfl
  show ((putRowK encS 4 (Sort.ahead w m) blk off dk).heap ++ os)[k]? = _
  rw [Array.getElem?_append_left (by rw [hz]; exact hk)]
  unfold putRowK putRow mapBlock
  simp [Sort.ahead, Array.getElem?_modify, Ne.symm hne]
theorem tab_sort {w : World} (hT : TabAt w) (blk off m : Nat) (hne : blk ≠ 0) (dk : Array (BitVec 256)) (os : Array Obj) : TabAt (sortWorldK encS 4 w blk off m dk os) := fun j hj => by
  have hc := hT j hj
  rw [← hc]
  exact World.cell?_of_block (w := w) (heap_sortWorld w blk off m dk os _ (World.block_lt_of_cell? _ _ hc) (Ne.symm hne))
theorem cmpLaysS (w : World) (hT : TabAt w) (blk off size : Nat) (hne : blk ≠ 0) : CmpLays Tryd.prog 59 #[] encS 4 cfS blk off size w :=
  fun m os dk _ x y => byLeast_any x y _ (tab_sort hT blk off m hne dk os)
theorem isAggS (w : World) : (isAgg 24).run Tryd.prog w = .ok true w := by
  simp [isAgg, run_underlying Tryd.underlying24]
theorem sizeS (w : World) : (sizeOf 24).run Tryd.prog w = .ok 4 w := by
  have h : (Tryd.prog.info? 24).map (·.size) = some 4 := by kernel_rfl
  cases hi : Tryd.prog.info? 24 with
  | none => rw [hi] at h; cases h
  | some i => rw [hi] at h; simp at h; simp [sizeOf, typeInfo, hi, h]

/-- A row of sets in a block of its own. -/
def SetsIn (w : World) (blk : Nat) (l : List (BitVec 256)) : Prop :=
  blk < w.heap.size ∧ ∀ k, k < l.length → ∀ j, j < 4 → w.cell? ⟨blk, k * 4 + j, none⟩ = some (.int .u64 (wd (l.getD k 0) j)) ∧ w.frozen? ⟨blk, k * 4 + j, none⟩ = false
theorem encS_get (s : BitVec 256) (j : Nat) (h : j < 4) : (encS s)[j]! = .int .u64 (wd s j) := by
  match j, h with
  | 0, _ => rfl
  | 1, _ => rfl
  | 2, _ => rfl
  | 3, _ => rfl
theorem holds_iff (w : World) (blk : Nat) (l : List (BitVec 256)) (hb : blk < w.heap.size) : HoldsK encS 4 w blk 0 l.toArray ↔ SetsIn w blk l := by
  unfold HoldsK Holds SetsIn
  have key : ∀ t, t < l.length * 4 → (flatK encS 4 l.toArray)[t]! = .int .u64 (wd (l.getD (t / 4) 0) (t % 4)) := fun t ht => by
    rw [get_flatK _ _ _ _ (by simpa using ht), encS_get _ _ (by omega)]
    have : t / 4 < l.length := by omega
    simp [this]
  simp only [size_flatK, List.size_toArray, id]
  constructor
  · intro h
    refine ⟨hb, fun k hk j hj => ?_⟩
    have h1 := h (k * 4 + j) (by omega)
    rw [key _ (by omega), show (k * 4 + j) / 4 = k from by omega, show (k * 4 + j) % 4 = j from by omega, Nat.zero_add] at h1
    exact h1
  · rintro ⟨-, h⟩ t ht
    rw [key t ht, Nat.zero_add]
    have h1 := h (t / 4) (by omega) (t % 4) (by omega)
    rwa [show t / 4 * 4 + t % 4 = t from by omega] at h1

theorem sort_any (blk cap : Nat) (l : List (BitVec 256)) (w : World) (hT : TabAt w) (hne : blk ≠ 0) (hl : l.length < 4611686018427387904) (hS : SetsIn w blk l) :
    Calls Tryd.prog 58 #[.slice (some ⟨blk, 0, none⟩) l.length cap, .func (.func 59) #[] #[]] w fun e w' => e = .returned (.tuple #[]) ∧
      ∃ l' : List (BitVec 256), l'.Perm l ∧ l'.Pairwise (fun x y => least x ≤ least y) ∧ SetsIn w' blk l' ∧ w'.os = w.os ∧ w'.tape = w.tape ∧ w'.output = w.output ∧ w.heap.size ≤ w'.heap.size ∧ ∀ k, k < w.heap.size → k ≠ blk → w'.heap[k]? = w.heap[k]? := by
  have hcon := AnyQ.slices_SortFunc sortLaid 4 isAggS sizeS encS (fun _ => rfl) (fun x v hv => by simp [encS] at hv; rcases hv with rfl | rfl | rfl | rfl <;> rfl) cfS swoS 59 #[] blk 0 cap l.toArray w
    (enters_of Tryd.func59 (by kernel_rfl) rfl) (cmpLaysS w hT blk 0 _ hne) ((holds_iff w blk l hS.1).2 hS) hS.1 (by simpa using hl)
  refine Calls.mono hcon ?_
  rintro e w' ⟨rfl, d', n, os, ⟨hp1, -, hp3⟩, hs, rfl⟩
  have hz : (putRowK encS 4 (Sort.ahead w n) blk 0 d').heap.size = w.heap.size := by rw [size_putRowK]; rfl
  have hsz : (sortWorldK encS 4 w blk 0 n d' os).heap.size = w.heap.size + os.size := by
    show ((putRowK encS 4 (Sort.ahead w n) blk 0 d').heap ++ os).size = _
    rw [Array.size_append, hz]
  have hpl : d'.toList.length = l.length := by simpa using hp1
  refine ⟨rfl, d'.toList, ?_, ?_, ?_, rfl, rfl, rfl, by omega, fun k hk hn => heap_sortWorld w blk 0 n d' os k hk hn⟩
  · have : (d'.extract 0 l.toArray.size) = d' := by rw [← hp1]; simp
    rw [this] at hp3
    simpa using hp3
  · rw [List.pairwise_iff_getElem]
    intro i j hi hj hij
    have h := hs i j (by omega) hij (by simp; omega)
    rw [ltS] at h
    simp at h
    have hi' : i < d'.size := by simpa using hi
    have hj' : j < d'.size := by simpa using hj
    simpa [hi', hj'] using h
  · refine (holds_iff _ blk d'.toList (by rw [hsz]; have := hS.1; omega)).1 ?_
    have h0 : HoldsK encS 4 (Sort.ahead w n) blk 0 l.toArray := (holds_iff w blk l hS.1).2 hS
    have h1 := holdsK_putRowK (enc := encS) (k := 4) (Sort.ahead w n) blk 0 l.toArray d' h0 hp1
    intro j hj
    have h2 := h1 j (by simpa using hj)
    have hlt : blk < (putRowK encS 4 (Sort.ahead w n) blk 0 d').heap.size := by rw [hz]; exact hS.1
    refine ⟨?_, ?_⟩
    · rw [show sortWorldK encS 4 w blk 0 n d' os = grow (putRowK encS 4 (Sort.ahead w n) blk 0 d') os from rfl, cell?_grow _ _ _ hlt]; simpa using h2.1
    · rw [show sortWorldK encS 4 w blk 0 n d' os = grow (putRowK encS 4 (Sort.ahead w n) blk 0 d') os from rfl, frozen?_grow _ _ _ hlt]; exact h2.2
end Go.Proofs.YtfoamihjmmgnlaaDoor
