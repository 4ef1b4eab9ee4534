/- Texts of this claim put together: SortA, SortB, Quiet2, PartB, PartC. -/
import Derived.Test.YtjcfnmjjkadaeaaGreatDoorJoinSetG
import Derived.Sort.Grow
import Derived.Deep.Draws
import Derived.Test.YtjcfnmjjkadaeaaGreatDoorJoinReB
import Derived.Test.YtjcfnmjjkadaeaaGreatDoorJoinMathOrd
import Derived.Shelf.SlSortCmp.WholeK
import Derived.Shelf.SlGeneric
import Derived.Deep.AppendLies
/- byLeast: what it hands back; it lays blocks, and turns nothing. -/
namespace Go.Proofs.YtjcfnmjjkadaeaaGreatDoor
set_option maxRecDepth 100000
open Go.RowKit Go.Sort

/-- The least byte of a set, 0 where there is none. -/
def least (s : BitVec 256) : Nat := (bytesOf s).headD 0
theorem least_lt (s : BitVec 256) : least s < 256 := by
  unfold least
  cases e : bytesOf s with
  | nil => simp
  | cons x r => have := bytesOf_lt s x (by rw [e]; simp); simpa using this

def cmpB (x y : Nat) : Int := if x < y then -1 else if y < x then 1 else 0
set_option maxRecDepth 100000 in
theorem compare_any (x y : Nat) (w : World) :
    Calls Tryz.prog 136 #[.int .u8 x, .int .u8 y] w fun e w' => e = .returned (.int .i64 (cmpB x y)) ∧ w' = w := by
  go_enter Tryz.func136, Tryz.ntmps136
  go_wp2
  all_goals
    go_ret
    refine ⟨?_, rfl⟩
    unfold cmpB
    repeat' split
    all_goals first | rfl | omega

set_option maxRecDepth 100000 in
set_option maxHeartbeats 1000000 in
theorem byLeast_any (x y : BitVec 256) (w : World) (hT : TabAt w) :
    Calls Tryz.prog 112 #[SV x, SV y] w fun e w' => e = .returned (.int .i64 (cmpB (least x) (least y))) ∧ ∃ q os, w' = grow (w.drewN q) os := by
  have HT := hide hT
  clear hT
  go_enter Tryz.func112, Tryz.ntmps112
  go_wp2_with fail
  refine (least_drawn x _ (HT.out.agree (Agree.of_all (K := fun _ => True) (((Below.refl w.heap.size w).alloc (Nat.le_refl _) _).alloc (by simp) _)) trivial)).mono ?_
  rintro e w1 ⟨rfl, hb, hd⟩
  have ky := (Blk.newAt (w := w.alloc (.cells (WS x) 89)) (n := w.heap.size + 1) (by simp) (WS y) 89).below hb (by simp)
  have hB1 := (((Below.refl w.heap.size w).alloc (Nat.le_refl _) (.cells (WS x) 89)).alloc (by simp) (.cells (WS y) 89)).trans (hb.mono (by simp; omega))
  have HB := hide hB1
  have HD := hide (show w.drawn ≤ w1.drawn from hd)
  clear hb hd hB1
  have c0 := ky.cell 0; have c1 := ky.cell 1; have c2 := ky.cell 2; have c3 := ky.cell 3
  simp only [List.getElem?_toArray, List.getElem?_cons_zero, List.getElem?_cons_succ] at c0 c1 c2 c3
  rw [show leastV (bytesOf x) = .tuple #[.int .u8 (least x), .bool (!(bytesOf x).isEmpty)] from rfl]
  generalize (!(bytesOf x).isEmpty) = bx
  go_wp2_with fail
  refine (least_drawn y _ (HT.out.agree (Agree.of_all (K := fun _ => True) HB.out) trivial)).mono ?_
  rintro e w2 ⟨rfl, hb, hd⟩
  have HB2 := hide (HB.out.trans (hb.mono HB.out.size))
  have HD2 := hide (Nat.le_trans HD.out hd)
  clear hb hd c0 c1 c2 c3 ky
  rw [show leastV (bytesOf y) = .tuple #[.int .u8 (least y), .bool (!(bytesOf y).isEmpty)] from rfl]
  generalize (!(bytesOf y).isEmpty) = bY
  go_wp2_with fail
  refine (compare_any _ _ _).mono ?_
  rintro e w3 ⟨rfl, rfl⟩
  go_wp2
  go_ret
  exact ⟨rfl, grown_of_below HB2.out HD2.out⟩
end Go.Proofs.YtjcfnmjjkadaeaaGreatDoor
/- slices.SortFunc at sets, by the shelf. -/
namespace Go.Proofs.YtjcfnmjjkadaeaaGreatDoor
set_option maxRecDepth 100000
open Go.Shelf Go.RowKit Go.Lib Go.Sort
shelf_lay_g SlLaysF0.n6 Slsf 6 at Tryz 111 as sortLaid

def encS (s : BitVec 256) : List Value := [.int .u64 (wd s 0), .int .u64 (wd s 1), .int .u64 (wd s 2), .int .u64 (wd s 3)]
def cfS (x y : BitVec 256) : Int := cmpB (least x) (least y)
theorem ltS (x y : BitVec 256) : ltOf cfS x y = decide (least x < least y) := by
  unfold ltOf cfS cmpB
  by_cases h1 : least x < least y
  · simp [h1]
  · by_cases h2 : least y < least x <;> simp [h1, h2]
theorem swoS : SWO (ltOf cfS) where
  irrefl x := by rw [ltS]; simp
  trans x y z h1 h2 := by rw [ltS] at *; simp at *; omega
  ntrans x y z h1 h2 := by rw [ltS] at *; simp at *; omega

theorem heap_sortWorld (w : World) (blk off m : Nat) (dk : Array (BitVec 256)) (os : Array Obj) (k : Nat) (hk : k < w.heap.size) (hne : k ≠ blk) : (sortWorldK encS 4 w blk off m dk os).heap[k]? = w.heap[k]? := by
  unfold sortWorldK
  have hz : (putRowK encS 4 (Sort.ahead w m) blk off dk).heap.size = w.heap.size := by rw [size_putRowK]; rfl
  show ((putRowK encS 4 (Sort.ahead w m) blk off dk).heap ++ os)[k]? = _
  rw [Array.getElem?_append_left (by rw [hz]; exact hk)]
  unfold putRowK putRow mapBlock
  simp [Sort.ahead, Array.getElem?_modify, Ne.symm hne]
theorem tab_sort {w : World} (hT : TabAt w) (blk off m : Nat) (hne : blk ≠ 0) (dk : Array (BitVec 256)) (os : Array Obj) : TabAt (sortWorldK encS 4 w blk off m dk os) := fun j hj => by
  have hc := hT j hj
  rw [← hc]
  exact World.cell?_of_block (w := w) (heap_sortWorld w blk off m dk os _ (World.block_lt_of_cell? _ _ hc) (Ne.symm hne))
theorem cmpLaysS (w : World) (hT : TabAt w) (blk off size : Nat) (hne : blk ≠ 0) : CmpLays Tryz.prog 112 #[] encS 4 cfS blk off size w :=
  fun m os dk _ x y => byLeast_any x y _ (tab_sort hT blk off m hne dk os)
theorem isAggS (w : World) : (isAgg 89).run Tryz.prog w = .ok true w := by
  simp [isAgg, run_underlying Tryz.underlying89]
theorem sizeS (w : World) : (sizeOf 89).run Tryz.prog w = .ok 4 w := by
  have h : (Tryz.prog.info? 89).map (·.size) = some 4 := by kernel_rfl
  cases hi : Tryz.prog.info? 89 with
  | none => rw [hi] at h; cases h
  | some i => rw [hi] at h; simp at h; simp [sizeOf, typeInfo, hi, h]

/-- A row of sets in a block of its own. -/
def SetsIn (w : World) (blk : Nat) (l : List (BitVec 256)) : Prop :=
  blk < w.heap.size ∧ ∀ k, k < l.length → ∀ j, j < 4 → w.cell? ⟨blk, k * 4 + j, none⟩ = some (.int .u64 (wd (l.getD k 0) j)) ∧ w.frozen? ⟨blk, k * 4 + j, none⟩ = false
theorem encS_get (s : BitVec 256) (j : Nat) (h : j < 4) : (encS s)[j]! = .int .u64 (wd s j) := by
  match j, h with
  | 0, _ => rfl
  | 1, _ => rfl
  | 2, _ => rfl
  | 3, _ => rfl
theorem holds_iff (w : World) (blk : Nat) (l : List (BitVec 256)) (hb : blk < w.heap.size) : HoldsK encS 4 w blk 0 l.toArray ↔ SetsIn w blk l := by
  unfold HoldsK Holds SetsIn
  have key : ∀ t, t < l.length * 4 → (flatK encS 4 l.toArray)[t]! = .int .u64 (wd (l.getD (t / 4) 0) (t % 4)) := fun t ht => by
    rw [get_flatK _ _ _ _ (by simpa using ht), encS_get _ _ (by omega)]
    have : t / 4 < l.length := by omega
    simp [this]
  simp only [size_flatK, List.size_toArray, id]
  constructor
  · intro h
    refine ⟨hb, fun k hk j hj => ?_⟩
    have h1 := h (k * 4 + j) (by omega)
    rw [key _ (by omega), show (k * 4 + j) / 4 = k from by omega, show (k * 4 + j) % 4 = j from by omega, Nat.zero_add] at h1
    exact h1
  · rintro ⟨-, h⟩ t ht
    rw [key t ht, Nat.zero_add]
    have h1 := h (t / 4) (by omega) (t % 4) (by omega)
    rwa [show t / 4 * 4 + t % 4 = t from by omega] at h1

theorem sort_any (blk cap : Nat) (l : List (BitVec 256)) (w : World) (hT : TabAt w) (hne : blk ≠ 0) (hl : l.length < 4611686018427387904) (hS : SetsIn w blk l) :
    Calls Tryz.prog 111 #[.slice (some ⟨blk, 0, none⟩) l.length cap, .func (.func 112) #[] #[]] w fun e w' => e = .returned (.tuple #[]) ∧
      ∃ l' : List (BitVec 256), l'.Perm l ∧ l'.Pairwise (fun x y => least x ≤ least y) ∧ SetsIn w' blk l' ∧ w'.os = w.os ∧ w'.tape = w.tape ∧ w'.output = w.output ∧ w.heap.size ≤ w'.heap.size ∧ ∀ k, k < w.heap.size → k ≠ blk → w'.heap[k]? = w.heap[k]? := by
  have hcon := AnyQ.slices_SortFunc sortLaid 4 isAggS sizeS encS (fun _ => rfl) (fun x v hv => by simp [encS] at hv; rcases hv with rfl | rfl | rfl | rfl <;> rfl) cfS swoS 112 #[] blk 0 cap l.toArray w
    (enters_of Tryz.func112 (by kernel_rfl) rfl) (cmpLaysS w hT blk 0 _ hne) ((holds_iff w blk l hS.1).2 hS) hS.1 (by simpa using hl)
  refine Calls.mono hcon ?_
  rintro e w' ⟨rfl, d', n, os, ⟨hp1, -, hp3⟩, hs, rfl⟩
  have hz : (putRowK encS 4 (Sort.ahead w n) blk 0 d').heap.size = w.heap.size := by rw [size_putRowK]; rfl
  have hsz : (sortWorldK encS 4 w blk 0 n d' os).heap.size = w.heap.size + os.size := by
    show ((putRowK encS 4 (Sort.ahead w n) blk 0 d').heap ++ os).size = _
    rw [Array.size_append, hz]
  have hpl : d'.toList.length = l.length := by simpa using hp1
  refine ⟨rfl, d'.toList, ?_, ?_, ?_, rfl, rfl, rfl, by omega, fun k hk hn => heap_sortWorld w blk 0 n d' os k hk hn⟩
  · have : (d'.extract 0 l.toArray.size) = d' := by rw [← hp1]; simp
    rw [this] at hp3
    simpa using hp3
  · rw [List.pairwise_iff_getElem]
    intro i j hi hj hij
    have h := hs i j (by omega) hij (by simp; omega)
    rw [ltS] at h
    simp at h
    have hi' : i < d'.size := by simpa using hi
    have hj' : j < d'.size := by simpa using hj
    simpa [hi', hj'] using h
  · refine (holds_iff _ blk d'.toList (by rw [hsz]; have := hS.1; omega)).1 ?_
    have h0 : HoldsK encS 4 (Sort.ahead w n) blk 0 l.toArray := (holds_iff w blk l hS.1).2 hS
    have h1 := holdsK_putRowK (enc := encS) (k := 4) (Sort.ahead w n) blk 0 l.toArray d' h0 hp1
    intro j hj
    have h2 := h1 j (by simpa using hj)
    have hlt : blk < (putRowK encS 4 (Sort.ahead w n) blk 0 d').heap.size := by rw [hz]; exact hS.1
    refine ⟨?_, ?_⟩
    · rw [show sortWorldK encS 4 w blk 0 n d' os = grow (putRowK encS 4 (Sort.ahead w n) blk 0 d') os from rfl, cell?_grow _ _ _ hlt]; simpa using h2.1
    · rw [show sortWorldK encS 4 w blk 0 n d' os = grow (putRowK encS 4 (Sort.ahead w n) blk 0 d') os from rfl, frozen?_grow _ _ _ hlt]; exact h2.2
end Go.Proofs.YtjcfnmjjkadaeaaGreatDoor
/- More operations of a quiet walk: bools, indexes, conversions. -/
namespace Go.Proofs.YtjcfnmjjkadaeaaGreatDoor
set_option maxRecDepth 100000
open Go.RowKit

/-- 256 bools. -/
def bArr (f : Nat → Bool) : Array Value := (Array.range 256).map fun i => .bool (f i)
/-- Is a set just that? -/
def sameB (s : BitVec 256) (f : Nat → Bool) : Bool := (List.range 256).all fun i => s.getLsbD i == f i
/-- The worlds in which a set lies in its box, and bools in their block. -/
structure Cs (s : BitVec 256) (B b : Nat) (f : Nat → Bool) (w W : World) : Prop where
  s0 : Blk W B (WS s) 89
  f0 : Blk W b (bArr f) 4
  below : Below w.heap.size w W
theorem Cs.step {s : BitVec 256} {B b : Nat} {f : Nat → Bool} {w W W' : World} (h : Cs s B b f w W) (hb : Below W.heap.size W W') : Cs s B b f w W' :=
  ⟨h.s0.below hb h.s0.lt, h.f0.below hb h.f0.lt, h.below.trans (hb.mono h.below.size)⟩
theorem Cs.drew {s : BitVec 256} {B b : Nat} {f : Nat → Bool} {w W : World} (h : Cs s B b f w W) : Cs s B b f w { W with drawn := W.drawn + 1 } := ⟨h.s0, h.f0, ⟨h.below.os, h.below.tape, h.below.output, h.below.size, h.below.block⟩⟩

end Go.Proofs.YtjcfnmjjkadaeaaGreatDoor
/- cut: each part, split by a set. -/
namespace Go.Proofs.YtjcfnmjjkadaeaaGreatDoor
set_option maxRecDepth 100000
open Go.RowKit

/-- The cells of some sets. -/
def flat (l : List (BitVec 256)) : List Value := l.flatMap encS
/-- The halves of a part that have something. -/
def halves (p s : BitVec 256) : List (BitVec 256) := [p &&& s, p &&& ~~~s].filter (fun h => !(h == 0#256))
def cutL (l : List (BitVec 256)) (s : BitVec 256) : List (BitVec 256) := l.flatMap (fun p => halves p s)

/-- What cut keeps. -/
structure CutW (s : BitVec 256) (B : Nat) (out : Value) (ol : List (BitVec 256)) (w W : World) : Prop where
  box : Blk W B (WS s) 89
  own : W.ownsRow (B + 1) 89 4 out ol.length (flat ol)
  below : Below B w W
theorem CutW.step {s : BitVec 256} {B : Nat} {out : Value} {ol : List (BitVec 256)} {w W W' : World} (h : CutW s B out ol w W) (hb : Below W.heap.size W W') : CutW s B out ol w W' :=
  ⟨h.box.below hb h.box.lt, own_below h.own hb, h.below.trans (hb.mono (by have := h.box.lt; omega))⟩

/-- Two sets, side by side. -/
def PV (u v : BitVec 256) : Value := .agg #[.int .u64 (wd u 0), .int .u64 (wd u 1), .int .u64 (wd u 2), .int .u64 (wd u 3), .int .u64 (wd v 0), .int .u64 (wd v 1), .int .u64 (wd v 2), .int .u64 (wd v 3)]
theorem x_build (ρ : Operand → Value) (d : Option Tmp) (x y : Operand) (t : TypeId) (pos : String) (af : Array Edge) (g : Option (Nat × Bool)) (u v : BitVec 256) (hx : ρ x = SV u) (hy : ρ y = SV v) (w : World) :
    (execOp ρ { dst := d, op := .build 189 #[(0, x), (1, y)], type := t, pos := pos, after := af, guard := g }).run Tryz.prog w = .ok (.value (PV u v)) w := by
  simp [go_sem, hx, hy, PV]
theorem idxP (u v : BitVec 256) (j : Nat) (hj : j < 2) (w : World) : (Instr.index 189 (PV u v) (.int .i64 j)).run Tryz.prog w = .ok (SV (if j = 0 then u else v)) w := by
  obtain ⟨i, hi⟩ : ∃ i, Tryz.prog.info? 89 = some i := Option.isSome_iff_exists.1 (by kernel_rfl)
  have h1 : Tryz.prog.cellsOf 89 = 4 := by kernel_rfl
  match j, hj with
  | 0, _ => simp [Instr.index, go_sem, run_sizeOf w hi, h1, PV]
  | 1, _ => simp [Instr.index, go_sem, run_sizeOf w hi, h1, PV]
structure CutP (p s : BitVec 256) (B pb : Nat) (out : Value) (ol : List (BitVec 256)) (w W : World) : Prop where
  c : CutW s B out ol w W
  p0 : Blk W pb (WS p) 89
theorem CutP.step {p s : BitVec 256} {B pb : Nat} {out : Value} {ol : List (BitVec 256)} {w W W' : World} (h : CutP p s B pb out ol w W) (hb : Below W.heap.size W W') : CutP p s B pb out ol w W' :=
  ⟨h.c.step hb, h.p0.below hb h.p0.lt⟩
theorem CutP.drew {p s : BitVec 256} {B pb : Nat} {out : Value} {ol : List (BitVec 256)} {w W : World} (h : CutP p s B pb out ol w W) : CutP p s B pb out ol w { W with drawn := W.drawn + 1 } :=
  ⟨⟨h.c.box, h.c.own, ⟨h.c.below.os, h.c.below.tape, h.c.below.output, h.c.below.size, h.c.below.block⟩⟩, h.p0⟩

theorem flat_length (l : List (BitVec 256)) : (flat l).length = l.length * 4 := by
  induction l with
  | nil => rfl
  | cons x r ih => simp [flat, encS] at ih ⊢; omega
theorem CutW.append {s h : BitVec 256} {B : Nat} {out v' : Value} {ol : List (BitVec 256)} {w W W' : World} (hC : CutW s B out ol w W) (hg : W.grownBy W' out.ownBlock) (ho : W'.ownsRow (B + 1) 89 4 v' (ol.length + 1) (flat ol ++ encS h)) : CutW s B v' (ol ++ [h]) w W' := by
  have hne : ∀ k, k ≤ B → some k ≠ out.ownBlock := fun k hk e => by
    rcases hC.own.2 with ⟨rfl, -⟩ | ⟨g, cap, cur, rfl, h2, -⟩
    · cases e
    · simp [Value.ownBlock] at e; omega
  refine ⟨(hg.block B hC.box.lt (hne B (Nat.le_refl _))).trans hC.box, ?_, hC.below.trans ⟨hg.os, hg.tape, hg.output, hg.size, fun k hk => hg.block k (by have := hC.box.lt; omega) (hne k (by omega))⟩⟩
  rw [List.length_append, show flat (ol ++ [h]) = flat ol ++ encS h from by simp [flat]]
  exact ho
theorem cutL_length (l : List (BitVec 256)) (s : BitVec 256) : (cutL l s).length ≤ 2 * l.length := by
  induction l with
  | nil => simp [cutL]
  | cons x r ih =>
    have h := List.length_filter_le (fun h => !(h == 0#256)) [x &&& s, x &&& ~~~s]
    simp only [cutL, List.flatMap_cons, List.length_append, List.length_cons, halves] at *
    simp at h
    omega
theorem infoS : (Tryz.prog.info? 89).map (fun i => (i.zero, i.size, i.bytes)) = some (some (.agg #[.int .u64 0, .int .u64 0, .int .u64 0, .int .u64 0]), 4, 32) := by kernel_rfl

set_option maxRecDepth 100000 in
set_option maxHeartbeats 1000000 in
theorem cut_any (l : List (BitVec 256)) (v : Value) (s : BitVec 256) (w : World) (hv : SetsRow w v l) (hl : l.length ≤ 4096) :
    Calls Tryz.prog 110 #[v, SV s] w fun e w' => ∃ v', e = .returned v' ∧ w'.ownsRow (w.heap.size + 1) 89 4 v' (cutL l s).length (flat (cutL l s)) ∧ Below w.heap.size w w' := by
  have HV := hide hv
  obtain ⟨hlen, ad, cap, rfl, -⟩ := hv
  go_enter Tryz.func110, Tryz.ntmps110
  go_wp2
  generalize hB : w.heap.size = B at *
  go_loopw [5, 12] (fun out i wr => ∃ k : Nat, k ≤ l.length ∧ i = .int .i64 k ∧ CutW s B out (cutL (l.take k) s) w wr) (fun _ i _ => l.length - (intOf i).toNat)
  case atStart =>
    refine ⟨0, by omega, rfl, Blk.newAt hB.symm _ _, ⟨by simp [flat, cutL], .inl ⟨rfl, by simp [cutL]⟩⟩, (Below.refl B w).alloc (by omega) _⟩
  case round =>
    obtain ⟨k, hk, rfl, hC⟩ := hrel
    by_cases hlt : k < l.length
    · obtain ⟨-, ad', cap', hv', hc⟩ := HV.out.below (hB ▸ hC.below)
      obtain ⟨rfl, rfl⟩ : ad = ad' ∧ cap = cap' := by cases hv'; exact ⟨rfl, rfl⟩
      obtain ⟨bb, off, rfl, hbb, hc⟩ := hc k hlt
      obtain ⟨p, hp⟩ : ∃ p, p = l.getD k 0 := ⟨_, rfl⟩
      rw [← hp] at hc
      have HP := hide hp
      have c0 := hc 0 (by omega); have c1 := hc 1 (by omega); have c2 := hc 2 (by omega); have c3 := hc 3 (by omega)
      rw [Nat.add_zero] at c0
      clear hv' hp hc
      have hkI : (k : Int) < l.length := by omega
      have hkd : decide (k < l.length) = true := by simp [hlt]
      go_wp2
      obtain ⟨pb, hpb⟩ : ∃ pb, pb = wr.heap.size := ⟨_, rfl⟩
      have hC1 : CutP p s B pb u5 (cutL (l.take k) s) w (wr.alloc (.cells (WS p) 89)) := ⟨hC.step ((Below.refl _ _).alloc (Nat.le_refl _) _), Blk.newAt hpb _ _⟩
      have hGr : Grows (CutP p s B pb u5 (cutL (l.take k) s) w) := fun W W' h hb => h.step hb
      rw [← hpb]
      clear c0 c1 c2 c3 hC
      refine quiet_lit (C := CutP p s B pb u5 (cutL (l.take k) s) w) (by kernel_rfl) (by kernel_rfl) hC1.drew ?_
      refine q_want rfl fun K hK => q_value (SV p) (fun w hw => x_loadSet _ _ _ _ _ _ _ _ p rfl w hw.p0) ?_
      simp only [Act.put, List.setIfInBounds_toArray, List.set_cons_succ, List.set_cons_zero]
      refine hK _ ?_
      clear hK K
      refine q_want rfl fun K hK => q_value (SV s) (fun w hw => x_loadSet _ _ _ _ _ _ _ _ s rfl w hw.c.box) ?_
      simp only [Act.put, List.setIfInBounds_toArray, List.set_cons_succ, List.set_cons_zero]
      refine hK _ ?_
      clear hK K
      refine q_want rfl fun K hK => q_call hGr 85 #[SV p, SV s] (SV (p &&& s)) (x_call2 _ _ _ _ _ _ _ _ _ _ _ _ _ rfl rfl rfl (enters_of Tryz.func85 (by kernel_rfl) rfl)) (fun w _ => and_any p s w) ?_
      simp only [Act.put, List.setIfInBounds_toArray, List.set_cons_succ, List.set_cons_zero]
      refine hK _ ?_
      clear hK K
      refine q_want rfl fun K hK => q_value (SV p) (fun w hw => x_loadSet _ _ _ _ _ _ _ _ p rfl w hw.p0) ?_
      simp only [Act.put, List.setIfInBounds_toArray, List.set_cons_succ, List.set_cons_zero]
      refine hK _ ?_
      clear hK K
      refine q_want rfl fun K hK => q_value (SV s) (fun w hw => x_loadSet _ _ _ _ _ _ _ _ s rfl w hw.c.box) ?_
      simp only [Act.put, List.setIfInBounds_toArray, List.set_cons_succ, List.set_cons_zero]
      refine hK _ ?_
      clear hK K
      refine q_want rfl fun K hK => q_call hGr 86 #[SV p, SV s] (SV (p &&& ~~~s)) (x_call2 _ _ _ _ _ _ _ _ _ _ _ _ _ rfl rfl rfl (enters_of Tryz.func86 (by kernel_rfl) rfl)) (fun w _ => minus_any p s w) ?_
      simp only [Act.put, List.setIfInBounds_toArray, List.set_cons_succ, List.set_cons_zero]
      refine hK _ ?_
      clear hK K
      refine q_want rfl fun K hK => q_value (PV (p &&& s) (p &&& ~~~s)) (fun w _ => x_build _ _ _ _ _ _ _ _ _ _ rfl rfl w) ?_
      simp only [Act.put, List.setIfInBounds_toArray, List.set_cons_succ, List.set_cons_zero]
      refine hK _ ?_
      clear hK K
      refine q_want rfl fun K hK => q_value (.int .i64 0) (fun w _ => x_move _ _ _ _ _ _ _ _ rfl w) ?_
      simp only [Act.put, List.setIfInBounds_toArray, List.set_cons_succ, List.set_cons_zero]
      refine hK _ ?_
      clear hK K
      refine wpQuiet_nil ?_
      clear hC1 hGr hpb
      intro wr2 hCP
      have hC := hCP.c
      clear hCP
      obtain ⟨h0, hh0⟩ : ∃ h, h = p &&& s := ⟨_, rfl⟩
      obtain ⟨h1, hh1⟩ : ∃ h, h = p &&& ~~~s := ⟨_, rfl⟩
      rw [← hh0, ← hh1]
      have H0 := hide hh0
      have H1 := hide hh1
      clear hh0 hh1
      go_wp2
      go_loopw [5, 23] (fun out j wr => ∃ jj : Nat, jj ≤ 2 ∧ j = .int .i64 jj ∧ CutW s B out (cutL (l.take k) s ++ ([h0, h1].take jj).filter (fun h => !(h == 0#256))) w wr) (fun _ j _ => 2 - (intOf j).toNat)
      case atStart => exact ⟨0, by omega, rfl, by simpa using hC⟩
      case round =>
        clear hC
        obtain ⟨jj, hjj, rfl, hC⟩ := hrel
        by_cases hj2 : jj < 2
        · have hix := fun w => idxP h0 h1 jj hj2 w
          obtain ⟨h, hh⟩ : ∃ h, h = if jj = 0 then h0 else h1 := ⟨_, rfl⟩
          rw [← hh] at hix
          have hjd : decide ((jj : Int) < 2) = true := by simp; omega
          have htk : [h0, h1].take (jj + 1) = [h0, h1].take jj ++ [h] := by
            rcases (by omega : jj = 0 ∨ jj = 1) with rfl | rfl <;> simp [hh]
          have HTK := hide htk
          clear hh htk
          go_wp2_with fail
          refine (empty_any h _).mono ?_
          rintro e w3 ⟨rfl, hb⟩
          have hC3 := (hC.step ((Below.refl _ _).alloc (Nat.le_refl _) (.cells (WS h) 89))).step hb
          have kb := (Blk.newAt (w := wr) rfl (WS h) 89).below hb (by simp)
          by_cases he : (h == 0#256) = true
          · have HE := hide he
            rw [he]
            go_wp2
            refine ⟨⟨jj + 1, by omega, by go_num, ?_⟩, by simp [intOf]; omega⟩
            rw [HTK.out, List.filter_append, show [h].filter (fun h => !(h == 0#256)) = [] from by simp [HE.out], List.append_nil]
            exact hC3
          · rw [Bool.not_eq_true] at he
            have HE := hide he
            rw [he]
            have b0 := kb.cell 0; have b1 := kb.cell 1; have b2 := kb.cell 2; have b3 := kb.cell 3
            simp only [List.getElem?_toArray, List.getElem?_cons_zero, List.getElem?_cons_succ] at b0 b1 b2 b3
            have hC4 := hC3.step ((Below.refl _ _).alloc (Nat.le_refl _) (.cells (WS h) 89))
            obtain ⟨i, hi, hz0, hz1, hz2⟩ := info_parts infoS
            have hlen4 : (cutL (l.take k) s ++ ([h0, h1].take jj).filter (fun h => !(h == 0#256))).length ≤ 8194 := by
              rw [List.length_append]
              have a1 := cutL_length (l.take k) s
              have a2 := List.length_filter_le (fun h => !(h == 0#256)) ([h0, h1].take jj)
              simp at a1 a2
              omega
            have HC4 := hide hC4
            have hnews := World.news_of_block (Blk.newAt (w := w3) rfl (WS h) 89)
            clear hC4 hC3 hC kb
            go_wp2_with (refine wpList_append_lies _ rfl _ _ _ rfl (B + 1) _ i _ 4 32 Tryz.underlying125 hi hz0 hz1 hz2 rfl (by omega) _ _ _ rfl HC4.out.own _ 1 _ (encS h) rfl rfl hnews (fun u hu => by simp [encS] at hu; rcases hu with rfl | rfl | rfl | rfl <;> rfl) (by omega) (by unfold maxLen; omega) (by omega) HC4.out.box.lt _ rfl ?_; intro g cap' w4 hown hgrow hat hlt)
            have happ := HC4.out.append hgrow hown
            rw [List.length_append] at happ
            refine ⟨⟨jj + 1, by omega, by go_num, ?_⟩, by simp [intOf]; omega⟩
            rw [HTK.out, List.filter_append, show [h].filter (fun h => !(h == 0#256)) = [h] from by simp [HE.out], ← List.append_assoc]
            exact happ
        · obtain rfl : jj = 2 := by omega
          go_wp2
          refine ⟨⟨k + 1, by omega, by go_num, ?_⟩, by simp [intOf]; omega⟩
          have e : cutL (l.take (k + 1)) s = cutL (l.take k) s ++ halves p s := by
            have hpl : p = l[k] := by rw [HP.out]; simp [List.getD_eq_getElem?_getD, hlt]
            unfold cutL
            rw [List.take_succ_eq_append_getElem hlt, List.flatMap_append, hpl]
            simp only [List.flatMap_cons, List.flatMap_nil, List.append_nil]
          rw [e, halves, ← H0.out, ← H1.out]
          exact hC
    · obtain rfl : k = l.length := by omega
      go_wp2
      go_ret
      rw [List.take_length] at hC
      exact ⟨_, rfl, by rw [hB]; exact hC.own, by rw [hB]; exact hC.below⟩
end Go.Proofs.YtjcfnmjjkadaeaaGreatDoor
/- Refine: the parts into which some sets cut all bytes. -/
namespace Go.Proofs.YtjcfnmjjkadaeaaGreatDoor
set_option maxRecDepth 100000
open Go.RowKit

def refL (l : List (BitVec 256)) : List (BitVec 256) := l.foldl cutL [allB]
/-- Each byte is in one of them. -/
def Covers (pl : List (BitVec 256)) : Prop := ∀ b, b < 256 → ∃ p ∈ pl, p.getLsbD b = true
theorem Covers.cut {pl : List (BitVec 256)} (h : Covers pl) (s : BitVec 256) : Covers (cutL pl s) := fun b hb => by
  obtain ⟨p, hp, hpb⟩ := h b hb
  have key : ∀ q : BitVec 256, q.getLsbD b = true → (q == 0#256) = false := fun q hq => by
    rw [Bool.eq_false_iff]; intro e
    have : q = 0#256 := by simpa using e
    rw [this] at hq; simp at hq
  by_cases hs : s.getLsbD b = true
  · refine ⟨p &&& s, ?_, by simp [hpb, hs]⟩
    refine List.mem_flatMap.2 ⟨p, hp, ?_⟩
    simp [halves, key (p &&& s) (by simp [hpb, hs])]
  · have hs' : s.getLsbD b = false := Bool.eq_false_iff.2 hs
    have hb2 : (p &&& ~~~s).getLsbD b = true := by rw [BitVec.getLsbD_and, BitVec.getLsbD_not, hpb, hs']; simp [hb]
    refine ⟨p &&& ~~~s, ?_, hb2⟩
    refine List.mem_flatMap.2 ⟨p, hp, ?_⟩
    simp [halves, key _ hb2]
theorem covers_all : Covers [allB] := fun b hb => ⟨allB, by simp, by rw [show allB = ~~~0#256 from rfl, BitVec.getLsbD_not]; simp [hb]⟩
theorem Covers.pos {pl : List (BitVec 256)} (h : Covers pl) : 0 < pl.length := by
  obtain ⟨p, hp, -⟩ := h 0 (by omega)
  exact List.length_pos_of_mem hp

theorem covers_fold (l : List (BitVec 256)) : ∀ pl, Covers pl → Covers (l.foldl cutL pl) := by
  induction l with
  | nil => intro pl h; exact h
  | cons x r ih => intro pl h; exact ih _ (h.cut x)
theorem refL_covers (l : List (BitVec 256)) : Covers (refL l) := covers_fold l _ covers_all
theorem flat_get (l : List (BitVec 256)) : ∀ (k : Nat), k < l.length → ∀ j, j < 4 → (flat l)[k * 4 + j]? = some (.int .u64 (wd (l.getD k 0) j)) := by
  induction l with
  | nil => intro k hk; simp at hk
  | cons x r ih =>
    intro k hk j hj
    rw [show flat (x :: r) = encS x ++ flat r from by simp [flat]]
    cases k with
    | zero =>
      rw [List.getElem?_append_left (by simp [encS]; omega)]
      simp
      match j, hj with
      | 0, _ => rfl
      | 1, _ => rfl
      | 2, _ => rfl
      | 3, _ => rfl
    | succ k =>
      rw [List.getElem?_append_right (by simp [encS]; omega), show (k + 1) * 4 + j - (encS x).length = k * 4 + j from by simp [encS]; omega, ih k (by simpa using hk) j hj]
      simp
/-- A row that is owned lies so. -/
theorem own_in {W : World} {base n : Nat} {v : Value} {pl : List (BitVec 256)} (h : W.ownsRow base 89 4 v n (flat pl)) (hn : n = pl.length) (h0 : 0 < n) : ∃ g cap, v = .slice (some ⟨g, 0, none⟩) pl.length cap ∧ base ≤ g ∧ SetsIn W g pl := by
  subst hn
  rcases h.2 with ⟨-, e⟩ | ⟨g, cap, cur, rfl, hb, hg, h1, h2, h3, h4⟩
  · omega
  · refine ⟨g, cap, rfl, hb, (Array.getElem?_eq_some_iff.1 hg).1, fun k hk j hj => ?_⟩
    have hblk : Blk W g cur 89 := hg
    refine ⟨?_, hblk.frozen _⟩
    rw [hblk.cell, ← flat_get pl k hk j hj, ← h4, List.getElem?_take, if_pos (by omega)]
    simp
theorem in_row {W : World} {g cap : Nat} {pl : List (BitVec 256)} (h : SetsIn W g pl) (hl : pl.length ≤ 9223372036854775807) : SetsRow W (.slice (some ⟨g, 0, none⟩) pl.length cap) pl :=
  ⟨hl, _, _, rfl, fun k hk => ⟨g, 0, rfl, h.1, fun j hj => by rw [Nat.zero_add]; exact (h.2 k hk j hj).1⟩⟩
theorem own_mono {W : World} {base base' n : Nat} {v : Value} {xs : List Value} {e size : Nat} (h : W.ownsRow base' e size v n xs) (hb : base ≤ base') : W.ownsRow base e size v n xs := by
  refine ⟨h.1, ?_⟩
  rcases h.2 with h2 | ⟨g, cap, cur, h1, h2, h3⟩
  · exact .inl h2
  · exact .inr ⟨g, cap, cur, h1, by omega, h3⟩

end Go.Proofs.YtjcfnmjjkadaeaaGreatDoor
