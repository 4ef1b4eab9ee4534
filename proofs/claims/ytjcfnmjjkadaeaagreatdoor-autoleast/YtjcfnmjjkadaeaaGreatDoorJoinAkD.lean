/- Texts of this claim put together: AkA, AkB, AkC, AkD. -/
import Derived.Test.YtjcfnmjjkadaeaaGreatDoorJoinAuA
import Derived.Test.YtjcfnmjjkadaeaaGreatDoorJoinMathAl3
import Derived.Test.YtjcfnmjjkadaeaaGreatDoorJoinMathRow
import Derived.Test.YtjcfnmjjkadaeaaGreatDoorJoinAuE
import Derived.Test.YtjcfnmjjkadaeaaGreatDoorJoinSetG
import Derived.Test.YtjcfnmjjkadaeaaGreatDoorJoinReB
import Derived.Test.YtjcfnmjjkadaeaaGreatDoorJoinDfaI
/- Package alike: rows of numbers by places; rows of one's own whose tail may hold anything. -/
namespace Go.Proofs.YtjcfnmjjkadaeaaGreatDoor
set_option maxRecDepth 100000
set_option linter.unusedSimpArgs false
set_option linter.unusedVariables false
open Go.RowKit Go.Shelf

/-- A row of numbers, by places. -/
def iCells (n : Nat) (v : Nat → Int) : Array Value := ((List.range n).map fun j => Value.int .i64 (v j)).toArray
def setI (v : Nat → Int) (i : Nat) (b : Int) : Nat → Int := fun j => if j = i then b else v j
theorem iCells_get (n : Nat) (v : Nat → Int) {i : Nat} (h : i < n) : (iCells n v)[i]? = some (.int .i64 (v i)) := by
  simp [iCells, h]
theorem iCells_none (n : Nat) (v : Nat → Int) {i : Nat} (h : ¬ i < n) : (iCells n v)[i]? = none := by
  simp [iCells]; omega
theorem iCells_set (n : Nat) (v : Nat → Int) (i : Nat) (b : Int) : (iCells n v).setIfInBounds i (.int .i64 b) = iCells n (setI v i b) := by
  apply Array.ext_getElem?
  intro j
  rw [Array.getElem?_setIfInBounds]
  by_cases hj : j < n
  · rw [iCells_get _ _ hj, iCells_get _ _ hj]
    by_cases e : i = j
    · subst e
      simp [setI, iCells, hj]
    · rw [if_neg e]
      simp [setI, Ne.symm e]
  · rw [iCells_none _ _ hj, iCells_none _ _ hj]
    by_cases e : i = j
    · subst e; simp [iCells]; omega
    · rw [if_neg e]
theorem iCells_congr {n : Nat} {v u : Nat → Int} (h : ∀ j, j < n → v j = u j) : iCells n v = iCells n u := by
  apply Array.ext_getElem?
  intro j
  by_cases hj : j < n
  · rw [iCells_get _ _ hj, iCells_get _ _ hj, h j hj]
  · rw [iCells_none _ _ hj, iCells_none _ _ hj]
theorem madeI (n : Nat) : madeCells (Value.int .i64 0).cells (n * 1) = iCells n fun _ => 0 := by
  apply Array.ext_getElem?
  intro j
  rw [Nat.mul_one]
  by_cases h : j < n
  · simp [madeCells, iCells, Value.cells, h, Nat.mod_one]
  · have h2 : (madeCells (Value.int .i64 0).cells n)[j]? = none := by simp [madeCells]; omega
    rw [iCells_none _ _ h, h2]
theorem infoIA : (Tryz.prog.info? 3).map (fun i => (i.zero, i.size, i.bytes)) = some (some (.int .i64 0), 1, 8) := by kernel_rfl
theorem ints_make (n : Nat) (w : World) (hn : n ≤ 1000000) : (Instr.makeSlice 36 (.int .i64 n) (.int .i64 n)).run Tryz.prog w = .ok (.slice (some ⟨w.heap.size, 0, none⟩) n n) (w.alloc (.cells (iCells n fun _ => 0) 3)) := by
  obtain ⟨i, hi, hz0, hz1, hz2⟩ := info_parts infoIA
  have h := run_make (P := Tryz.prog) w 36 3 i (.int .i64 0) Tryz.underlying36 hi hz0 .i64 .i64 n n (by omega) (Int.le_refl _) (by rw [hz2]; omega) (by omega)
  simp only [Int.toNat_natCast] at h
  rw [h, hz1, madeI]

section
variable {α : Type} (S : EncS α)
/-- A row of one's own; what lies behind its end is not told. -/
def OwnJ (W : World) (v : Value) (l : List α) : Prop :=
  (v = .slice none 0 0 ∧ l = []) ∨ ∃ g cap cur, v = .slice (some ⟨g, 0, none⟩) l.length cap ∧ Blk W g cur S.E ∧ l.length ≤ cap ∧ cap ≤ maxLen ∧ cur.size = cap * S.k ∧ cur.toList.take (l.length * S.k) = S.flat l
variable {S}
theorem OwnJ.other {W W' : World} {v : Value} {l : List α} (h : OwnJ S W v l) (hk : ∀ g, v.ownBlock = some g → g < W.heap.size → W'.heap[g]? = W.heap[g]?) : OwnJ S W' v l := by
  rcases h with h | ⟨g, cap, cur, rfl, h2, h3⟩
  · exact .inl h
  · exact .inr ⟨g, cap, cur, rfl, (hk g rfl h2.lt).trans h2, h3⟩
theorem OwnJ.slice {W : World} {v : Value} {l : List α} (h : OwnJ S W v l) : ∃ a cap, v = .slice a l.length cap ∧ l.length ≤ cap := by
  rcases h with ⟨rfl, rfl⟩ | ⟨g, cap, cur, rfl, -, h, -⟩
  · exact ⟨none, 0, rfl, by simp⟩
  · exact ⟨_, _, rfl, h⟩
theorem OwnJ.blk {W : World} {v : Value} {l : List α} (h : OwnJ S W v l) {g : Nat} (hg : v.ownBlock = some g) : ∃ cur, Blk W g cur S.E := by
  rcases h with ⟨rfl, rfl⟩ | ⟨g', cap, cur, rfl, h2, -⟩
  · cases hg
  · injection hg with hg
    have hg : g' = g := hg
    subst hg
    exact ⟨cur, h2⟩
theorem OwnJ.cell {W : World} {v : Value} {l : List α} (h : OwnJ S W v l) (h0 : 0 < l.length) :
    ∃ g cap, v = .slice (some ⟨g, 0, none⟩) l.length cap ∧ g < W.heap.size ∧ l.length ≤ cap ∧ (∃ cur, Blk W g cur S.E) ∧ ∀ (i : Nat) q, l[i]? = some q → ∀ j, j < S.k → W.cell? ⟨g, i * S.k + j, none⟩ = (S.enc q)[j]? := by
  rcases h with ⟨rfl, rfl⟩ | ⟨g, cap, cur, rfl, h2, h3, h4, h5, h6⟩
  · simp at h0
  · refine ⟨g, cap, rfl, h2.lt, h3, ⟨cur, h2⟩, fun i q hk j hj => ?_⟩
    have hkl := (List.getElem?_eq_some_iff.1 hk).1
    have hlt : i * S.k + j < l.length * S.k := by
      have := Nat.mul_le_mul_right S.k (show i + 1 ≤ l.length by omega)
      rw [Nat.succ_mul] at this
      omega
    rw [h2.cell, ← S.flat_get l i q hk j hj, ← h6, List.getElem?_take, if_pos hlt]
    simp
theorem EncS.flat_set (l : List α) : ∀ (i : Nat) (q : α) (j : Nat), i < l.length → (S.flat (l.set i q))[j]? = if i * S.k ≤ j ∧ j < i * S.k + S.k then (S.enc q)[j - i * S.k]? else (S.flat l)[j]? := by
  induction l with
  | nil => intro i q j h; simp at h
  | cons x r ih =>
    intro i q j h
    have e : S.flat (x :: r) = S.enc x ++ S.flat r := by simp [EncS.flat]
    cases i with
    | zero =>
      have e2 : S.flat ((x :: r).set 0 q) = S.enc q ++ S.flat r := by simp [EncS.flat]
      rw [e, e2, Nat.zero_mul, Nat.zero_add, Nat.sub_zero]
      by_cases hj : j < S.k
      · rw [if_pos ⟨Nat.zero_le _, hj⟩, List.getElem?_append_left (by rw [S.len]; exact hj)]
      · rw [if_neg (fun h => hj h.2), List.getElem?_append_right (by rw [S.len]; omega), List.getElem?_append_right (by rw [S.len]; omega), S.len, S.len]
    | succ i =>
      have e2 : S.flat ((x :: r).set (i + 1) q) = S.enc x ++ S.flat (r.set i q) := by simp [EncS.flat]
      have hi : i < r.length := by simpa using h
      rw [e, e2, Nat.succ_mul]
      by_cases hj : j < S.k
      · rw [if_neg (by omega), List.getElem?_append_left (by rw [S.len]; exact hj), List.getElem?_append_left (by rw [S.len]; exact hj)]
      · rw [List.getElem?_append_right (by rw [S.len]; omega), List.getElem?_append_right (by rw [S.len]; omega), S.len, ih i q (j - S.k) hi]
        by_cases h2 : i * S.k ≤ j - S.k ∧ j - S.k < i * S.k + S.k
        · rw [if_pos h2, if_pos (by omega)]
          congr 1; omega
        · rw [if_neg h2, if_neg (by omega)]
/-- An element is turned: the row's block holds the other one's cells there, all else as before. -/
theorem OwnJ.put {W W' : World} {g n cap : Nat} {l : List α} (h : OwnJ S W (.slice (some ⟨g, 0, none⟩) n cap) l) (i : Nat) (q : α) (hi : i < l.length)
    (hb : ∀ cur, Blk W g cur S.E → ∃ cur', Blk W' g cur' S.E ∧ cur'.size = cur.size ∧ ∀ j, j < cur.size → cur'[j]? = if i * S.k ≤ j ∧ j < i * S.k + S.k then (S.enc q)[j - i * S.k]? else cur[j]?) : OwnJ S W' (.slice (some ⟨g, 0, none⟩) n cap) (l.set i q) := by
  rcases h with ⟨e, rfl⟩ | ⟨g', cap', cur, e, h2, h3, h4, h5, h6⟩
  · simp at hi
  · injection e with e1 e2 e3
    injection e1 with e1
    injection e1 with e1
    subst e1 e2 e3
    obtain ⟨cur', k1, k2, k3⟩ := hb cur h2
    have hm := Nat.mul_le_mul_right S.k h3
    refine .inr ⟨g, cap, cur', by rw [List.length_set], k1, by rw [List.length_set]; exact h3, h4, k2.trans h5, ?_⟩
    rw [List.length_set]
    apply List.ext_getElem?
    intro j
    rw [List.getElem?_take, EncS.flat_set l i q j hi]
    by_cases hj : j < l.length * S.k
    · rw [if_pos hj, Array.getElem?_toList, k3 j (by omega)]
      have h7 : (cur.toList.take (l.length * S.k))[j]? = cur[j]? := by rw [List.getElem?_take, if_pos hj, Array.getElem?_toList]
      rw [← h7, h6]
    · have h8 := Nat.mul_le_mul_right S.k (show i + 1 ≤ l.length by omega)
      rw [Nat.succ_mul] at h8
      rw [if_neg hj, if_neg (by omega), List.getElem?_eq_none (by rw [S.flat_length]; omega)]
/-- From W to W' such a row grew. -/
structure AppJ (W W' : World) (v v' : Value) : Prop where
  os : W'.os = W.os
  tape : W'.tape = W.tape
  output : W'.output = W.output
  size : W.heap.size ≤ W'.heap.size
  other : ∀ k, k < W.heap.size → v.ownBlock ≠ some k → W'.heap[k]? = W.heap[k]?
  own : v'.ownBlock = v.ownBlock ∨ v'.ownBlock = some W.heap.size
set_option maxHeartbeats 2000000 in
/-- append of an element. -/
theorem run_appendJ {W : World} {v : Value} {l : List α} (T ty : TypeId) (z : Value) (by0 : Nat) (hT : Tryz.prog.underlying T = some (.slice S.E)) (hI : (Tryz.prog.info? S.E).map (fun i => (i.zero, i.size, i.bytes)) = some (some z, S.k, by0)) (hz : z.cells = S.zc.toArray) (hby : by0 ≤ 1024)
    (h : OwnJ S W v l) (ad : Addr) (c : Nat) (q : α) (hnews : ∀ j u, (S.enc q)[j]? = some u → W.cell? (ad.add j) = some u) (hl : l.length + 1 ≤ 4294967296) :
    ∃ v' W', (Builtin.append_ #[T, T] ty #[v, .slice (some ad) 1 c]).run Tryz.prog W = .ok v' W' ∧ OwnJ S W' v' (l ++ [q]) ∧ AppJ W W' v v' := by
  obtain ⟨i, hi, hz0, hz1, hz2⟩ := info_parts hI
  have hlen : (l ++ [q]).length = l.length + 1 := by simp
  have hfl : (S.flat l).length = l.length * S.k := S.flat_length l
  have hfa : S.flat (l ++ [q]) = S.flat l ++ S.enc q := by rw [S.flat_append, S.flat_one]
  have hes : (S.enc q).length = S.k := S.len q
  have hk := S.pos
  have hm1 : (l.length + 1) * S.k = l.length * S.k + S.k := Nat.succ_mul _ _
  have hb1 : (l.length + 1) * by0 ≤ 4294967296 * 1024 := Nat.mul_le_mul hl hby
  have hfit : ∀ old, old < l.length + 1 → Builtin.nextslicecap (l.length + 1) old * i.bytes ≤ 281474976710656 := fun old ho => growslice_fits ho (by rw [hz2]; omega)
  have fin : ∀ (K : Nat) W', l.length + 1 ≤ K → K ≤ maxLen → W' = W.drew.alloc (.cells ((S.flat l ++ S.enc q).toArray ++ Builtin.zeroCells z.cells (K - (l.length + 1))) S.E) →
      OwnJ S W' (.slice (some ⟨W.heap.size, 0, none⟩) (l.length + 1) K) (l ++ [q]) ∧ AppJ W W' v (.slice (some ⟨W.heap.size, 0, none⟩) (l.length + 1) K) := by
    intro K W' hK hm hW
    have hblk : Blk W' W.heap.size ((S.flat l ++ S.enc q).toArray ++ Builtin.zeroCells z.cells (K - (l.length + 1))) S.E := by rw [hW]; exact heap_alloc_new W.drew _
    have hold : ∀ k, k < W.heap.size → W'.heap[k]? = W.heap[k]? := fun k hk => by rw [hW]; exact heap_alloc_old W.drew _ hk
    have hsz : W.heap.size ≤ W'.heap.size := by rw [hW]; simp
    have hzs : (Builtin.zeroCells z.cells (K - (l.length + 1))).size = (K - (l.length + 1)) * S.k := by rw [hz]; simp [Builtin.zeroCells, S.zlen]
    refine ⟨.inr ⟨_, K, _, by rw [hlen], hblk, by rw [hlen]; exact hK, hm, ?_, ?_⟩, ⟨by rw [hW]; rfl, by rw [hW]; rfl, by rw [hW]; rfl, hsz, fun k hk _ => hold k hk, .inr rfl⟩⟩
    · rw [Array.size_append, hzs, List.size_toArray, List.length_append, hfl, hes, Nat.sub_mul, hm1]
      have := Nat.mul_le_mul_right S.k hK
      rw [hm1] at this
      omega
    · rw [Array.toList_append, hlen, hfa, hm1]
      rw [List.take_append_of_le_length (by simp [hfl, hes])]
      exact List.take_of_length_le (by simp [hfl, hes])
  rcases h with ⟨rfl, rfl⟩ | ⟨g, cap, cur, rfl, hg, hn, hcap, hcs, htake⟩
  · have hr := run_append_nil (P := Tryz.prog) (w := W) T ty S.E i _ hT hi hz0 ad 1 c (S.enc q) (by rw [hz1, hes, Nat.one_mul]) hnews (by omega) (by omega) (by rw [hz2]; omega)
    have hge := grownCap_ge W 1 0 S.E
    have hcm : grownCap W 1 0 S.E ≤ maxLen := grownCap_le_maxLen W 1 0 _ (by unfold maxLen; omega)
    refine ⟨_, _, hr, ?_⟩
    have := fin _ _ (by simpa using hge) hcm rfl
    simpa [EncS.flat] using this
  · by_cases hroom : l.length + 1 ≤ cap
    · have hcl0 := Nat.mul_le_mul_right S.k hroom
      rw [hm1] at hcl0
      have hr := run_append_room (P := Tryz.prog) W T ty S.E i hT hi g l.length cap cur hg ad 1 c (S.enc q) (by rw [hz1, hes, Nat.one_mul]) hnews (S.one q) hroom (by rw [hcs, hz1]; omega)
      rw [hz1, hes, ← hm1] at hr
      obtain ⟨c', hc'⟩ : ∃ c' : Array Value, c' = (cur.toList.take (l.length * S.k) ++ S.enc q ++ cur.toList.drop ((l.length + 1) * S.k)).toArray := ⟨_, rfl⟩
      rw [← hc'] at hr
      have hblk' : Blk (W.setRow g c') g c' S.E := setRow_heap W g cur _ _ _ hg
      have hother : ∀ k, k ≠ g → (W.setRow g c').heap[k]? = W.heap[k]? := fun k hk => setRow_other W g k _ hk
      have hsz : (W.setRow g c').heap.size = W.heap.size := by simp
      have hcl : cur.toList.length = cap * S.k := by rw [Array.length_toList, hcs]
      have hcl' : c'.toList = S.flat l ++ S.enc q ++ cur.toList.drop ((l.length + 1) * S.k) := by rw [hc', htake]
      refine ⟨_, _, hr, .inr ⟨g, cap, c', by rw [hlen], hblk', by rw [hlen]; exact hroom, hcap, ?_, ?_⟩, ⟨rfl, rfl, rfl, by rw [hsz]; exact Nat.le_refl _, fun k _ hne => hother k (fun e => hne (by rw [e]; rfl)), .inl rfl⟩⟩
      · rw [← Array.length_toList, hcl', List.length_append, List.length_append, hfl, hes, List.length_drop, hcl]; omega
      · rw [hcl', hlen, hfa, hm1]
        exact List.take_left' (by simp [hfl, hes])
    · have hr := run_append_grow (P := Tryz.prog) W T ty S.E i _ hT hi hz0 ⟨g, 0, none⟩ l.length cap (S.flat l) (by rw [hz1, hfl]) (fun j x hj => by
        have hj2 : j < l.length * S.k := by rw [← hfl]; exact (List.getElem?_eq_some_iff.1 hj).1
        rw [Go.WideShapes.add_plain, Nat.zero_add, hg.cell, ← Array.getElem?_toList, ← hj, ← htake, List.getElem?_take, if_pos hj2]) ad 1 c (S.enc q) (by rw [hz1, hes, Nat.one_mul]) hnews (by omega) (by omega) (hfit cap (by omega))
      have hge := grownCap_ge W (l.length + 1) cap S.E
      have hcm : grownCap W (l.length + 1) cap S.E ≤ maxLen := grownCap_le_maxLen W (l.length + 1) cap _ (by unfold maxLen; omega)
      refine ⟨_, _, hr, ?_⟩
      exact fin _ _ hge hcm (by rw [← List.append_toArray])
end
/-- Groups: where one begins, where its marked states end, where it ends. -/
def grpS : EncS (Nat × Nat × Nat) where
  enc x := [.int .i64 x.1, .int .i64 x.2.1, .int .i64 x.2.2]
  k := 3
  E := 176
  zc := [.int .i64 0, .int .i64 0, .int .i64 0]
  len _ := rfl
  one x u hu := by
    simp at hu
    rcases hu with rfl | rfl | rfl <;> rfl
  pos := by decide
  zlen := rfl
def intS : EncS Nat where
  enc x := [.int .i64 x]
  k := 1
  E := 3
  zc := [.int .i64 0]
  len _ := rfl
  one x u hu := by
    simp at hu
    rcases hu with rfl; rfl
  pos := by decide
  zlen := rfl
end Go.Proofs.YtjcfnmjjkadaeaaGreatDoor
/- Package alike's parting in memory; put. -/
namespace Go.Proofs.YtjcfnmjjkadaeaaGreatDoor
set_option maxRecDepth 100000
set_option linter.unusedSimpArgs false
set_option linter.unusedVariables false
open Go.RowKit Go.Shelf

section
variable (ρ : Operand → Value) (d : Option Tmp) (x y : Operand) (t : TypeId) (pos : String) (af : Array Edge) (g : Option (Nat × Bool))
theorem x_akF0 (b : Nat) (hx : ρ x = PT b) (w : World) : (execOp ρ { dst := d, op := .fieldAddr 145 x 0, type := t, pos := pos, after := af, guard := g }).run Tryz.prog w = .ok (.value (PT b)) w := by
  simp [go_sem, hx, PT]
theorem x_akF1 (b : Nat) (hx : ρ x = PT b) (w : World) : (execOp ρ { dst := d, op := .fieldAddr 145 x 1, type := t, pos := pos, after := af, guard := g }).run Tryz.prog w = .ok (.value (.pointer (some ⟨b, 1, none⟩))) w := by
  simp [go_sem, hx, PT]
theorem x_akF2 (b : Nat) (hx : ρ x = PT b) (w : World) : (execOp ρ { dst := d, op := .fieldAddr 145 x 2, type := t, pos := pos, after := af, guard := g }).run Tryz.prog w = .ok (.value (.pointer (some ⟨b, 2, none⟩))) w := by
  simp [go_sem, hx, PT]
theorem x_akF3 (b : Nat) (hx : ρ x = PT b) (w : World) : (execOp ρ { dst := d, op := .fieldAddr 145 x 3, type := t, pos := pos, after := af, guard := g }).run Tryz.prog w = .ok (.value (.pointer (some ⟨b, 3, none⟩))) w := by
  simp [go_sem, hx, PT]
theorem x_akF4 (b : Nat) (hx : ρ x = PT b) (w : World) : (execOp ρ { dst := d, op := .fieldAddr 145 x 4, type := t, pos := pos, after := af, guard := g }).run Tryz.prog w = .ok (.value (.pointer (some ⟨b, 4, none⟩))) w := by
  simp [go_sem, hx, PT]
theorem x_gF0 (b o : Nat) (hx : ρ x = .pointer (some ⟨b, o, none⟩)) (w : World) : (execOp ρ { dst := d, op := .fieldAddr 176 x 0, type := t, pos := pos, after := af, guard := g }).run Tryz.prog w = .ok (.value (.pointer (some ⟨b, o, none⟩))) w := by
  simp [go_sem, hx]
theorem x_gF1 (b o : Nat) (hx : ρ x = .pointer (some ⟨b, o, none⟩)) (w : World) : (execOp ρ { dst := d, op := .fieldAddr 176 x 1, type := t, pos := pos, after := af, guard := g }).run Tryz.prog w = .ok (.value (.pointer (some ⟨b, o + 1, none⟩))) w := by
  simp [go_sem, hx]
theorem x_gF2 (b o : Nat) (hx : ρ x = .pointer (some ⟨b, o, none⟩)) (w : World) : (execOp ρ { dst := d, op := .fieldAddr 176 x 2, type := t, pos := pos, after := af, guard := g }).run Tryz.prog w = .ok (.value (.pointer (some ⟨b, o + 2, none⟩))) w := by
  simp [go_sem, hx]
theorem x_nilP (b o : Nat) (hx : ρ x = .pointer (some ⟨b, o, none⟩)) (w : World) : (execOp ρ { dst := d, op := .nilCheck x, type := t, pos := pos, after := af, guard := g }).run Tryz.prog w = .ok (.value (.pointer (some ⟨b, o, none⟩))) w := by
  simp [go_sem, hx]
theorem x_ldIs (b o : Nat) (u : Value) (hx : ρ x = .pointer (some ⟨b, o, none⟩)) (w : World) (hc : w.cell? ⟨b, o, none⟩ = some u) : (execOp ρ { dst := d, op := .load 36 x, type := t, pos := pos, after := af, guard := g }).run Tryz.prog w = .ok (.value u) w := by
  simp [go_sem, hx, hc]
theorem x_ldGs (b o : Nat) (u : Value) (hx : ρ x = .pointer (some ⟨b, o, none⟩)) (w : World) (hc : w.cell? ⟨b, o, none⟩ = some u) : (execOp ρ { dst := d, op := .load 143 x, type := t, pos := pos, after := af, guard := g }).run Tryz.prog w = .ok (.value u) w := by
  simp [go_sem, hx, hc]
theorem x_ldI (b o : Nat) (u : Int) (hx : ρ x = .pointer (some ⟨b, o, none⟩)) (w : World) (hc : w.cell? ⟨b, o, none⟩ = some (.int .i64 u)) : (execOp ρ { dst := d, op := .load 3 x, type := t, pos := pos, after := af, guard := g }).run Tryz.prog w = .ok (.value (.int .i64 u)) w := by
  simp [go_sem, hx, hc]
theorem x_iIdx (b n len cap : Nat) (h : n < len) (hx : ρ x = .slice (some ⟨b, 0, none⟩) len cap) (hy : ρ y = .int .i64 n) (w : World) : (execOp ρ { dst := d, op := .indexAddr 36 x y, type := t, pos := pos, after := af, guard := g }).run Tryz.prog w = .ok (.value (.pointer (some ⟨b, n, none⟩))) w := by
  simp [go_sem, hx, hy, h]
theorem x_gIdx (b n len cap : Nat) (h : n < len) (hx : ρ x = .slice (some ⟨b, 0, none⟩) len cap) (hy : ρ y = .int .i64 n) (w : World) : (execOp ρ { dst := d, op := .indexAddr 143 x y, type := t, pos := pos, after := af, guard := g }).run Tryz.prog w = .ok (.value (.pointer (some ⟨b, n * 3, none⟩))) w := by
  simp [go_sem, hx, hy, h]
theorem x_stI (b o : Nat) (v : Int) (old : Value) (hx : ρ x = .pointer (some ⟨b, o, none⟩)) (hy : ρ y = .int .i64 v) (w : World) (hc : w.cell? ⟨b, o, none⟩ = some old) (hf : w.frozen? ⟨b, o, none⟩ = false) :
    (execOp ρ { dst := d, op := .store 3 x y, type := t, pos := pos, after := af, guard := g }).run Tryz.prog w = .ok .skip (w.setCell ⟨b, o, none⟩ (.int .i64 v)) := by
  simp [go_sem, hx, hy, hc, hf]
end
section
variable {ops : Array Oper} {S : World → Prop} {Q : Exit → Act → World → Prop} {fuel : Nat} {listed : Array Bool} {a : Act} {w : World} {oi oj : Oper} {rest rest' : List Oper}
end
/-- A parting in memory: its states' groups (block bf), the order (bo), the places (bp), the groups (vg), those that have marked states (vt). -/
structure PrtE (W : World) (p n : Nat) (f od pl : Nat → Nat) (gs : List (Nat × Nat × Nat)) (ts : List Nat) (bf bo bp : Nat) (vg vt : Value) : Prop where
  blk : Blk W p #[.slice (some ⟨bf, 0, none⟩) n n, .slice (some ⟨bo, 0, none⟩) n n, .slice (some ⟨bp, 0, none⟩) n n, vg, vt] 145
  kf : Blk W bf (iCells n fun j => (f j : Nat)) 3
  ko : Blk W bo (iCells n fun j => (od j : Nat)) 3
  kp : Blk W bp (iCells n fun j => (pl j : Nat)) 3
  og : OwnJ grpS W vg gs
  ot : OwnJ intS W vt ts
  fo : bf ≠ bo
  fp : bf ≠ bp
  op : bo ≠ bp
  tf : vt.ownBlock ≠ some bf
  to' : vt.ownBlock ≠ some bo
  tp : vt.ownBlock ≠ some bp
/-- Its own blocks. -/
def ownP (p bf bo bp : Nat) (vg vt : Value) (k : Nat) : Prop := k = p ∨ k = bf ∨ k = bo ∨ k = bp ∨ vg.ownBlock = some k ∨ vt.ownBlock = some k
structure PrtAt (W : World) (p n : Nat) (f od pl : Nat → Nat) (gs : List (Nat × Nat × Nat)) (ts : List Nat) (o : Nat → Prop) : Prop where
  ex : ∃ bf bo bp vg vt, PrtE W p n f od pl gs ts bf bo bp vg vt ∧ o = ownP p bf bo bp vg vt
/-- What is neither a parting's own nor new stays. -/
structure Kp (W : World) (o : Nat → Prop) (W' : World) (o' : Nat → Prop) : Prop where
  os : W'.os = W.os
  tape : W'.tape = W.tape
  output : W'.output = W.output
  size : W.heap.size ≤ W'.heap.size
  out : ∀ k, k < W.heap.size → ¬ o k → W'.heap[k]? = W.heap[k]? ∧ ¬ o' k
theorem Kp.trans {W W' W'' : World} {o o' o'' : Nat → Prop} (h : Kp W o W' o') (h' : Kp W' o' W'' o'') : Kp W o W'' o'' :=
  ⟨h'.os.trans h.os, h'.tape.trans h.tape, h'.output.trans h.output, Nat.le_trans h.size h'.size, fun k hk ho => by
    obtain ⟨h1, h2⟩ := h.out k hk ho
    obtain ⟨h3, h4⟩ := h'.out k (Nat.lt_of_lt_of_le hk h.size) h2
    exact ⟨h3.trans h1, h4⟩⟩
theorem Kp.refl (W : World) (o : Nat → Prop) : Kp W o W o := ⟨rfl, rfl, rfl, Nat.le_refl _, fun _ _ h => ⟨rfl, h⟩⟩
theorem Kp.of {W W' : World} {o : Nat → Prop} (h : Below W.heap.size W W') : Kp W o W' o := ⟨h.os, h.tape, h.output, h.size, fun k hk ho => ⟨h.block k hk, ho⟩⟩
theorem PrtE.keep {W W' : World} {p n : Nat} {f od pl : Nat → Nat} {gs : List (Nat × Nat × Nat)} {ts : List Nat} {bf bo bp : Nat} {vg vt : Value} (h : PrtE W p n f od pl gs ts bf bo bp vg vt) (hb : Below W.heap.size W W') : PrtE W' p n f od pl gs ts bf bo bp vg vt :=
  ⟨h.blk.below hb h.blk.lt, h.kf.below hb h.kf.lt, h.ko.below hb h.ko.lt, h.kp.below hb h.kp.lt, h.og.other fun g _ hg => hb.block g hg, h.ot.other fun g _ hg => hb.block g hg, h.fo, h.fp, h.op, h.tf, h.to', h.tp⟩
theorem PrtAt.keep {W W' : World} {p n : Nat} {f od pl : Nat → Nat} {gs : List (Nat × Nat × Nat)} {ts : List Nat} {o : Nat → Prop} (h : PrtAt W p n f od pl gs ts o) (hb : Below W.heap.size W W') : PrtAt W' p n f od pl gs ts o := by
  obtain ⟨bf, bo, bp, vg, vt, h1, h2⟩ := h.ex
  exact ⟨bf, bo, bp, vg, vt, h1.keep hb, h2⟩
theorem heap_set (W : World) (b i : Nat) (u : Value) {k : Nat} (h : k ≠ b) : (W.setCell ⟨b, i, none⟩ u).heap[k]? = W.heap[k]? := Below.heap_setCell _ _ _ _ h
theorem OwnJ.set {α : Type} {S : EncS α} {W : World} {v : Value} {l : List α} {b i : Nat} {u : Value} (h : OwnJ S W v l) (hb : v.ownBlock ≠ some b) : OwnJ S (W.setCell ⟨b, i, none⟩ u) v l :=
  h.other fun g hg _ => heap_set W b i u fun e => hb (by rw [hg, e])
theorem OwnJ.neT {α : Type} {S : EncS α} {W : World} {v : Value} {l : List α} {b : Nat} {c : Array Value} {t : TypeId} (h : OwnJ S W v l) (hb : Blk W b c t) (ht : S.E ≠ t) : v.ownBlock ≠ some b := fun e => by
  obtain ⟨cur, h1⟩ := h.blk e
  exact h1.ne hb ht rfl
theorem updN_cells (n : Nat) (f : Nat → Nat) (i v : Nat) : iCells n (setI (fun j => (f j : Nat)) i (v : Nat)) = iCells n fun j => (updN f i v j : Nat) := by
  congr 1
  funext j
  unfold setI updN
  split <;> rfl
theorem Blk.setN {W : World} {b n : Nat} {f : Nat → Nat} (h : Blk W b (iCells n fun j => (f j : Nat)) 3) (i v : Nat) : Blk (W.setCell ⟨b, i, none⟩ (.int .i64 (v : Nat))) b (iCells n fun j => (updN f i v j : Nat)) 3 := by
  have h1 := h.set i (.int .i64 (v : Nat))
  rw [iCells_set, updN_cells] at h1
  exact h1
theorem PrtE.setO {W : World} {p n : Nat} {f od pl : Nat → Nat} {gs : List (Nat × Nat × Nat)} {ts : List Nat} {bf bo bp : Nat} {vg vt : Value} (h : PrtE W p n f od pl gs ts bf bo bp vg vt) (i v : Nat) : PrtE (W.setCell ⟨bo, i, none⟩ (.int .i64 (v : Nat))) p n f (updN od i v) pl gs ts bf bo bp vg vt :=
  ⟨h.blk.setOther _ _ (h.blk.ne h.ko (by decide)), h.kf.setOther _ _ h.fo, h.ko.setN i v, h.kp.setOther _ _ (Ne.symm h.op), h.og.set (h.og.neT h.ko (by decide)), h.ot.set h.to', h.fo, h.fp, h.op, h.tf, h.to', h.tp⟩
theorem PrtE.setP {W : World} {p n : Nat} {f od pl : Nat → Nat} {gs : List (Nat × Nat × Nat)} {ts : List Nat} {bf bo bp : Nat} {vg vt : Value} (h : PrtE W p n f od pl gs ts bf bo bp vg vt) (i v : Nat) : PrtE (W.setCell ⟨bp, i, none⟩ (.int .i64 (v : Nat))) p n f od (updN pl i v) gs ts bf bo bp vg vt :=
  ⟨h.blk.setOther _ _ (h.blk.ne h.kp (by decide)), h.kf.setOther _ _ h.fp, h.ko.setOther _ _ h.op, h.kp.setN i v, h.og.set (h.og.neT h.kp (by decide)), h.ot.set h.tp, h.fo, h.fp, h.op, h.tf, h.to', h.tp⟩
theorem PrtE.setF {W : World} {p n : Nat} {f od pl : Nat → Nat} {gs : List (Nat × Nat × Nat)} {ts : List Nat} {bf bo bp : Nat} {vg vt : Value} (h : PrtE W p n f od pl gs ts bf bo bp vg vt) (i v : Nat) : PrtE (W.setCell ⟨bf, i, none⟩ (.int .i64 (v : Nat))) p n (updN f i v) od pl gs ts bf bo bp vg vt :=
  ⟨h.blk.setOther _ _ (h.blk.ne h.kf (by decide)), h.kf.setN i v, h.ko.setOther _ _ (Ne.symm h.fo), h.kp.setOther _ _ (Ne.symm h.fp), h.og.set (h.og.neT h.kf (by decide)), h.ot.set h.tf, h.fo, h.fp, h.op, h.tf, h.to', h.tp⟩
theorem Kp.set {W : World} {o : Nat → Prop} (b i : Nat) (u : Value) (hb : o b) : Kp W o (W.setCell ⟨b, i, none⟩ u) o :=
  ⟨rfl, rfl, rfl, by rw [size_setCell]; exact Nat.le_refl _, fun k _ ho => ⟨heap_set W b i u fun e => ho (e ▸ hb), ho⟩⟩
theorem PrtE.c {W : World} {p n : Nat} {f od pl : Nat → Nat} {gs : List (Nat × Nat × Nat)} {ts : List Nat} {bf bo bp : Nat} {vg vt : Value} (h : PrtE W p n f od pl gs ts bf bo bp vg vt) :
    W.cell? ⟨p, 0, none⟩ = some (.slice (some ⟨bf, 0, none⟩) n n) ∧ W.cell? ⟨p, 1, none⟩ = some (.slice (some ⟨bo, 0, none⟩) n n) ∧ W.cell? ⟨p, 2, none⟩ = some (.slice (some ⟨bp, 0, none⟩) n n) ∧ W.cell? ⟨p, 3, none⟩ = some vg ∧ W.cell? ⟨p, 4, none⟩ = some vt :=
  ⟨h.blk.cell 0, h.blk.cell 1, h.blk.cell 2, h.blk.cell 3, h.blk.cell 4⟩
theorem Blk.cI {W : World} {b n : Nat} {f : Nat → Int} (h : Blk W b (iCells n f) 3) {i : Nat} (hi : i < n) : W.cell? ⟨b, i, none⟩ = some (.int .i64 (f i)) := by rw [h.cell, iCells_get _ _ hi]
end Go.Proofs.YtjcfnmjjkadaeaaGreatDoor
/- Package alike's put. -/
namespace Go.Proofs.YtjcfnmjjkadaeaaGreatDoor
set_option maxRecDepth 100000
set_option linter.unusedSimpArgs false
set_option linter.unusedVariables false
open Go.RowKit Go.Shelf

set_option maxHeartbeats 1000000 in
theorem put_any {W : World} {p n : Nat} {f od pl : Nat → Nat} {gs : List (Nat × Nat × Nat)} {ts : List Nat} {bf bo bp : Nat} {vg vt : Value} (he : PrtE W p n f od pl gs ts bf bo bp vg vt) (q i : Nat) (hq : q < n) (hi : i < n) :
    Calls Tryz.prog 124 #[PT p, .int .i64 q, .int .i64 i] W fun e w' => e = .returned (.tuple #[]) ∧ PrtE w' p n f (updN od i q) (updN pl q i) gs ts bf bo bp vg vt ∧ Kp W (ownP p bf bo bp vg vt) w' (ownP p bf bo bp vg vt) := by
  have hX0 : Below W.heap.size W { W with drawn := W.drawn + 1 } := ⟨rfl, rfl, rfl, Nat.le_refl _, fun _ _ => rfl⟩
  have HE := hide (he.keep hX0)
  have HK := hide (Kp.of (o := ownP p bf bo bp vg vt) hX0)
  clear he hX0
  go_enter Tryz.func124, Tryz.ntmps124
  go_wp2
  try rw [show Value.pointer (some ⟨p, 0, none⟩) = PT p from rfl]
  refine wp_region_noPanic (wp_region_held (S := fun X => X.cell? ⟨p, 1, none⟩ = some (.slice (some ⟨bo, 0, none⟩) n n) ∧ X.cell? ⟨p, 2, none⟩ = some (.slice (some ⟨bp, 0, none⟩) n n)) (by kernel_rfl) ?_)
  show wpAnyH _ _ _ _ _ 16 #[false, false, false, false, false, false, false, false, false, false, false, false, false, false, false, false] _ _
  generalize ({ W with drawn := W.drawn + 1 } : World) = X at HE HK ⊢
  have hE := HE.out
  have hS : X.cell? ⟨p, 1, none⟩ = some (.slice (some ⟨bo, 0, none⟩) n n) ∧ X.cell? ⟨p, 2, none⟩ = some (.slice (some ⟨bp, 0, none⟩) n n) := ⟨hE.c.2.1, hE.c.2.2.1⟩
  refine h_take 0 (PT p) rfl (by kernel_rfl) (by kernel_rfl) (by kernel_rfl) rfl (fun w hw => x_move _ _ _ _ _ _ _ _ rfl w) hS ?_
  simp only [Act.put, List.setIfInBounds_toArray, List.set_cons_succ, List.set_cons_zero]
  refine h_take 1 (PT p) rfl (by kernel_rfl) (by kernel_rfl) (by kernel_rfl) rfl (fun w hw => x_nilCheck _ _ _ _ _ _ _ _ rfl w) hS ?_
  simp only [Act.put, List.setIfInBounds_toArray, List.set_cons_succ, List.set_cons_zero]
  refine h_take 2 (.pointer (some ⟨p, 1, none⟩)) rfl (by kernel_rfl) (by kernel_rfl) (by kernel_rfl) rfl (fun w hw => x_akF1 _ _ _ _ _ _ _ p rfl w) hS ?_
  simp only [Act.put, List.setIfInBounds_toArray, List.set_cons_succ, List.set_cons_zero]
  refine h_take 3 (.slice (some ⟨bo, 0, none⟩) n n) rfl (by kernel_rfl) (by kernel_rfl) (by kernel_rfl) rfl (fun w hw => x_ldIs _ _ _ _ _ _ _ p 1 (.slice (some ⟨bo, 0, none⟩) n n) rfl w (hw.1)) hS ?_
  simp only [Act.put, List.setIfInBounds_toArray, List.set_cons_succ, List.set_cons_zero]
  refine h_take 4 (.int .i64 i) rfl (by kernel_rfl) (by kernel_rfl) (by kernel_rfl) rfl (fun w hw => x_move _ _ _ _ _ _ _ _ rfl w) hS ?_
  simp only [Act.put, List.setIfInBounds_toArray, List.set_cons_succ, List.set_cons_zero]
  refine h_take 5 (PT p) rfl (by kernel_rfl) (by kernel_rfl) (by kernel_rfl) rfl (fun w hw => x_move _ _ _ _ _ _ _ _ rfl w) hS ?_
  simp only [Act.put, List.setIfInBounds_toArray, List.set_cons_succ, List.set_cons_zero]
  refine h_take 6 (PT p) rfl (by kernel_rfl) (by kernel_rfl) (by kernel_rfl) rfl (fun w hw => x_nilCheck _ _ _ _ _ _ _ _ rfl w) hS ?_
  simp only [Act.put, List.setIfInBounds_toArray, List.set_cons_succ, List.set_cons_zero]
  refine h_take 7 (.pointer (some ⟨p, 2, none⟩)) rfl (by kernel_rfl) (by kernel_rfl) (by kernel_rfl) rfl (fun w hw => x_akF2 _ _ _ _ _ _ _ p rfl w) hS ?_
  simp only [Act.put, List.setIfInBounds_toArray, List.set_cons_succ, List.set_cons_zero]
  refine h_take 8 (.slice (some ⟨bp, 0, none⟩) n n) rfl (by kernel_rfl) (by kernel_rfl) (by kernel_rfl) rfl (fun w hw => x_ldIs _ _ _ _ _ _ _ p 2 (.slice (some ⟨bp, 0, none⟩) n n) rfl w (hw.2)) hS ?_
  simp only [Act.put, List.setIfInBounds_toArray, List.set_cons_succ, List.set_cons_zero]
  refine h_take 9 (.int .i64 q) rfl (by kernel_rfl) (by kernel_rfl) (by kernel_rfl) rfl (fun w hw => x_move _ _ _ _ _ _ _ _ rfl w) hS ?_
  simp only [Act.put, List.setIfInBounds_toArray, List.set_cons_succ, List.set_cons_zero]
  refine h_take 10 (.int .i64 q) rfl (by kernel_rfl) (by kernel_rfl) (by kernel_rfl) rfl (fun w hw => x_move _ _ _ _ _ _ _ _ rfl w) hS ?_
  simp only [Act.put, List.setIfInBounds_toArray, List.set_cons_succ, List.set_cons_zero]
  refine h_take 11 (.int .i64 i) rfl (by kernel_rfl) (by kernel_rfl) (by kernel_rfl) rfl (fun w hw => x_move _ _ _ _ _ _ _ _ rfl w) hS ?_
  simp only [Act.put, List.setIfInBounds_toArray, List.set_cons_succ, List.set_cons_zero]
  refine h_take 12 (.pointer (some ⟨bo, i, none⟩)) rfl (by kernel_rfl) (by kernel_rfl) (by kernel_rfl) rfl (fun w hw => x_iIdx _ _ _ _ _ _ _ _ bo i n n (hi) rfl rfl w) hS ?_
  simp only [Act.put, List.setIfInBounds_toArray, List.set_cons_succ, List.set_cons_zero]
  have e1 := hE.setO i q
  have e12 := e1.setP q i
  have oO : ownP p bf bo bp vg vt bo := .inr (.inr (.inl rfl))
  have oP : ownP p bf bo bp vg vt bp := .inr (.inr (.inr (.inl rfl)))
  have HK12 := hide (HK.out.trans ((Kp.set (W := X) bo i (.int .i64 (q : Nat)) oO).trans (Kp.set bp q (.int .i64 (i : Nat)) oP)))
  refine h_step 13 _ rfl (by kernel_rfl) rfl (x_stI _ _ _ _ _ _ _ _ bo i (q : Nat) _ rfl rfl _ (hE.ko.cI hi) (hE.ko.frozen i)) ⟨e1.c.2.1, e1.c.2.2.1⟩ ?_
  have hS := (⟨e1.c.2.1, e1.c.2.2.1⟩ : _ ∧ _)
  refine h_take 14 (.pointer (some ⟨bp, q, none⟩)) rfl (by kernel_rfl) (by kernel_rfl) (by kernel_rfl) rfl (fun w hw => x_iIdx _ _ _ _ _ _ _ _ bp q n n (hq) rfl rfl w) hS ?_
  simp only [Act.put, List.setIfInBounds_toArray, List.set_cons_succ, List.set_cons_zero]
  refine h_step 15 _ rfl (by kernel_rfl) rfl (x_stI _ _ _ _ _ _ _ _ bp q (i : Nat) _ rfl rfl _ (e1.kp.cI hq) (e1.kp.frozen q)) ⟨e12.c.2.1, e12.c.2.2.1⟩ ?_
  refine wpAnyH_done (by kernel_rfl) ?_ _
  refine NoPanic.normal ?_
  have HE12 := hide e12
  clear hS hE e1 e12
  go_wp2
  exact ⟨rfl, .tuple #[], by simp [results, Tryz.results124, go_sem], rfl, HE12.out, HK12.out⟩
end Go.Proofs.YtjcfnmjjkadaeaaGreatDoor
/- Package alike's mark. -/
namespace Go.Proofs.YtjcfnmjjkadaeaaGreatDoor
set_option maxRecDepth 100000
set_option linter.unusedSimpArgs false
set_option linter.unusedVariables false
open Go.RowKit Go.Shelf

theorem x_bsI (ρ : Operand → Value) (d : Option Tmp) (x : Operand) (ty : TypeId) (pos : String) (af : Array Edge) (g : Option (Nat × Bool)) (v : Int) (hx : ρ x = .int .i64 v) (w : World) :
    (execOp ρ { dst := d, op := .buildSlice 36 1 #[(0, x)], type := ty, pos := pos, after := af, guard := g }).run Tryz.prog w = .ok (.value (.slice (some ⟨w.heap.size, 0, none⟩) 1 1)) (w.alloc (.cells #[.int .i64 v] 3)) := by
  simp [go_sem, hx]
theorem x_stIs (ρ : Operand → Value) (d : Option Tmp) (x y : Operand) (t : TypeId) (pos : String) (af : Array Edge) (g : Option (Nat × Bool)) (b o : Nat) (v : Value) (old : Value) (a : Option Addr) (m c : Nat) (hv : v = .slice a m c) (hx : ρ x = .pointer (some ⟨b, o, none⟩)) (hy : ρ y = v) (w : World) (hc : w.cell? ⟨b, o, none⟩ = some old) (hf : w.frozen? ⟨b, o, none⟩ = false) :
    (execOp ρ { dst := d, op := .store 36 x y, type := t, pos := pos, after := af, guard := g }).run Tryz.prog w = .ok .skip (w.setCell ⟨b, o, none⟩ v) := by
  subst hv
  simp [go_sem, hx, hy, hc, hf]
section
variable {ops : Array Oper} {S : World → Prop} {Q : Exit → Act → World → Prop} {fuel : Nat} {listed : Array Bool} {a : Act} {w : World} {oi oj : Oper} {rest rest' : List Oper}
/-- A load and an operation that makes memory, in either order. -/
theorem h_ldmk (i j : Nat) (v u : Value) (w' : World) (hi : ops.toList.drop i = oi :: rest) (hj : ops.toList.drop j = oj :: rest') (hr : Region.ready .any ops listed = [i, j]) (hri : Region.ready .any ops (listed.setIfInBounds i true) = [j]) (hrj : Region.ready .any ops (listed.setIfInBounds j true) = [i])
    (hwi : Region.wanted oi (yielded ops a.tmps) = true) (hwj : Region.wanted oj (yielded ops a.tmps) = true) (hwi' : Region.wanted oi (yielded ops (a.put oj.dst u).tmps) = true) (hwj' : Region.wanted oj (yielded ops (a.put oi.dst v).tmps) = true)
    (h1 : (execOp a.eval oi).run Tryz.prog w = .ok (.value v) w) (h1' : (execOp (a.put oj.dst u).eval oi).run Tryz.prog w' = .ok (.value v) w')
    (h2 : (execOp a.eval oj).run Tryz.prog w = .ok (.value u) w') (h2' : (execOp (a.put oi.dst v).eval oj).run Tryz.prog w = .ok (.value u) w') (hS : S w) (hS' : S w')
    (hl : (listed.setIfInBounds i true).setIfInBounds j true = (listed.setIfInBounds j true).setIfInBounds i true) (hc : (a.put oj.dst u).put oi.dst v = (a.put oi.dst v).put oj.dst u)
    (h : wpAnyH Tryz.prog .any ops (NoPanic Q) S fuel ((listed.setIfInBounds i true).setIfInBounds j true) ((a.put oi.dst v).put oj.dst u) w') : wpAnyH Tryz.prog .any ops (NoPanic Q) S (fuel + 2) listed a w := by
  refine wpAnyH_all hr (by simp) ?_
  intro k hk
  rcases List.mem_cons.1 hk with rfl | hk
  · unfold wpOp
    simp only [at_drop hi, hwi, if_true]
    refine .inl ?_
    unfold Oper.wp
    rw [h1, Oper.upon_value]
    exact ⟨hS, h_alloc j u w' hj hri hwj' h2' hS' h⟩
  · obtain rfl : k = j := by simpa using hk
    unfold wpOp
    simp only [at_drop hj, hwj, if_true]
    refine .inl ?_
    unfold Oper.wp
    rw [h2, Oper.upon_value]
    exact ⟨hS', h_alloc i v w' hi hrj hwi' h1' hS' (by rw [hc, ← hl]; exact h)⟩
end
/-- A group's marked ones end elsewhere. -/
theorem grp_mark {W : World} {gb L cap : Nat} {gs : List (Nat × Nat × Nat)} (h : OwnJ grpS W (.slice (some ⟨gb, 0, none⟩) L cap) gs) {k a m b : Nat} (hk : gs[k]? = some (a, m, b)) (m' : Nat) : OwnJ grpS (W.setCell ⟨gb, k * 3 + 1, none⟩ (.int .i64 (m' : Nat))) (.slice (some ⟨gb, 0, none⟩) L cap) (gs.set k (a, m', b)) := by
  have hkl := (List.getElem?_eq_some_iff.1 hk).1
  obtain ⟨g, c, e, -, -, -, hcell⟩ := h.cell (by omega)
  injection e with e _ _
  injection e with e
  injection e with e _
  subst e
  refine h.put k (a, m', b) hkl fun cur hb => ⟨_, hb.set (k * 3 + 1) (.int .i64 (m' : Nat)), by simp, fun j hj => ?_⟩
  have h0 := hcell k _ hk 0 (by decide)
  have h2 := hcell k _ hk 2 (by decide)
  rw [hb.cell] at h0 h2
  show _ = if k * 3 ≤ j ∧ j < k * 3 + 3 then _ else _
  rw [Array.getElem?_setIfInBounds]
  by_cases e1 : k * 3 + 1 = j
  · rw [if_pos e1, if_pos (by omega), if_pos (by omega)]
    have : j - k * 3 = 1 := by omega
    show _ = (grpS.enc (a, m', b))[j - k * 3]?
    rw [this]; rfl
  · rw [if_neg e1]
    by_cases e2 : k * 3 ≤ j ∧ j < k * 3 + 3
    · rw [if_pos e2]
      obtain e3 | e3 : j = k * 3 ∨ j = k * 3 + 2 := by omega
      · subst e3
        show _ = (grpS.enc (a, m', b))[k * 3 - k * 3]?
        rw [Nat.sub_self]
        exact h0
      · subst e3
        show _ = (grpS.enc (a, m', b))[k * 3 + 2 - k * 3]?
        rw [Nat.add_sub_cancel_left]
        exact h2
    · rw [if_neg e2]
theorem PrtE.setG {W : World} {p n : Nat} {f od pl : Nat → Nat} {gs gs' : List (Nat × Nat × Nat)} {ts : List Nat} {bf bo bp gb L cap i : Nat} {u : Value} {vt : Value} (h : PrtE W p n f od pl gs ts bf bo bp (.slice (some ⟨gb, 0, none⟩) L cap) vt) (hl : 0 < gs.length)
    (hg : OwnJ grpS (W.setCell ⟨gb, i, none⟩ u) (.slice (some ⟨gb, 0, none⟩) L cap) gs') : PrtE (W.setCell ⟨gb, i, none⟩ u) p n f od pl gs' ts bf bo bp (.slice (some ⟨gb, 0, none⟩) L cap) vt := by
  obtain ⟨cur, hb⟩ := h.og.blk (g := gb) rfl
  exact ⟨h.blk.setOther _ _ (h.blk.ne hb (by decide)), h.kf.setOther _ _ (h.kf.ne hb (by decide)), h.ko.setOther _ _ (h.ko.ne hb (by decide)), h.kp.setOther _ _ (h.kp.ne hb (by decide)), hg, h.ot.set (h.ot.neT hb (by decide)), h.fo, h.fp, h.op, h.tf, h.to', h.tp⟩
/-- The list of touched groups has grown, elsewhere perhaps. -/
theorem PrtE.touch {W W' : World} {p n : Nat} {f od pl : Nat → Nat} {gs : List (Nat × Nat × Nat)} {ts ts' : List Nat} {bf bo bp : Nat} {vg vt vt' : Value} (h : PrtE W p n f od pl gs ts bf bo bp vg vt) (ha : AppJ W W' vt vt') (ho : OwnJ intS W' vt' ts') :
    PrtE (W'.setCell ⟨p, 4, none⟩ vt') p n f od pl gs ts' bf bo bp vg vt' ∧ Kp W (ownP p bf bo bp vg vt) (W'.setCell ⟨p, 4, none⟩ vt') (ownP p bf bo bp vg vt') := by
  have hpn := h.ot.neT h.blk (by decide)
  have hk : ∀ {b c t}, Blk W b c t → vt.ownBlock ≠ some b → Blk W' b c t := fun hb hn => (ha.other _ hb.lt hn).trans hb
  have kb := hk h.blk hpn
  have kf := hk h.kf h.tf
  have ko := hk h.ko h.to'
  have kp := hk h.kp h.tp
  have hown : ∀ {b c t}, Blk W b c t → vt.ownBlock ≠ some b → vt'.ownBlock ≠ some b := fun hb hn e => by
    rcases ha.own with e2 | e2
    · exact hn (e2 ▸ e)
    · rw [e2] at e
      injection e with e
      have := hb.lt
      omega
  have og : OwnJ grpS W' vg gs := h.og.other fun g hg hlt => ha.other g hlt fun e => by
    obtain ⟨c, hb⟩ := h.og.blk hg
    exact h.ot.neT hb (by decide) e
  have hpn' : vt'.ownBlock ≠ some p := hown h.blk hpn
  refine ⟨⟨kb.set 4 vt', kf.setOther _ _ (h.kf.ne h.blk (by decide)), ko.setOther _ _ (h.ko.ne h.blk (by decide)), kp.setOther _ _ (h.kp.ne h.blk (by decide)), og.set (h.og.neT h.blk (by decide)), ho.set hpn', h.fo, h.fp, h.op, hown h.kf h.tf, hown h.ko h.to', hown h.kp h.tp⟩, ha.os, ha.tape, ha.output, by rw [size_setCell]; exact ha.size, fun k hkl hno => ?_⟩
  have k1 : k ≠ p := fun e => hno (.inl e)
  have k2 : vt.ownBlock ≠ some k := fun e => hno (.inr (.inr (.inr (.inr (.inr e)))))
  refine ⟨(heap_set W' p 4 vt' k1).trans (ha.other k hkl k2), fun h2 => hno ?_⟩
  rcases h2 with h2 | h2 | h2 | h2 | h2 | h2
  · exact .inl h2
  · exact .inr (.inl h2)
  · exact .inr (.inr (.inl h2))
  · exact .inr (.inr (.inr (.inl h2)))
  · exact .inr (.inr (.inr (.inr (.inl h2))))
  · rcases ha.own with e2 | e2
    · exact .inr (.inr (.inr (.inr (.inr (e2 ▸ h2)))))
    · rw [e2] at h2
      injection h2 with h2
      omega
end Go.Proofs.YtjcfnmjjkadaeaaGreatDoor
