/- Texts of this claim put together: RowS, AuR, MathSh, AuA. -/
import Derived.Test.YtjcfnmjjkadaeaaGreatDoorJoinReO
import Derived.Deep.AppendLies
import Derived.ArgAppend
import Derived.Test.YtjcfnmjjkadaeaaGreatDoorJoinBudA
import Derived.Shelf.Lay
import Derived.Shelf.LaySoft
import Derived.Ground.SlgnProg
import Derived.Shelf.SlicesE.Reverse
import Derived.Test.YtjcfnmjjkadaeaaGreatDoorJoinSetD
import Derived.Test.YtjcfnmjjkadaeaaGreatDoorJoinDvC
/- Rows of one's own, of elements of several cells: append, and a store into one. -/
namespace Go.Proofs.YtjcfnmjjkadaeaaGreatDoor
set_option maxRecDepth 100000
set_option linter.unusedSimpArgs false
set_option linter.unusedVariables false
open Go.RowKit Go.Shelf

/-- How elements lie: their cells (k of them), the type, what a place that is none yet holds. -/
structure EncS (α : Type) where
  enc : α → List Value
  k : Nat
  E : TypeId
  zc : List Value
  len : ∀ x, (enc x).length = k
  one : ∀ x, ∀ u ∈ enc x, u.oneCell' = true
  pos : 0 < k
  zlen : zc.length = k
section
variable {α : Type} (S : EncS α)
def EncS.flat (l : List α) : List Value := l.flatMap S.enc
theorem EncS.flat_length (l : List α) : (S.flat l).length = l.length * S.k := by
  induction l with
  | nil => simp [EncS.flat]
  | cons x r ih =>
    have e : S.flat (x :: r) = S.enc x ++ S.flat r := by simp [EncS.flat]
    rw [e, List.length_append, ih, S.len, List.length_cons, Nat.succ_mul, Nat.add_comm]
theorem EncS.flat_append (a b : List α) : S.flat (a ++ b) = S.flat a ++ S.flat b := by simp [EncS.flat]
theorem EncS.flat_one (x : α) : S.flat [x] = S.enc x := by simp [EncS.flat]
theorem EncS.flat_get (l : List α) : ∀ (i : Nat) q, l[i]? = some q → ∀ j, j < S.k → (S.flat l)[i * S.k + j]? = (S.enc q)[j]? := by
  induction l with
  | nil => intro i q hk; simp at hk
  | cons x r ih =>
    intro i q hk j hj
    have e : S.flat (x :: r) = S.enc x ++ S.flat r := by simp [EncS.flat]
    rw [e]
    cases i with
    | zero =>
      obtain rfl : x = q := by simpa using hk
      rw [List.getElem?_append_left (by rw [S.len]; omega)]
      simp
    | succ i =>
      have e2 : (i + 1) * S.k + j - S.k = i * S.k + j := by rw [Nat.succ_mul]; omega
      rw [List.getElem?_append_right (by rw [S.len, Nat.succ_mul]; omega), S.len, e2, ih i q (by simpa using hk) j hj]
/-- Such a row; behind its end zero values alone. -/
def OwnS (W : World) (base : Nat) (v : Value) (l : List α) : Prop :=
  (v = .slice none 0 0 ∧ l = []) ∨ ∃ g cap cur, v = .slice (some ⟨g, 0, none⟩) l.length cap ∧ base ≤ g ∧ Blk W g cur S.E ∧ l.length ≤ cap ∧ cap ≤ maxLen ∧ cur.size = cap * S.k ∧ cur.toList.take (l.length * S.k) = S.flat l ∧ ∀ (j : Nat) x, l.length * S.k ≤ j → cur[j]? = some x → x ∈ S.zc
variable {S}
theorem OwnS.nil (W : World) (base : Nat) : OwnS S W base (.slice none 0 0) [] := .inl ⟨rfl, rfl⟩
theorem OwnS.other {W W' : World} {base : Nat} {v : Value} {l : List α} (h : OwnS S W base v l) (hk : ∀ g, v.ownBlock = some g → base ≤ g → g < W.heap.size → W'.heap[g]? = W.heap[g]?) : OwnS S W' base v l := by
  rcases h with h | ⟨g, cap, cur, rfl, h1, h2, h3⟩
  · exact .inl h
  · exact .inr ⟨g, cap, cur, rfl, h1, (hk g rfl h1 h2.lt).trans h2, h3⟩
theorem OwnS.keep {W W' : World} {base : Nat} {v : Value} {l : List α} (h : OwnS S W base v l) (hb : Below W.heap.size W W') : OwnS S W' base v l := h.other fun g _ _ hg => hb.block g hg
theorem OwnS.lower {W : World} {base base' : Nat} {v : Value} {l : List α} (h : OwnS S W base v l) (hb : base' ≤ base) : OwnS S W base' v l := by
  rcases h with h | ⟨g, cap, cur, e, h1, h2⟩
  · exact .inl h
  · exact .inr ⟨g, cap, cur, e, Nat.le_trans hb h1, h2⟩
theorem OwnS.slice {W : World} {base : Nat} {v : Value} {l : List α} (h : OwnS S W base v l) : ∃ a cap, v = .slice a l.length cap ∧ l.length ≤ cap ∧ cap ≤ maxLen := by
  rcases h with ⟨rfl, rfl⟩ | ⟨g, cap, cur, rfl, -, -, h, h2, -⟩
  · exact ⟨none, 0, rfl, by simp, Nat.zero_le _⟩
  · exact ⟨_, _, rfl, h, h2⟩
theorem OwnS.cell {W : World} {base : Nat} {v : Value} {l : List α} (h : OwnS S W base v l) (h0 : 0 < l.length) :
    ∃ g cap, v = .slice (some ⟨g, 0, none⟩) l.length cap ∧ base ≤ g ∧ g < W.heap.size ∧ l.length ≤ cap ∧ (∃ cur, Blk W g cur S.E) ∧ ∀ (i : Nat) q, l[i]? = some q → ∀ j, j < S.k → W.cell? ⟨g, i * S.k + j, none⟩ = (S.enc q)[j]? := by
  rcases h with ⟨rfl, rfl⟩ | ⟨g, cap, cur, rfl, h1, h2, h3, h4, h5, h6, -⟩
  · simp at h0
  · refine ⟨g, cap, rfl, h1, h2.lt, h3, ⟨cur, h2⟩, fun i q hk j hj => ?_⟩
    have hkl := (List.getElem?_eq_some_iff.1 hk).1
    have hlt : i * S.k + j < l.length * S.k := by
      have := Nat.mul_le_mul_right S.k (show i + 1 ≤ l.length by omega)
      rw [Nat.succ_mul] at this
      omega
    rw [h2.cell, ← S.flat_get l i q hk j hj, ← h6, List.getElem?_take, if_pos hlt]
    simp
/-- From W to W' such a row grew. -/
structure AppS (S : EncS α) (W W' : World) (base : Nat) (v v' : Value) : Prop where
  below : Below base W W'
  size : W.heap.size ≤ W'.heap.size
  other : ∀ k, k < W.heap.size → v.ownBlock ≠ some k → W'.heap[k]? = W.heap[k]?
  block : ∀ k c t, Blk W k c t → t ≠ S.E → Blk W' k c t
  cell : ∀ b i x, W.cell? ⟨b, i, none⟩ = some x → x ∉ S.zc → W'.cell? ⟨b, i, none⟩ = some x
  own : v'.ownBlock = v.ownBlock ∨ v'.ownBlock = some W.heap.size
theorem zeroS (S : EncS α) (z : Value) (hz : z.cells = S.zc.toArray) (m j : Nat) (x : Value) (h : (Builtin.zeroCells z.cells m)[j]? = some x) : x ∈ S.zc := by
  rw [hz] at h
  unfold Builtin.zeroCells at h
  rw [Array.getElem?_map] at h
  obtain ⟨i, -, h⟩ := Option.map_eq_some_iff.1 h
  have hp := S.pos
  have hl := S.zlen
  have hi : i % S.zc.toArray.size < S.zc.length := by rw [List.size_toArray]; exact Nat.mod_lt _ (by omega)
  have hi2 : i % S.zc.toArray.size < S.zc.toArray.size := by rw [List.size_toArray] at hi ⊢; exact hi
  rw [getElem!_pos S.zc.toArray (i % S.zc.toArray.size) hi2] at h
  rw [← h]
  simp
set_option maxHeartbeats 2000000 in
/-- append of an element. -/
theorem run_appendRow {W : World} {base : Nat} {v : Value} {l : List α} (T ty : TypeId) (z : Value) (by0 : Nat) (hT : Tryz.prog.underlying T = some (.slice S.E)) (hI : (Tryz.prog.info? S.E).map (fun i => (i.zero, i.size, i.bytes)) = some (some z, S.k, by0)) (hz : z.cells = S.zc.toArray) (hby : by0 ≤ 1024)
    (h : OwnS S W base v l) (ad : Addr) (c : Nat) (q : α) (hnews : ∀ j u, (S.enc q)[j]? = some u → W.cell? (ad.add j) = some u) (hl : l.length + 1 ≤ 4294967296) (hbase : base ≤ W.heap.size) :
    ∃ v' W', (Builtin.append_ #[T, T] ty #[v, .slice (some ad) 1 c]).run Tryz.prog W = .ok v' W' ∧ OwnS S W' base v' (l ++ [q]) ∧ AppS S W W' base v v' := by
  obtain ⟨i, hi, hz0, hz1, hz2⟩ := info_parts hI
  have hlen : (l ++ [q]).length = l.length + 1 := by simp
  have hfl : (S.flat l).length = l.length * S.k := S.flat_length l
  have hfa : S.flat (l ++ [q]) = S.flat l ++ S.enc q := by rw [S.flat_append, S.flat_one]
  have hes : (S.enc q).length = S.k := S.len q
  have hk := S.pos
  have hm1 : (l.length + 1) * S.k = l.length * S.k + S.k := Nat.succ_mul _ _
  have hb1 : (l.length + 1) * by0 ≤ 4294967296 * 1024 := Nat.mul_le_mul hl hby
  have hfit : ∀ old, old < l.length + 1 → Builtin.nextslicecap (l.length + 1) old * i.bytes ≤ 281474976710656 := fun old ho => growslice_fits ho (by rw [hz2]; omega)
  have fin : ∀ (K : Nat) W', l.length + 1 ≤ K → K ≤ maxLen → W' = W.drew.alloc (.cells ((S.flat l ++ S.enc q).toArray ++ Builtin.zeroCells z.cells (K - (l.length + 1))) S.E) →
      OwnS S W' base (.slice (some ⟨W.heap.size, 0, none⟩) (l.length + 1) K) (l ++ [q]) ∧ AppS S W W' base v (.slice (some ⟨W.heap.size, 0, none⟩) (l.length + 1) K) := by
    intro K W' hK hm hW
    have hblk : Blk W' W.heap.size ((S.flat l ++ S.enc q).toArray ++ Builtin.zeroCells z.cells (K - (l.length + 1))) S.E := by rw [hW]; exact heap_alloc_new W.drew _
    have hold : ∀ k, k < W.heap.size → W'.heap[k]? = W.heap[k]? := fun k hk => by rw [hW]; exact heap_alloc_old W.drew _ hk
    have hsz : W.heap.size ≤ W'.heap.size := by rw [hW]; simp
    have hzs : (Builtin.zeroCells z.cells (K - (l.length + 1))).size = (K - (l.length + 1)) * S.k := by rw [hz]; simp [Builtin.zeroCells, S.zlen]
    refine ⟨.inr ⟨_, K, _, by rw [hlen], hbase, hblk, by rw [hlen]; exact hK, hm, ?_, ?_, ?_⟩, ⟨⟨by rw [hW]; rfl, by rw [hW]; rfl, by rw [hW]; rfl, hsz, fun k hk => hold k (by omega)⟩, hsz, fun k hk _ => hold k hk, fun k c t hb _ => (hold k hb.lt).trans hb, fun b i x hc _ => ?_, .inr rfl⟩⟩
    · rw [Array.size_append, hzs, List.size_toArray, List.length_append, hfl, hes, Nat.sub_mul, hm1]
      have := Nat.mul_le_mul_right S.k hK
      rw [hm1] at this
      omega
    · rw [Array.toList_append, hlen, hfa, hm1]
      rw [List.take_append_of_le_length (by simp [hfl, hes])]
      exact List.take_of_length_le (by simp [hfl, hes])
    · intro j x hj hx
      rw [hlen, hm1] at hj
      rw [Array.getElem?_append_right (by simp [hfl, hes]; omega)] at hx
      exact zeroS S z hz _ _ _ hx
    · rw [← hc]; exact World.cell?_of_block (w := W) (hold _ (World.block_lt_of_cell? _ _ hc))
  rcases h with ⟨rfl, rfl⟩ | ⟨g, cap, cur, rfl, hbg, hg, hn, hcap, hcs, htake, hspare⟩
  · have hr := run_append_nil (P := Tryz.prog) (w := W) T ty S.E i _ hT hi hz0 ad 1 c (S.enc q) (by rw [hz1, hes, Nat.one_mul]) hnews (by omega) (by omega) (by rw [hz2]; omega)
    have hge := grownCap_ge W 1 0 S.E
    have hcm : grownCap W 1 0 S.E ≤ maxLen := grownCap_le_maxLen W 1 0 _ (by unfold maxLen; omega)
    refine ⟨_, _, hr, ?_⟩
    have := fin _ _ (by simpa using hge) hcm rfl
    simpa [EncS.flat] using this
  · by_cases hroom : l.length + 1 ≤ cap
    · have hcl0 := Nat.mul_le_mul_right S.k hroom
      rw [hm1] at hcl0
      have hr := run_append_room (P := Tryz.prog) W T ty S.E i hT hi g l.length cap cur hg ad 1 c (S.enc q) (by rw [hz1, hes, Nat.one_mul]) hnews (S.one q) hroom (by rw [hcs, hz1]; omega)
      rw [hz1, hes, ← hm1] at hr
      obtain ⟨c', hc'⟩ : ∃ c' : Array Value, c' = (cur.toList.take (l.length * S.k) ++ S.enc q ++ cur.toList.drop ((l.length + 1) * S.k)).toArray := ⟨_, rfl⟩
      rw [← hc'] at hr
      have hblk' : Blk (W.setRow g c') g c' S.E := setRow_heap W g cur _ _ _ hg
      have hother : ∀ k, k ≠ g → (W.setRow g c').heap[k]? = W.heap[k]? := fun k hk => setRow_other W g k _ hk
      have hsz : (W.setRow g c').heap.size = W.heap.size := by simp
      have hcl : cur.toList.length = cap * S.k := by rw [Array.length_toList, hcs]
      have hcl' : c'.toList = S.flat l ++ S.enc q ++ cur.toList.drop ((l.length + 1) * S.k) := by rw [hc', htake]
      refine ⟨_, _, hr, .inr ⟨g, cap, c', by rw [hlen], hbg, hblk', by rw [hlen]; exact hroom, hcap, ?_, ?_, ?_⟩, ⟨⟨rfl, rfl, rfl, by rw [hsz]; exact Nat.le_refl _, fun k hk => hother k (by omega)⟩, by rw [hsz]; exact Nat.le_refl _, fun k _ hne => hother k (fun e => hne (by rw [e]; rfl)), fun k c2 t hb ht => (hother k fun e => ?_).trans hb, fun b i x hc hx => ?_, .inl rfl⟩⟩
      · rw [← Array.length_toList, hcl', List.length_append, List.length_append, hfl, hes, List.length_drop, hcl]; omega
      · rw [hcl', hlen, hfa, hm1]
        exact List.take_left' (by simp [hfl, hes])
      · intro j x hj hx
        rw [hlen] at hj
        rw [← Array.getElem?_toList, hcl', List.getElem?_append_right (by simp [hfl, hes]; omega), List.getElem?_drop, Array.getElem?_toList] at hx
        refine hspare _ x ?_ hx
        rw [List.length_append, hfl, hes]
        omega
      · subst e
        have e2 := hb.of_cells.symm.trans hg.of_cells
        injection e2 with e2; injection e2 with _ e3
        exact ht e3
      · by_cases e : b = g
        · subst e
          rw [hg.cell] at hc
          rw [hblk'.cell, ← Array.getElem?_toList, hcl']
          have hi4 : i < l.length * S.k := by
            rcases Nat.lt_or_ge i (l.length * S.k) with h | h
            · exact h
            · exact absurd (hspare i _ h hc) hx
          rw [List.append_assoc, List.getElem?_append_left (by rw [hfl]; exact hi4), ← htake, List.getElem?_take, if_pos hi4, Array.getElem?_toList]
          exact hc
        · rw [← hc]; exact World.cell?_of_block (w := W) (hother b e)
    · have hr := run_append_grow (P := Tryz.prog) W T ty S.E i _ hT hi hz0 ⟨g, 0, none⟩ l.length cap (S.flat l) (by rw [hz1, hfl]) (fun j x hj => by
        have hj2 : j < l.length * S.k := by rw [← hfl]; exact (List.getElem?_eq_some_iff.1 hj).1
        rw [Go.WideShapes.add_plain, Nat.zero_add, hg.cell, ← Array.getElem?_toList, ← hj, ← htake, List.getElem?_take, if_pos hj2]) ad 1 c (S.enc q) (by rw [hz1, hes, Nat.one_mul]) hnews (by omega) (by omega) (hfit cap (by omega))
      have hge := grownCap_ge W (l.length + 1) cap S.E
      have hcm : grownCap W (l.length + 1) cap S.E ≤ maxLen := grownCap_le_maxLen W (l.length + 1) cap _ (by unfold maxLen; omega)
      refine ⟨_, _, hr, ?_⟩
      exact fin _ _ hge hcm (by rw [← List.append_toArray])
end
end Go.Proofs.YtjcfnmjjkadaeaaGreatDoor
/- slices.Reverse at bytes. -/
namespace Go.Proofs.YtjcfnmjjkadaeaaGreatDoor
set_option maxRecDepth 100000
set_option linter.unusedSimpArgs false
set_option linter.unusedVariables false
open Go.Shelf Go.RowKit Go.Lib Go.Sort
shelf_lay_g SlLaysE.n35 Slgn 35 at Tryz 104 as revLaidB

def encB (x : Nat) : Value := .int .u8 (x : Int)
/-- Reverse turns the bytes of a row about. -/
theorem revB_any (W : World) (g cap : Nat) (cur : Array Value) (t : TypeId) (bs : List Nat) (hb : Blk W g cur t) (hc : cur.toList.take bs.length = byteV bs) (hn : bs.length ≤ 9223372036854775807) :
    Calls Tryz.prog 104 #[.slice (some ⟨g, 0, none⟩) bs.length cap] W fun e w' => e = .returned (.tuple #[]) ∧ (∃ cur' : Array Value, Blk w' g cur' t ∧ cur'.size = cur.size ∧ cur'.toList.take bs.length = byteV bs.reverse) ∧
      (∀ k, k ≠ g → w'.heap[k]? = W.heap[k]?) ∧ w'.heap.size = W.heap.size ∧ w'.os = W.os ∧ w'.tape = W.tape ∧ w'.output = W.output := by
  have hlen : bs.length ≤ cur.size := by
    have := congrArg List.length hc
    rw [List.length_take, Array.length_toList] at this
    simp [byteV] at this
    omega
  have hget : ∀ j, j < bs.length → cur[j]? = some (encB (bs.getD j 0)) := fun j hj => by
    have h1 : (cur.toList.take bs.length)[j]? = cur[j]? := by rw [List.getElem?_take, if_pos hj, Array.getElem?_toList]
    rw [← h1, hc]
    simp [byteV, encB, List.getD_eq_getElem?_getD, hj]
  have hH : Holds encB W g 0 bs.toArray := fun j hj => by
    have hj : j < bs.length := by simpa using hj
    rw [Nat.zero_add]
    refine ⟨?_, hb.frozen j⟩
    rw [hb.cell, hget j hj, getElem!_pos _ _ (by simpa using hj)]
    simp [List.getD_eq_getElem?_getD, hj]
  have h := AnyE.slices_Reverse revLaidB encB (fun x => rfl) g 0 cap bs W hH hn
  refine Calls.mono h ?_
  rintro e w' ⟨rfl, n, rfl⟩
  have hk : ∀ k, k ≠ g → (putRow encB (Sort.ahead W n) g 0 bs.reverse.toArray).heap[k]? = W.heap[k]? := fun k hne => by
    unfold putRow mapBlock
    simp [Sort.ahead, Array.getElem?_modify, Ne.symm hne]
  have hg : Blk (putRow encB (Sort.ahead W n) g 0 bs.reverse.toArray) g (putCells encB 0 bs.reverse.toArray cur) t := by
    have hb2 := hb
    unfold Blk at hb2 ⊢
    unfold putRow mapBlock
    simp only [Sort.ahead]
    rw [Array.getElem?_modify, if_pos rfl, hb2]
    rfl
  refine ⟨rfl, ⟨_, hg, by simp [putCells], ?_⟩, hk, by simp [putRow, mapBlock, Sort.ahead], rfl, rfl, rfl⟩
  apply List.ext_getElem?
  intro j
  by_cases hj : j < bs.length
  · rw [List.getElem?_take, if_pos hj, Array.getElem?_toList]
    unfold putCells
    rw [Array.getElem?_mapIdx, hget j hj]
    simp only [Option.map_some]
    rw [if_pos ⟨Nat.zero_le _, by simp; omega⟩, Nat.sub_zero, getElem!_pos _ _ (by simpa using hj)]
    simp [byteV, encB, hj, List.getElem?_reverse]
  · rw [List.getElem?_eq_none (by rw [List.length_take]; omega), List.getElem?_eq_none (by simp [byteV]; omega)]
end Go.Proofs.YtjcfnmjjkadaeaaGreatDoor
/- States numbered as they are met: each by the least text that leads to it, by length, then byte by byte. Mathematics alone. -/
namespace Go.Proofs.YtjcfnmjjkadaeaaGreatDoor
set_option maxRecDepth 100000
set_option linter.unusedSimpArgs false
set_option linter.unusedVariables false

/-- Steps in the order in which they are looked at: from a state, by a byte, to a state. Each state's way is the first step that leads to it. -/
def wyT (T : List (Nat × Nat × Nat)) (ws : List (Nat × Nat)) : List (Nat × Nat) := T.foldl (fun ws t => if t.2.2 = ws.length then ws ++ [(t.1, t.2.1)] else ws) ws
def ltP (a b : Nat × Nat) : Prop := a.1 < b.1 ∨ (a.1 = b.1 ∧ a.2 < b.2)
/-- The steps' order; each from a state that was met, to one that was met or to the next one. -/
def okT : List (Nat × Nat × Nat) → Nat → Prop
  | [], _ => True
  | t :: T, m => t.1 < m ∧ t.2.2 ≤ m ∧ (∀ u ∈ T, ltP (t.1, t.2.1) (u.1, u.2.1)) ∧ okT T (if t.2.2 = m then m + 1 else m)
theorem wyT_main : ∀ (T : List (Nat × Nat × Nat)) (ws : List (Nat × Nat)), okT T ws.length → (∃ r, wyT T ws = ws ++ r) ∧
    (∀ j x, ws.length ≤ j → (wyT T ws)[j]? = some x → x.1 < j ∧ (x.1, x.2, j) ∈ T ∧ ∀ t ∈ T, t.2.2 = j → (x = (t.1, t.2.1) ∨ ltP x (t.1, t.2.1))) ∧
    (∀ i j x y, ws.length ≤ i → i < j → (wyT T ws)[i]? = some x → (wyT T ws)[j]? = some y → ltP x y) ∧ ∀ t ∈ T, t.2.2 < (wyT T ws).length
  | [], ws, _ => ⟨⟨[], by simp [wyT]⟩, fun j x h1 h2 => by
      have := (List.getElem?_eq_some_iff.1 h2).1
      simp only [wyT, List.foldl_nil] at this
      omega, fun i j x y h1 h2 h3 h4 => by
      have := (List.getElem?_eq_some_iff.1 h4).1
      simp only [wyT, List.foldl_nil] at this
      omega, fun t ht => absurd ht (by simp)⟩
  | t :: T, ws, h => by
    obtain ⟨o1, o2, o3, o4⟩ := h
    have he : wyT (t :: T) ws = wyT T (if t.2.2 = ws.length then ws ++ [(t.1, t.2.1)] else ws) := by unfold wyT; rw [List.foldl_cons]
    rw [he]
    by_cases e : t.2.2 = ws.length
    · rw [if_pos e] at o4 ⊢
      obtain ⟨⟨r, hr⟩, i2, i3, i4⟩ := wyT_main T (ws ++ [(t.1, t.2.1)]) (by simpa using o4)
      have hm : (wyT T (ws ++ [(t.1, t.2.1)]))[ws.length]? = some (t.1, t.2.1) := by rw [hr, List.append_assoc, List.getElem?_append_right (Nat.le_refl _)]; simp
      have hl : ws.length < (wyT T (ws ++ [(t.1, t.2.1)])).length := (List.getElem?_eq_some_iff.1 hm).1
      refine ⟨⟨_, by rw [hr, List.append_assoc]⟩, fun j x hj hx => ?_, fun i j x y hi hij hx hy => ?_, fun u hu => ?_⟩
      · by_cases ej : j = ws.length
        · subst ej
          rw [hm] at hx
          injection hx with hx
          subst hx
          refine ⟨o1, by rw [← e]; simp, fun u hu _ => ?_⟩
          rcases List.mem_cons.1 hu with rfl | hu
          · exact .inl rfl
          · exact .inr (o3 u hu)
        · obtain ⟨a1, a2, a3⟩ := i2 j x (by simp; omega) hx
          refine ⟨a1, List.mem_cons_of_mem _ a2, fun u hu hue => ?_⟩
          rcases List.mem_cons.1 hu with rfl | hu
          · omega
          · exact a3 u hu hue
      · by_cases ei : i = ws.length
        · subst ei
          rw [hm] at hx
          injection hx with hx
          subst hx
          obtain ⟨-, a2, -⟩ := i2 j y (by simp; omega) hy
          exact o3 _ a2
        · exact i3 i j x y (by simp; omega) hij hx hy
      · rcases List.mem_cons.1 hu with rfl | hu
        · omega
        · exact i4 u hu
    · rw [if_neg e] at o4 ⊢
      obtain ⟨i1, i2, i3, i4⟩ := wyT_main T ws o4
      refine ⟨i1, fun j x hj hx => ?_, i3, fun u hu => ?_⟩
      · obtain ⟨a1, a2, a3⟩ := i2 j x hj hx
        refine ⟨a1, List.mem_cons_of_mem _ a2, fun u hu hue => ?_⟩
        rcases List.mem_cons.1 hu with rfl | hu
        · omega
        · exact a3 u hu hue
      · rcases List.mem_cons.1 hu with rfl | hu
        · obtain ⟨r, hr⟩ := i1
          rw [hr, List.length_append]
          omega
        · exact i4 u hu

theorem list_snoc {P : List Nat → Prop} (h0 : P []) (h1 : ∀ w x, P w → P (w ++ [x])) (w : List Nat) : P w := by
  rw [← List.reverse_reverse w]
  induction w.reverse with
  | nil => exact h0
  | cons x r ih => rw [List.reverse_cons]; exact h1 _ _ ih
/-- A text as a number; texts by length, then byte by byte. -/
def vlB (w : List Nat) : Nat := w.foldl (fun a x => a * 256 + x) 0
theorem vlB_snoc (w : List Nat) (x : Nat) : vlB (w ++ [x]) = vlB w * 256 + x := by unfold vlB; rw [List.foldl_append]; rfl
def leW (u v : List Nat) : Prop := u.length < v.length ∨ (u.length = v.length ∧ vlB u ≤ vlB v)
def ltW (u v : List Nat) : Prop := u.length < v.length ∨ (u.length = v.length ∧ vlB u < vlB v)
theorem leW.trans {u v w : List Nat} (h : leW u v) (h' : leW v w) : leW u w := by unfold leW at *; omega
theorem leW.refl (u : List Nat) : leW u u := .inr ⟨rfl, Nat.le_refl _⟩
theorem ltW.le {u v : List Nat} (h : ltW u v) : leW u v := by unfold leW ltW at *; omega
theorem leW.snoc {u v : List Nat} (h : leW u v) (x : Nat) : leW (u ++ [x]) (v ++ [x]) := by
  unfold leW at *
  rw [vlB_snoc, vlB_snoc, List.length_append, List.length_append]
  omega
theorem ltW.snoc {u v : List Nat} (h : ltW u v) {x y : Nat} (hx : x < 256) (hy : y < 256) : ltW (u ++ [x]) (v ++ [y]) := by
  unfold ltW at *
  rw [vlB_snoc, vlB_snoc, List.length_append, List.length_append]
  simp only [List.length_cons, List.length_nil]
  omega
theorem ltW.last (u : List Nat) {x y : Nat} (h : x < y) : ltW (u ++ [x]) (u ++ [y]) := by
  right
  rw [vlB_snoc, vlB_snoc, List.length_append, List.length_append]
  exact ⟨rfl, by omega⟩
/-- The text by which a state was first met. -/
def spW (ws : List (Nat × Nat)) : Nat → Nat → List Nat
  | 0, _ => []
  | f + 1, j => if j = 0 then [] else match ws[j]? with
    | some (p, h) => spW ws f p ++ [h]
    | none => []
theorem spW_fuel {ws : List (Nat × Nat)} (hp : ∀ j x, 1 ≤ j → ws[j]? = some x → x.1 < j) : ∀ (f g j : Nat), j ≤ f → j ≤ g → spW ws f j = spW ws g j := by
  intro f
  induction f with
  | zero =>
    intro g j h _
    obtain rfl : j = 0 := by omega
    cases g <;> simp [spW]
  | succ f ih =>
    intro g j h1 h2
    by_cases e : j = 0
    · subst e; cases g <;> simp [spW]
    · obtain ⟨g, rfl⟩ : ∃ g', g = g' + 1 := ⟨g - 1, by omega⟩
      unfold spW
      rw [if_neg e, if_neg e]
      cases hx : ws[j]? with
      | none => rfl
      | some x =>
        obtain ⟨p, y⟩ := x
        have := hp j _ (by omega) hx
        simp only at this ⊢
        rw [ih g p (by omega) (by omega)]
/-- Of each state that was met the text by which it was. -/
def wayW (ws : List (Nat × Nat)) (j : Nat) : List Nat := spW ws j j
theorem wayW_step {ws : List (Nat × Nat)} (hp : ∀ j x, 1 ≤ j → ws[j]? = some x → x.1 < j) {j p h : Nat} (h1 : 1 ≤ j) (hx : ws[j]? = some (p, h)) : wayW ws j = wayW ws p ++ [h] := by
  have := hp j _ h1 hx
  simp only at this
  unfold wayW
  obtain ⟨f, rfl⟩ : ∃ f, j = f + 1 := ⟨j - 1, by omega⟩
  rw [spW, if_neg (by omega), hx]
  simp only
  rw [spW_fuel hp f p p (by omega) (Nat.le_refl _)]
/-- All that is known of the states of a machine that is numbered as it is met. -/
structure MetT (T : List (Nat × Nat × Nat)) (ws : List (Nat × Nat)) : Prop where
  ways : ws = wyT T [(0, 0)]
  ok : okT T 1
  byt : ∀ t ∈ T, t.2.1 < 256
theorem MetT.back {T : List (Nat × Nat × Nat)} {ws : List (Nat × Nat)} (h : MetT T ws) : ∀ j x, 1 ≤ j → ws[j]? = some x → x.1 < j := fun j x hj hx =>
  ((wyT_main T [(0, 0)] h.ok).2.1 j x (by simpa using hj) (by rw [← h.ways]; exact hx)).1
theorem MetT.zero {T : List (Nat × Nat × Nat)} {ws : List (Nat × Nat)} (h : MetT T ws) : 0 < ws.length := by
  obtain ⟨⟨r, hr⟩, -⟩ := wyT_main T [(0, 0)] h.ok
  rw [h.ways, hr]; simp
/-- Lesser states, lesser texts. -/
theorem MetT.mono {T : List (Nat × Nat × Nat)} {ws : List (Nat × Nat)} (h : MetT T ws) : ∀ j, j < ws.length → ∀ i, i < j → ltW (wayW ws i) (wayW ws j) := by
  intro j
  induction j using Nat.strongRecOn with
  | _ j ih =>
    intro hj i hij
    obtain ⟨-, m2, m3, -⟩ := wyT_main T [(0, 0)] h.ok
    rw [← h.ways] at m2 m3
    obtain ⟨⟨p, y⟩, hy⟩ : ∃ x, ws[j]? = some x := ⟨_, List.getElem?_eq_getElem hj⟩
    have hs := wayW_step h.back (by omega) hy
    by_cases e : i = 0
    · subst e
      rw [hs]
      left
      simp [wayW, spW]
    · obtain ⟨⟨p', y'⟩, hy'⟩ : ∃ x, ws[i]? = some x := ⟨_, List.getElem?_eq_getElem (by omega)⟩
      rw [hs, wayW_step h.back (by omega) hy']
      have hl := m3 i j _ _ (by simp; omega) hij hy' hy
      have b1 := h.back j _ (by omega) hy
      have b2 := h.back i _ (by omega) hy'
      have t1 := h.byt _ (m2 j _ (by simp; omega) hy).2.1
      have t2 := h.byt _ (m2 i _ (by simp; omega) hy').2.1
      simp only at b1 b2 t1 t2
      rcases hl with hl | ⟨hl, hl2⟩
      · exact (ih p (by omega) (by omega) p' hl).snoc t2 t1
      · simp only at hl hl2
        subst hl
        exact ltW.last _ hl2
theorem MetT.le {T : List (Nat × Nat × Nat)} {ws : List (Nat × Nat)} (h : MetT T ws) {i j : Nat} (hj : j < ws.length) (hij : i ≤ j) : leW (wayW ws i) (wayW ws j) := by
  by_cases e : i = j
  · subst e; exact leW.refl _
  · exact (h.mono j hj i (by omega)).le
/-- Where a text leads to. -/
def runS (st : Nat → Nat → Nat) (q : Nat) (w : List Nat) : Nat := w.foldl st q
theorem runS_snoc (st : Nat → Nat → Nat) (q : Nat) (w : List Nat) (x : Nat) : runS st q (w ++ [x]) = st (runS st q w) x := by unfold runS; rw [List.foldl_append]; rfl
/-- The steps are a machine's: of each of n states, of each head. -/
structure StT (T : List (Nat × Nat × Nat)) (st : Nat → Nat → Nat) (hs : List Nat) (n : Nat) : Prop where
  sound : ∀ t ∈ T, st t.1 t.2.1 = t.2.2 ∧ t.2.1 ∈ hs
  all : ∀ q, q < n → ∀ h ∈ hs, (q, h, st q h) ∈ T
/-- The text by which a state was met leads to it. -/
theorem MetT.leads {T : List (Nat × Nat × Nat)} {ws : List (Nat × Nat)} (h : MetT T ws) {st : Nat → Nat → Nat} {hs : List Nat} {n : Nat} (ht : StT T st hs n) : ∀ j, j < ws.length → runS st 0 (wayW ws j) = j ∧ ∀ x ∈ wayW ws j, x ∈ hs := by
  intro j
  induction j using Nat.strongRecOn with
  | _ j ih =>
    intro hj
    by_cases e : j = 0
    · subst e; exact ⟨rfl, fun x hx => absurd hx (by simp [wayW, spW])⟩
    · obtain ⟨-, m2, -, -⟩ := wyT_main T [(0, 0)] h.ok
      rw [← h.ways] at m2
      obtain ⟨⟨p, y⟩, hy⟩ : ∃ x, ws[j]? = some x := ⟨_, List.getElem?_eq_getElem hj⟩
      have b1 := h.back j _ (by omega) hy
      simp only at b1
      obtain ⟨i1, i2⟩ := ih p b1 (by omega)
      obtain ⟨s1, s2⟩ := ht.sound _ (m2 j _ (by simp; omega) hy).2.1
      simp only at s1 s2
      rw [wayW_step h.back (by omega) hy, runS_snoc, i1]
      refine ⟨s1, fun x hx => ?_⟩
      rcases List.mem_append.1 hx with hx | hx
      · exact i2 x hx
      · rcases List.mem_singleton.1 hx with rfl; exact s2
/-- It is the least of those that do. -/
theorem MetT.least {T : List (Nat × Nat × Nat)} {ws : List (Nat × Nat)} (h : MetT T ws) {st : Nat → Nat → Nat} {hs : List Nat} {n : Nat} (ht : StT T st hs n) (hn : ws.length = n) (w : List Nat) : (∀ x ∈ w, x ∈ hs) → runS st 0 w < n ∧ leW (wayW ws (runS st 0 w)) w := by
  have hz := h.zero
  obtain ⟨-, m2, m3, m4⟩ := wyT_main T [(0, 0)] h.ok
  rw [← h.ways] at m2 m3 m4
  refine list_snoc (P := fun w => (∀ x ∈ w, x ∈ hs) → runS st 0 w < n ∧ leW (wayW ws (runS st 0 w)) w) ?_ ?_ w
  · intro _; exact ⟨by show 0 < n; omega, leW.refl _⟩
  · intro w x ih hw
    obtain ⟨i1, i2⟩ := ih fun y hy => hw y (by simp [hy])
    have hT := ht.all _ i1 x (hw x (by simp))
    have hlt := m4 _ hT
    simp only at hlt
    rw [runS_snoc]
    refine ⟨by omega, ?_⟩
    obtain ⟨j, hj⟩ : ∃ j, j = st (runS st 0 w) x := ⟨_, rfl⟩
    rw [← hj] at hT hlt ⊢
    by_cases e : j = 0
    · subst e
      left
      simp [wayW, spW]
    · obtain ⟨⟨p, y⟩, hy⟩ : ∃ z, ws[j]? = some z := ⟨_, List.getElem?_eq_getElem hlt⟩
      obtain ⟨a1, a2, a3⟩ := m2 j _ (by simp; omega) hy
      have hb := h.byt _ a2
      have hb2 := h.byt _ hT
      simp only at a1 hb hb2
      rw [wayW_step h.back (by omega) hy]
      have hrun : runS st 0 w < ws.length := by omega
      rcases a3 _ hT rfl with e1 | e1 | ⟨e1, e2⟩
      · simp only [Prod.mk.injEq] at e1
        rw [e1.1, e1.2]
        exact i2.snoc x
      · simp only at e1
        exact ((h.mono _ hrun p e1).snoc hb hb2).le.trans (i2.snoc x)
      · simp only at e1 e2
        rw [e1]
        exact (ltW.last _ e2).le.trans (i2.snoc x)
/-- Bytes stand for others of their parts. -/
theorem vlB_le : ∀ (u v : List Nat), u.length = v.length → (∀ (i a b : Nat), u[i]? = some a → v[i]? = some b → a ≤ b) → vlB u ≤ vlB v := by
  refine list_snoc (P := fun u => ∀ v : List Nat, u.length = v.length → (∀ (i a b : Nat), u[i]? = some a → v[i]? = some b → a ≤ b) → vlB u ≤ vlB v) ?_ ?_
  · intro v hl _
    cases v with
    | nil => exact Nat.le_refl _
    | cons x v => simp at hl
  · intro u x ih v hl hle
    rcases List.eq_nil_or_concat v with rfl | ⟨v', y, rfl⟩
    · simp at hl
    · have hl' : u.length = v'.length := by simpa using hl
      have h1 := ih v' hl' fun i a b ha hb => hle i a b (by
        have := (List.getElem?_eq_some_iff.1 ha).1
        rw [List.getElem?_append_left this]; exact ha) (by
        have := (List.getElem?_eq_some_iff.1 hb).1
        rw [List.concat_eq_append, List.getElem?_append_left this]; exact hb)
      have h2 := hle u.length x y (by simp) (by rw [List.concat_eq_append, hl']; simp)
      rw [List.concat_eq_append, vlB_snoc, vlB_snoc]
      have := Nat.mul_le_mul_right 256 h1
      omega
/-- Of all texts that lead to a state that is yes, those of the first such state's way are the least. -/
theorem MetT.shortest {T : List (Nat × Nat × Nat)} {ws : List (Nat × Nat)} (h : MetT T ws) {st : Nat → Nat → Nat} {hs : List Nat} {n : Nat} (ht : StT T st hs n) (hn : ws.length = n) (hd : Nat → Nat) (hhd : ∀ b, b < 256 → hd b ∈ hs ∧ hd b ≤ b ∧ ∀ q, q < n → st q b = st q (hd b))
    {q : Nat} {ys : Nat → Bool} (hq : q < n) (hy : ys q = true) (hno : ∀ p, p < q → ys p = false) :
    ys (runS st 0 (wayW ws q)) = true ∧ ∀ w, (∀ x ∈ w, x < 256) → ys (runS st 0 w) = true → leW (wayW ws q) w := by
  refine ⟨by rw [(h.leads ht q (by omega)).1]; exact hy, fun w hw hyw => ?_⟩
  have hrun : ∀ w, (∀ x ∈ w, x < 256) → runS st 0 w = runS st 0 (w.map hd) ∧ runS st 0 w < n := by
    refine list_snoc (P := fun w => (∀ x ∈ w, x < 256) → runS st 0 w = runS st 0 (w.map hd) ∧ runS st 0 w < n) ?_ ?_
    · intro _; exact ⟨rfl, by show 0 < n; omega⟩
    · intro w x ih hw
      obtain ⟨i1, i2⟩ := ih fun y hy => hw y (by simp [hy])
      obtain ⟨d1, d2, d3⟩ := hhd x (hw x (by simp))
      have e : runS st 0 (w ++ [x]) = runS st 0 ((w ++ [x]).map hd) := by
        rw [List.map_append, List.map_cons, List.map_nil, runS_snoc, runS_snoc, ← i1]
        exact d3 _ i2
      refine ⟨e, ?_⟩
      rw [e]
      exact (h.least ht hn _ (fun y hy => by
        obtain ⟨b, hb, rfl⟩ := List.mem_map.1 hy
        exact (hhd b (hw b hb)).1)).1
  obtain ⟨e1, e2⟩ := hrun w hw
  have h1 := (h.least ht hn (w.map hd) (fun y hy => by
    obtain ⟨b, hb, rfl⟩ := List.mem_map.1 hy
    exact (hhd b (hw b hb)).1)).2
  rw [← e1] at h1
  have hle : q ≤ runS st 0 w := by
    rcases Nat.lt_or_ge (runS st 0 w) q with hlt | hge
    · rw [hno _ hlt] at hyw; cases hyw
    · exact hge
  refine (h.le (by omega) hle).trans (h1.trans (.inr ⟨by simp, vlB_le _ _ (by simp) fun i a b ha hb => ?_⟩))
  rw [List.getElem?_map, hb] at ha
  obtain rfl : hd b = a := by simpa using ha
  exact (hhd b (hw b (List.mem_of_getElem? hb))).2.1
end Go.Proofs.YtjcfnmjjkadaeaaGreatDoor
/- auto.spelt: the text by which a state was first met. -/
namespace Go.Proofs.YtjcfnmjjkadaeaaGreatDoor
set_option maxRecDepth 100000
set_option linter.unusedSimpArgs false
set_option linter.unusedVariables false
open Go.RowKit Go.Shelf

/-- A state's way: from which one, by which byte. -/
def wayS : EncS (Nat × Nat) where
  enc x := [.int .i64 x.1, .int .u8 x.2]
  k := 2
  E := 116
  zc := [.int .i64 0, .int .u8 0]
  len _ := rfl
  one x u hu := by
    simp at hu
    rcases hu with rfl | rfl <;> rfl
  pos := by decide
  zlen := rfl
/-- A row of bytes of its own. -/
def OwnB (W : World) (base : Nat) (v : Value) (bs : List Nat) : Prop := OwnG W base 5 (.int .u8 0) v (byteV bs)
theorem OwnB.slice {W : World} {base : Nat} {v : Value} {bs : List Nat} (h : OwnB W base v bs) : ∃ a cap, v = .slice a bs.length cap ∧ bs.length ≤ cap := by
  obtain ⟨a, cap, h1, h2⟩ := OwnG.slice h
  rw [show (byteV bs).length = bs.length by simp [byteV]] at h1 h2
  exact ⟨a, cap, h1, h2⟩
/-- append of a byte. -/
theorem run_appendB {W : World} {base : Nat} {v : Value} {bs : List Nat} (ty : TypeId) (h : OwnB W base v bs) (g c x : Nat) (hg : Blk W g #[.int .u8 x] 5) (hl : bs.length + 1 ≤ 1099511627776) (hbase : base ≤ W.heap.size) :
    ∃ v' W', (Builtin.append_ #[38, 38] ty #[v, .slice (some ⟨g, 0, none⟩) 1 c]).run Tryz.prog W = .ok v' W' ∧ OwnB W' base v' (bs ++ [x]) ∧ AppG W W' base 5 (.int .u8 0) v v' := by
  obtain ⟨v', W', h1, h2, h3⟩ := run_appendG (W := W) 38 5 ty (.int .u8 0) 1 Tryz.underlying38 (by kernel_rfl) (by omega) rfl h ⟨g, 0, none⟩ c [.int .u8 x] (by simp) (fun j u hu => by
    rw [Go.WideShapes.add_plain, Nat.zero_add, hg.cell, ← hu]
    simp) (fun u hu => by simp at hu; subst hu; rfl) (by simp [byteV]; omega) hbase
  refine ⟨v', W', h1, ?_, h3⟩
  have e : byteV (bs ++ [x]) = byteV bs ++ [.int .u8 x] := by simp [byteV]
  show OwnG _ _ _ _ _ _
  rw [e]; exact h2
theorem OwnB.text {W : World} {base : Nat} {v : Value} {bs : List Nat} (h : OwnB W base v bs) : (convert 38 9 v).run Tryz.prog W = .ok (.string (strB bs)) W := by
  rcases h with ⟨rfl, hn⟩ | ⟨g, cap, cur, rfl, h1, h2, h3, h4, h5⟩
  · have hb : bs = [] := by cases bs with
      | nil => rfl
      | cons x r => simp [byteV] at hn
    subst hb
    exact run_convert_bytes_nil (P := Tryz.prog) W 38 5 Tryz.underlying38 Tryz.underlying5 0 0 9 Tryz.underlying9
  · have hl : (byteV bs).length = bs.length := by simp [byteV]
    rw [hl]
    refine run_convert_bytes_arg W 38 5 Tryz.underlying38 Tryz.underlying5 g 0 _ cap (bs.map fun x : Nat => (x : Int)) (by simp) (fun i hi => ?_) 9 Tryz.underlying9
    rw [Nat.zero_add, h2.cell, ← Array.getElem?_toList, h5, List.getElem?_append_left (by rw [hl]; simpa using hi)]
    have hi : i < bs.length := by simpa using hi
    simp [byteV, List.getD_eq_getElem?_getD, hi]
set_option maxHeartbeats 2000000 in
/-- The text by which a state was first met. -/
theorem spelt_any (ws : List (Nat × Nat)) (base : Nat) (v : Value) (q : Nat) (w : World) (hO : OwnS wayS w base v ws) (hq : q < ws.length) (hback : ∀ j x, 1 ≤ j → ws[j]? = some x → x.1 < j) (hl : ws.length ≤ 1000000) :
    Calls Tryz.prog 70 #[v, .int .i64 q] w fun e w' => e = .returned (.string (strB (wayW ws q))) ∧ Below w.heap.size w w' := by
  obtain ⟨g, cap, rfl, -, hg, hc, -, hcell⟩ := hO.cell (by omega)
  obtain ⟨n, hn⟩ : ∃ n, ws.length = n := ⟨_, rfl⟩
  rw [hn] at hq hc hl ⊢
  have HC := hide hcell
  have HN := hide hn
  have HBK := hide hback
  clear hO hcell hn hback
  go_enter Tryz.func70, Tryz.ntmps70
  go_wp2
  go_loopw [1, 5] (fun qv ov wr => ∃ (j : Nat) (bs : List Nat), qv = .int .i64 j ∧ j < n ∧ Hid (OwnB wr w.heap.size ov bs) ∧ Hid (wayW ws q = wayW ws j ++ bs.reverse) ∧ Hid (bs.length + j ≤ q) ∧ Hid (Below w.heap.size w wr)) (fun qv _ _ => (intOf qv).toNat)
  case atStart => exact ⟨q, [], rfl, hq, OwnG.nil _ _ _ _, (by simp : wayW ws q = wayW ws q ++ [].reverse), (by simp : ([] : List Nat).length + q ≤ q), Below.refl _ _⟩
  case round =>
    obtain ⟨j, bs, rfl, hj, HOB, HWY, HLN, HBE⟩ := hrel
    obtain ⟨oa, oc, rfl, hoc⟩ := HOB.out.slice
    have hbl : bs.length ≤ 1000000 := by have := HLN.out; omega
    have hgr : g < wr.heap.size := Nat.lt_of_lt_of_le hg HBE.out.size
    by_cases hj0 : 0 < j
    · have d0 : decide ((0 : Int) < (j : Int)) = true := by simp; omega
      obtain ⟨⟨p, y⟩, hx⟩ : ∃ x, ws[j]? = some x := ⟨_, List.getElem?_eq_getElem (by rw [HN.out]; exact hj)⟩
      have hpj := HBK.out j _ (by omega) hx
      simp only at hpj
      have HST := hide (wayW_step HBK.out (by omega) hx)
      have c0 := HC.out j _ hx 0 (by decide); have c1 := HC.out j _ hx 1 (by decide)
      have hbr : ∀ a, a.block = g → wr.cell? a = w.cell? a := fun a ha => World.cell?_of_block (HBE.out.block _ (by rw [ha]; exact hg))
      rw [← hbr _ rfl] at c0 c1
      simp only [wayS, List.getElem?_cons_zero, List.getElem?_cons_succ, Nat.add_zero] at c0 c1
      obtain ⟨w2, hw2⟩ : ∃ w2, wr.alloc (.cells #[.int .u8 y] 5) = w2 := ⟨_, rfl⟩
      have hb2 : Below wr.heap.size wr w2 := by rw [← hw2]; exact (Below.refl _ _).alloc (Nat.le_refl _) _
      have hk2 : Blk w2 wr.heap.size #[.int .u8 y] 5 := by rw [← hw2]; exact Blk.newAt rfl _ _
      have ho2 : OwnB w2 w.heap.size (.slice oa bs.length oc) bs := OwnG.keep HOB.out hb2
      obtain ⟨v3, w3, hr3, ho3, ha3⟩ := run_appendB 38 ho2 wr.heap.size 1 y hk2 (by omega) (Nat.le_trans HBE.out.size hb2.size)
      have HO3 := hide ho3
      have HB3 : Hid (Below w.heap.size w w3) := (HBE.out.trans (hb2.mono HBE.out.size)).trans ha3.below
      have c03 : w3.cell? ⟨g, j * 2, none⟩ = some (.int .i64 p) := by
        rw [World.cell?_of_block (w := w) (HB3.out.block _ hg), ← hbr ⟨g, j * 2, none⟩ rfl]; exact c0
      obtain ⟨a3, cp3, rfl, -⟩ := ho3.slice
      clear hb2 hk2 ho2 ho3 ha3 hbr hx
      go_wp2_with (refine wpList_append_run rfl _ _ _ rfl _ _ _ rfl rfl hr3 ?_)
      refine ⟨⟨p, bs ++ [y], rfl, by omega, by have := HO3.out; rw [List.length_append] at this; exact this, ?_, ?_, HB3.out⟩, by simp [intOf]; omega⟩
      · show _ = _
        rw [HWY.out, HST.out]; simp
      · show _ ≤ _
        have := HLN.out
        rw [List.length_append]; simp; omega
    · obtain rfl : j = 0 := by omega
      have hw : wayW ws q = bs.reverse := by rw [HWY.out]; simp [wayW, spW]
      have HWR := hide hw
      clear hw
      by_cases hb0 : bs = []
      · subst hb0
        have HRV := hide (AnyE.slices_Reverse_empty revLaidB oa oc wr)
        have HO := HOB.out
        have hcv := HO.text
        simp only [List.length_nil] at HRV hcv ⊢
        go_wp2_with fail
        refine HRV.out.mono ?_
        rintro e w2 ⟨rfl, rfl⟩
        go_wp2
        go_ret
        exact ⟨by rw [HWR.out]; rfl, HBE.out⟩
      · obtain ⟨g2, cp2, cur, e2, hg2, hk2, hc2, hm2, hcur⟩ : ∃ g cap cur, Value.slice oa bs.length oc = .slice (some ⟨g, 0, none⟩) (byteV bs).length cap ∧ w.heap.size ≤ g ∧ Blk wr g cur 5 ∧ (byteV bs).length ≤ cap ∧ cap ≤ maxLen ∧ cur.toList = byteV bs ++ List.replicate (cap - (byteV bs).length) (.int .u8 0) := by
          rcases HOB.out with ⟨e, e1⟩ | h
          · exact absurd (by cases bs with
              | nil => rfl
              | cons x r => simp [byteV] at e1) hb0
          · exact h
        obtain ⟨rfl, rfl⟩ : oa = some ⟨g2, 0, none⟩ ∧ oc = cp2 := by
          injection e2 with e2 e3 e4
          exact ⟨e2, e4⟩
        have hbv : (byteV bs).length = bs.length := by simp [byteV]
        have HRV := hide (revB_any wr g2 oc cur 5 bs hk2 (by rw [hcur, ← hbv]; exact List.take_left) (by omega))
        clear e2
        go_wp2_with fail
        refine HRV.out.mono ?_
        rintro e w2 ⟨rfl, ⟨cur2, hk3, hs3, ht3⟩, ho3, hz3, e4, e5, e6⟩
        have HB2 : Hid (Below w.heap.size w w2) := HBE.out.trans ⟨e4, e5, e6, by rw [hz3]; exact Nat.le_refl _, fun k hk => ho3 k (by omega)⟩
        have hcv : (convert 38 9 (.slice (some ⟨g2, 0, none⟩) bs.length oc)).run Tryz.prog w2 = .ok (.string (strB bs.reverse)) w2 := by
          refine run_convert_bytes_arg w2 38 5 Tryz.underlying38 Tryz.underlying5 g2 0 _ oc (bs.reverse.map fun x : Nat => (x : Int)) (by simp) (fun i hi => ?_) 9 Tryz.underlying9
          have hi : i < bs.length := by simpa using hi
          have h1 : (cur2.toList.take bs.length)[i]? = cur2[i]? := by rw [List.getElem?_take, if_pos hi, Array.getElem?_toList]
          rw [Nat.zero_add, hk3.cell, ← h1, ht3]
          simp [byteV, List.getD_eq_getElem?_getD, hi]
        clear HRV hk3 ht3 ho3 hk2 hcur
        go_wp2
        go_ret
        exact ⟨by rw [HWR.out]; rfl, HB2.out⟩
end Go.Proofs.YtjcfnmjjkadaeaaGreatDoor
