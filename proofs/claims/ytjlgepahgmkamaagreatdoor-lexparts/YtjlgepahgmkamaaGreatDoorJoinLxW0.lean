/- Texts of this claim put together: LxR, LxW0. -/
import Derived.Test.YtjlgepahgmkamaaGreatDoorJoinLxG
import Derived.Deep.AppendLies
import Derived.ArgAppend
import Derived.Test.YtjlgepahgmkamaaGreatDoorJoinLxT
import Derived.Test.YtjlgepahgmkamaaGreatDoorJoinLxV
/- Rows of tokens: append. -/
namespace Go.Proofs.YtjlgepahgmkamaaGreatDoor
set_option maxRecDepth 100000
set_option linter.unusedSimpArgs false
set_option linter.unusedVariables false
open Go.RowKit Go.Shelf

def encT (q : LTok × Value) : List Value := [.int .i64 q.1.kind, .string q.1.txt, q.2, .int .i64 q.1.at']
def flatT (l : List (LTok × Value)) : List Value := l.flatMap encT
theorem flatT_length (l : List (LTok × Value)) : (flatT l).length = l.length * 4 := by
  induction l with
  | nil => rfl
  | cons x r ih => simp [flatT, encT] at ih ⊢; omega
theorem flatT_append (a b : List (LTok × Value)) : flatT (a ++ b) = flatT a ++ flatT b := by simp [flatT]
theorem flatT_get (l : List (LTok × Value)) : ∀ (k : Nat) q, l[k]? = some q → ∀ j, j < 4 → (flatT l)[k * 4 + j]? = (encT q)[j]? := by
  induction l with
  | nil => intro k q hk; simp at hk
  | cons x r ih =>
    intro k q hk j hj
    rw [show flatT (x :: r) = encT x ++ flatT r from by simp [flatT]]
    cases k with
    | zero =>
      obtain rfl : x = q := by simpa using hk
      rw [List.getElem?_append_left (by simp [encT]; omega)]
      simp
    | succ k =>
      rw [List.getElem?_append_right (by simp [encT]; omega), show (k + 1) * 4 + j - (encT x).length = k * 4 + j from by simp [encT]; omega, ih k q (by simpa using hk) j hj]
/-- A row of tokens of its own; behind its end no pointer stands. -/
def OwnT (W : World) (base : Nat) (v : Value) (l : List (LTok × Value)) : Prop :=
  (v = .slice none 0 0 ∧ l = []) ∨ ∃ g cap cur, v = .slice (some ⟨g, 0, none⟩) l.length cap ∧ base ≤ g ∧ Blk W g cur 35 ∧ l.length ≤ cap ∧ cap ≤ maxLen ∧ cur.size = cap * 4 ∧ cur.toList.take (l.length * 4) = flatT l ∧ ∀ (j : Nat) x, l.length * 4 ≤ j → cur[j]? = some x → ∀ p, x ≠ PT p
theorem OwnT.nil (W : World) (base : Nat) : OwnT W base (.slice none 0 0) [] := .inl ⟨rfl, rfl⟩
theorem OwnT.other {W W' : World} {base : Nat} {v : Value} {l : List (LTok × Value)} (h : OwnT W base v l) (hk : ∀ g, base ≤ g → g < W.heap.size → (∃ c, Blk W g c 35) → W'.heap[g]? = W.heap[g]?) : OwnT W' base v l := by
  rcases h with h | ⟨g, cap, cur, rfl, h1, h2, h3⟩
  · exact .inl h
  · exact .inr ⟨g, cap, cur, rfl, h1, (hk g h1 h2.lt ⟨_, h2⟩).trans h2, h3⟩
theorem OwnT.keep {W W' : World} {base : Nat} {v : Value} {l : List (LTok × Value)} (h : OwnT W base v l) (hb : Below W.heap.size W W') : OwnT W' base v l := h.other fun g _ hg _ => hb.block g hg
theorem OwnT.slice {W : World} {base : Nat} {v : Value} {l : List (LTok × Value)} (h : OwnT W base v l) : ∃ a cap, v = .slice a l.length cap ∧ l.length ≤ cap := by
  rcases h with ⟨rfl, rfl⟩ | ⟨g, cap, cur, rfl, -, -, h, -⟩
  · exact ⟨none, 0, rfl, by simp⟩
  · exact ⟨_, _, rfl, h⟩
/-- What stands in such a row. -/
theorem OwnT.cell {W : World} {base : Nat} {v : Value} {l : List (LTok × Value)} (h : OwnT W base v l) (h0 : 0 < l.length) :
    ∃ g cap, v = .slice (some ⟨g, 0, none⟩) l.length cap ∧ base ≤ g ∧ g < W.heap.size ∧ l.length ≤ cap ∧ ∀ (k : Nat) q, l[k]? = some q → ∀ j, j < 4 → W.cell? ⟨g, k * 4 + j, none⟩ = (encT q)[j]? := by
  rcases h with ⟨rfl, rfl⟩ | ⟨g, cap, cur, rfl, h1, h2, h3, h4, h5, h6, -⟩
  · simp at h0
  · refine ⟨g, cap, rfl, h1, h2.lt, h3, fun k q hk j hj => ?_⟩
    have hkl := (List.getElem?_eq_some_iff.1 hk).1
    rw [h2.cell, ← flatT_get l k q hk j hj, ← h6, List.getElem?_take, if_pos (by omega)]
    simp
/-- From W to W' such a row grew. -/
structure AppT (W W' : World) (base : Nat) (v : Value) : Prop where
  below : Below base W W'
  size : W.heap.size ≤ W'.heap.size
  block : ∀ k c t, Blk W k c t → t ≠ 35 → Blk W' k c t
  cell : ∀ b i p, W.cell? ⟨b, i, none⟩ = some (PT p) → W'.cell? ⟨b, i, none⟩ = some (PT p)
theorem ReAt.appT {W W' : World} {base b : Nat} {v : Value} {r : RE} (h : ReAt W b r) (ha : AppT W W' base v) : ReAt W' b r := by
  induction h with
  | mk b o s ks v bs blk row kid ih =>
    refine .mk b o s ks v bs (ha.block _ _ _ blk (by decide)) ?_ ih
    obtain ⟨h1, a, cap, rfl, h2⟩ := row
    refine ⟨⟨h1.1, h1.2.keep ha.size⟩, a, cap, rfl, fun k hk => ?_⟩
    obtain ⟨b', off, e, hlt, hc⟩ := h2 k hk
    exact ⟨b', off, e, Nat.lt_of_lt_of_le hlt ha.size, ha.cell _ _ _ hc⟩
theorem infoT : (Tryz.prog.info? 35).map (fun i => (i.zero, i.size, i.bytes)) = some (some (.agg #[.int .i64 0, .string ⟨#[]⟩, .pointer none, .int .i64 0]), 4, 40) := by kernel_rfl
theorem zeroT_no (k j : Nat) (x : Value) (h : (Builtin.zeroCells (Value.cells (.agg #[.int .i64 0, .string ⟨#[]⟩, .pointer none, .int .i64 0])) k)[j]? = some x) : ∀ p, x ≠ PT p := by
  intro p e
  subst e
  have hc : Value.cells (.agg #[.int .i64 0, .string ⟨#[]⟩, .pointer none, .int .i64 0]) = #[.int .i64 0, .string ⟨#[]⟩, .pointer none, .int .i64 0] := rfl
  rw [hc] at h
  unfold Builtin.zeroCells at h
  rw [Array.getElem?_map] at h
  obtain ⟨i, -, h⟩ := Option.map_eq_some_iff.1 h
  have h4 : i % 4 = 0 ∨ i % 4 = 1 ∨ i % 4 = 2 ∨ i % 4 = 3 := by omega
  have hs : (#[Value.int .i64 0, .string ⟨#[]⟩, .pointer none, .int .i64 0] : Array Value).size = 4 := rfl
  rw [hs] at h
  rcases h4 with h4 | h4 | h4 | h4 <;> rw [h4] at h <;> simp [PT] at h
set_option maxHeartbeats 2000000 in
/-- append of a token. -/
theorem run_appendT {W : World} {base : Nat} {v : Value} {l : List (LTok × Value)} (ty : TypeId) (h : OwnT W base v l) (ad : Addr) (c : Nat) (q : LTok × Value) (hnews : ∀ j u, (encT q)[j]? = some u → W.cell? (ad.add j) = some u) (h1 : q.2.oneCell' = true) (hl : l.length + 1 ≤ 1099511627776) (hbase : base ≤ W.heap.size) :
    ∃ v' W', (Builtin.append_ #[24, 24] ty #[v, .slice (some ad) 1 c]).run Tryz.prog W = .ok v' W' ∧ OwnT W' base v' (l ++ [q]) ∧ AppT W W' base v ∧ (∀ k, k < W.heap.size → v.ownBlock ≠ some k → W'.heap[k]? = W.heap[k]?) := by
  obtain ⟨i, hi, hz0, hz1, hz2⟩ := info_parts infoT
  have hone : ∀ u ∈ encT q, u.oneCell' = true := by
    intro u hu
    simp [encT] at hu
    rcases hu with rfl | rfl | rfl | rfl
    · rfl
    · rfl
    · exact h1
    · rfl
  have hlen : (l ++ [q]).length = l.length + 1 := by simp
  have hfl : (flatT l).length = l.length * 4 := flatT_length l
  have hfa : flatT (l ++ [q]) = flatT l ++ encT q := by rw [flatT_append]; simp [flatT]
  have hfit : ∀ old, old < l.length + 1 → Builtin.nextslicecap (l.length + 1) old * i.bytes ≤ 281474976710656 := fun old ho => growslice_fits ho (by
    rw [hz2]; omega)
  have fin : ∀ (K : Nat) W', l.length + 1 ≤ K → K ≤ maxLen → W' = W.drew.alloc (.cells ((flatT l ++ encT q).toArray ++ Builtin.zeroCells (Value.cells (.agg #[.int .i64 0, .string ⟨#[]⟩, .pointer none, .int .i64 0])) (K - (l.length + 1))) 35) →
      OwnT W' base (.slice (some ⟨W.heap.size, 0, none⟩) (l.length + 1) K) (l ++ [q]) ∧ AppT W W' base v ∧ (∀ k, k < W.heap.size → v.ownBlock ≠ some k → W'.heap[k]? = W.heap[k]?) := by
    intro K W' hK hm hW
    have hblk : Blk W' W.heap.size ((flatT l ++ encT q).toArray ++ Builtin.zeroCells (Value.cells (.agg #[.int .i64 0, .string ⟨#[]⟩, .pointer none, .int .i64 0])) (K - (l.length + 1))) 35 := by rw [hW]; exact heap_alloc_new W.drew _
    have hold : ∀ k, k < W.heap.size → W'.heap[k]? = W.heap[k]? := fun k hk => by rw [hW]; exact heap_alloc_old W.drew _ hk
    have hsz : W.heap.size ≤ W'.heap.size := by rw [hW]; simp
    have hzs : (Builtin.zeroCells (Value.cells (.agg #[.int .i64 0, .string ⟨#[]⟩, .pointer none, .int .i64 0])) (K - (l.length + 1))).size = (K - (l.length + 1)) * 4 := by simp [Builtin.zeroCells, Value.cells]
    have hes : (encT q).length = 4 := rfl
    refine ⟨.inr ⟨_, K, _, by rw [hlen], hbase, hblk, by rw [hlen]; exact hK, hm, ?_, ?_, ?_⟩, ⟨⟨by rw [hW]; rfl, by rw [hW]; rfl, by rw [hW]; rfl, hsz, fun k hk => hold k (by omega)⟩, hsz, fun k c t hb _ => (hold k hb.lt).trans hb, fun b i p hc => ?_⟩, fun k hk _ => hold k hk⟩
    · rw [Array.size_append, hzs, List.size_toArray, List.length_append, hfl, hes]; omega
    · rw [Array.toList_append, hlen, hfa]
      rw [List.take_append_of_le_length (by simp [hfl, hes]; omega)]
      exact List.take_of_length_le (by simp [hfl, hes]; omega)
    · intro j x hj hx
      rw [hlen] at hj
      rw [Array.getElem?_append_right (by simp [hfl, hes]; omega)] at hx
      exact zeroT_no _ _ _ hx
    · rw [← hc]; exact World.cell?_of_block (w := W) (hold _ (World.block_lt_of_cell? _ _ hc))
  rcases h with ⟨rfl, rfl⟩ | ⟨g, cap, cur, rfl, hbg, hg, hn, hcap, hcs, htake, hspare⟩
  · have hr := run_append_nil (P := Tryz.prog) (w := W) 24 ty 35 i _ Tryz.underlying24 hi hz0 ad 1 c (encT q) (by rw [hz1]; rfl) hnews (by omega) (by omega) (by rw [hz2]; omega)
    have hge := grownCap_ge W 1 0 35
    have hcm : grownCap W 1 0 35 ≤ maxLen := grownCap_le_maxLen W 1 0 _ (by unfold maxLen; omega)
    refine ⟨_, _, hr, ?_⟩
    have := fin _ _ (by simpa using hge) hcm rfl
    simpa [flatT] using this
  · by_cases hroom : l.length + 1 ≤ cap
    · have hr := run_append_room (P := Tryz.prog) W 24 ty 35 i Tryz.underlying24 hi g l.length cap cur hg ad 1 c (encT q) (by rw [hz1]; rfl) hnews hone hroom (by rw [hcs, hz1]; have he : (encT q).length = 4 := rfl; omega)
      rw [hz1, show (encT q).length = 4 from rfl, show l.length * 4 + 4 = (l.length + 1) * 4 from by omega] at hr
      obtain ⟨c', hc'⟩ : ∃ c' : Array Value, c' = (cur.toList.take (l.length * 4) ++ encT q ++ cur.toList.drop ((l.length + 1) * 4)).toArray := ⟨_, rfl⟩
      rw [← hc'] at hr
      have hblk' : Blk (W.setRow g c') g c' 35 := setRow_heap W g cur _ _ _ hg
      have hother : ∀ k, k ≠ g → (W.setRow g c').heap[k]? = W.heap[k]? := fun k hk => setRow_other W g k _ hk
      have hsz : (W.setRow g c').heap.size = W.heap.size := by simp
      have hcl : cur.toList.length = cap * 4 := by rw [Array.length_toList, hcs]
      have hes : (encT q).length = 4 := rfl
      have hcl' : c'.toList = flatT l ++ encT q ++ cur.toList.drop ((l.length + 1) * 4) := by rw [hc', htake]
      refine ⟨_, _, hr, .inr ⟨g, cap, c', by rw [hlen], hbg, hblk', by rw [hlen]; exact hroom, hcap, ?_, ?_, ?_⟩, ⟨⟨rfl, rfl, rfl, by rw [hsz]; exact Nat.le_refl _, fun k hk => hother k (by omega)⟩, by rw [hsz]; exact Nat.le_refl _, fun k c2 t hb ht => (hother k fun e => ?_).trans hb, fun b i p hc => ?_⟩, fun k _ hne => hother k (fun e => hne (by rw [e]; rfl))⟩
      · rw [← Array.length_toList, hcl']; simp [hfl, hes, hcl]; omega
      · rw [hcl', hlen, hfa]
        exact List.take_left' (by simp [hfl, hes]; omega)
      · intro j x hj hx
        rw [hlen] at hj
        rw [← Array.getElem?_toList, hcl', List.getElem?_append_right (by simp [hfl, hes]; omega), List.getElem?_drop, Array.getElem?_toList] at hx
        exact hspare _ x (by omega) hx
      · subst e
        have e2 := hb.of_cells.symm.trans hg.of_cells
        injection e2 with e2; injection e2 with _ e3
        exact ht e3
      · by_cases e : b = g
        · subst e
          rw [hg.cell] at hc
          rw [hblk'.cell, ← Array.getElem?_toList, hcl']
          have hi4 : i < l.length * 4 := by
            rcases Nat.lt_or_ge i (l.length * 4) with h | h
            · exact h
            · exact absurd rfl (hspare i _ h hc p)
          rw [List.append_assoc, List.getElem?_append_left (by rw [hfl]; exact hi4), ← htake, List.getElem?_take, if_pos hi4, Array.getElem?_toList]
          exact hc
        · rw [← hc]; exact World.cell?_of_block (w := W) (hother b e)
    · have hr := run_append_grow (P := Tryz.prog) W 24 ty 35 i _ Tryz.underlying24 hi hz0 ⟨g, 0, none⟩ l.length cap (flatT l) (by rw [hz1, hfl]) (fun j x hj => by
        have hj2 : j < l.length * 4 := by rw [← hfl]; exact (List.getElem?_eq_some_iff.1 hj).1
        rw [Go.WideShapes.add_plain, Nat.zero_add, hg.cell, ← Array.getElem?_toList, ← hj, ← htake, List.getElem?_take, if_pos hj2]) ad 1 c (encT q) (by rw [hz1]; rfl) hnews (by omega) (by omega) (hfit cap (by omega))
      have hge := grownCap_ge W (l.length + 1) cap 35
      have hcm : grownCap W (l.length + 1) cap 35 ≤ maxLen := grownCap_le_maxLen W (l.length + 1) cap _ (by unfold maxLen; omega)
      refine ⟨_, _, hr, ?_⟩
      exact fin _ _ hge hcm (by rw [← List.append_toArray])
end Go.Proofs.YtjlgepahgmkamaaGreatDoor
/- A token in memory. -/
namespace Go.Proofs.YtjlgepahgmkamaaGreatDoor
set_option maxRecDepth 100000
set_option linter.unusedSimpArgs false
set_option linter.unusedVariables false
open Go.RowKit Go.Shelf

def TokV (t : LTok) (v : Value) : Value := .agg #[.int .i64 t.kind, .string t.txt, v, .int .i64 t.at']
/-- A token's expression, or none. -/
def PtrOf (w : World) (r : Option RE) (v : Value) : Prop := match r with
  | none => v = .pointer none
  | some r => ∃ q, v = PT q ∧ ReAt w q r
/-- What token answers. -/
def TokPost (s : ByteArray) (p x0 : Nat) (w : World) (res : (Nat × Nat) ⊕ (LTok × Nat)) (r : Ending) (w' : World) : Prop :=
  (∀ e x, res = .inl (e, x) → ∃ t a', r = .returned (TokV t (.pointer none)) ∧ LxAt w' p s a' e x ∧ e ≠ 0) ∧
  (∀ t n, res = .inr (t, n) → ∃ v, r = .returned (TokV t v) ∧ PtrOf w' t.re v ∧ LxAt w' p s n 0 x0) ∧ Aside p w w'
theorem LxAt.other {W : World} {p : Nat} {s : ByteArray} {a e x : Nat} (h : LxAt W p s a e x) (k i : Nat) (v : Value) (hk : k ≠ p) : LxAt (W.setCell ⟨k, i, none⟩ v) p s a e x :=
  ⟨h.blk.setOther ⟨k, i, none⟩ v (fun e => hk e.symm), h.le, h.big⟩
theorem Aside.other {w W : World} {p : Nat} (h : Aside p w W) (k i : Nat) (v : Value) (hk : w.heap.size ≤ k) : Aside p w (W.setCell ⟨k, i, none⟩ v) :=
  ⟨h.os, h.tape, h.output, Nat.le_trans h.size (by simp [World.setCell]), fun j hj hp => (Below.heap_setCell _ _ _ _ (by show j ≠ k; omega)).trans (h.block j hj hp)⟩
/-- A store into a token, over what is no pointer. -/
theorem ReAt.stT {W : World} {q k i : Nat} {r : RE} {c : Array Value} {v old : Value} (h : ReAt W q r) (hb : Blk W k c 35) (hc : c[i]? = some old) (ho : ∀ p, old ≠ PT p) : ReAt (W.setCell ⟨k, i, none⟩ v) q r := by
  have ha : AppT W (W.setCell ⟨k, i, none⟩ v) 0 (.pointer none) := by
    refine ⟨⟨rfl, rfl, rfl, by simp [World.setCell], fun j hj => absurd hj (Nat.not_lt_zero _)⟩, by simp [World.setCell], fun j c2 t hj ht => ?_, fun b o p hx => ?_⟩
    · refine hj.setOther ⟨k, i, none⟩ v fun e => ?_
      have e : j = k := e
      subst e
      have e2 := hj.of_cells.symm.trans hb.of_cells
      injection e2 with e2; injection e2 with _ e3
      exact ht e3
    · by_cases e : b = k
      · subst e
        have h1 := hb.set i v
        rw [h1.cell]
        rw [hb.cell] at hx
        have hne : o ≠ i := fun e => by
          subst e
          rw [hc] at hx
          injection hx with hx
          exact ho p hx
        rw [Array.getElem?_setIfInBounds_ne (by omega)]
        exact hx
      · rw [← hx]
        exact World.cell?_of_block (w := W) (Below.heap_setCell _ _ _ _ e)
  exact h.appT ha
end Go.Proofs.YtjlgepahgmkamaaGreatDoor
