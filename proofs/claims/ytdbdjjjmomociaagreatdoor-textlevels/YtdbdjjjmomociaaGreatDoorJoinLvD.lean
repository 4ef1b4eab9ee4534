/- Texts of this claim put together: LvA, LvB, LvC, LvD. -/
import Derived.Test.YtdbdjjjmomociaaGreatDoorJoinTrG
import Derived.Test.YtdbdjjjmomociaaGreatDoorJoinRunM
import Derived.Test.YtdbdjjjmomociaaGreatDoorJoinMathSame
/- Four rows of pointers, each behind a box: how one of them grows, and is let go. -/
namespace Go.Proofs.YtdbdjjjmomociaaGreatDoor
set_option maxRecDepth 100000
set_option linter.unusedSimpArgs false
set_option linter.unusedVariables false
open Go.RowKit

/-- A row of its own, or none. -/
def OwnL (W : World) (base : Nat) (v : Value) (ps : List (Nat × RE)) : Prop := (v = .slice none 0 0 ∧ ps = []) ∨ OwnZ W base v ps
theorem OwnL.keep {W W' : World} {base : Nat} {v : Value} {ps : List (Nat × RE)} (h : OwnL W base v ps) (hb : Below W.heap.size W W') : OwnL W' base v ps := by
  rcases h with h | h
  · exact .inl h
  · exact .inr (h.keep hb)
theorem OwnL.other {W W' : World} {base : Nat} {v : Value} {ps : List (Nat × RE)} (h : OwnL W base v ps) (hk : ∀ g, v.ownBlock = some g → g < W.heap.size → W'.heap[g]? = W.heap[g]?) : OwnL W' base v ps := by
  rcases h with h | h
  · exact .inl h
  · obtain ⟨g, cap, cur, rfl, h1, h2, h3⟩ := h.own
    exact .inr ⟨g, cap, cur, rfl, h1, (hk g rfl h2.lt).trans h2, h3⟩
theorem OwnL.row {W : World} {base : Nat} {v : Value} {ps : List (Nat × RE)} (h : OwnL W base v ps) (hl : ps.length ≤ 4611686018427387904) : RowAt W v ps := by
  rcases h with ⟨rfl, rfl⟩ | h
  · exact ⟨⟨by simp, .mk (by simp)⟩, none, 0, rfl, fun j p hp => by simp at hp⟩
  · exact h.row hl
theorem OwnL.slice {W : World} {base : Nat} {v : Value} {ps : List (Nat × RE)} (h : OwnL W base v ps) : ∃ a cap, v = .slice a ps.length cap := by
  rcases h with ⟨rfl, rfl⟩ | h
  · exact ⟨none, 0, rfl⟩
  · obtain ⟨g, cap, e⟩ := h.slice; exact ⟨_, _, e⟩
/-- append of one pointer: what else stays. -/
theorem run_appendL {W : World} {base : Nat} {v : Value} {ps : List (Nat × RE)} (h : OwnL W base v ps) (ty : TypeId) (sb b : Nat) (r : RE) (hs : Blk W sb #[PT b] 23) (hl : ps.length ≤ 1000000) (hbase : base ≤ W.heap.size) :
    ∃ v' W', (Builtin.append_ #[47, 47] ty #[v, .slice (some ⟨sb, 0, none⟩) 1 1]).run Tryz.prog W = .ok v' W' ∧ OwnL W' base v' (ps ++ [(b, r)]) ∧ Below base W W' ∧ (∀ b' r', ReAt W b' r' → ReAt W' b' r') ∧
      (∀ k, k < W.heap.size → v.ownBlock ≠ some k → W'.heap[k]? = W.heap[k]?) ∧ (v'.ownBlock = v.ownBlock ∨ v'.ownBlock = some W.heap.size) := by
  obtain ⟨i, hi, hz0, hz1, hz2⟩ := info_parts infoP
  have hnews := World.news_of_block hs
  have hpp : ptrs (ps ++ [(b, r)]) = ptrs ps ++ [PT b] := by simp [ptrs]
  have hpl := ptrs_length ps
  rcases h with ⟨rfl, rfl⟩ | h
  · have hr := run_append_nil (P := Tryz.prog) (w := W) 47 ty 23 i (.pointer none) Tryz.underlying47 hi hz0 ⟨sb, 0, none⟩ 1 1 [PT b] (by rw [hz1]; rfl) hnews (by omega) (by omega) (by rw [hz2]; omega)
    have hge := grownCap_ge W 1 0 23
    have hcm : grownCap W 1 0 23 ≤ maxLen := grownCap_le_maxLen W 1 0 _ (by unfold maxLen; omega)
    obtain ⟨W', hW'⟩ : ∃ W', W' = W.drew.alloc (.cells ([PT b].toArray ++ Builtin.zeroCells (Value.pointer none).cells (grownCap W 1 0 23 - 1)) 23) := ⟨_, rfl⟩
    rw [← hW'] at hr
    have hbel : Below W.heap.size W W' := by rw [hW']; exact ⟨rfl, rfl, rfl, by simp, fun k hk => heap_alloc_old W.drew _ hk⟩
    have hblk : Blk W' W.heap.size ([PT b].toArray ++ Builtin.zeroCells (Value.pointer none).cells (grownCap W 1 0 23 - 1)) 23 := by rw [hW']; exact heap_alloc_new W.drew _
    refine ⟨_, _, hr, .inr ⟨W.heap.size, _, _, by simp, hbase, hblk, by simpa using hge, hcm, ?_⟩, hbel.mono hbase, fun b' r' hr' => hr'.keep hbel, fun k hk _ => hbel.block k hk, .inr rfl⟩
    rw [hpp]
    simp only [Array.toList_append, List.append_assoc, List.length_append, List.length_cons, List.length_nil, ptrs, List.map_nil, List.nil_append]
    congr 1
    simp [Builtin.zeroCells, Value.cells]
    apply List.ext_getElem
    · simp
    · intro j h1 h2
      simp [Nat.mod_one]
  · obtain ⟨g, cap, cur, rfl, hbg, hg, hn, hcap, hcur⟩ := h.own
    by_cases hroom : ps.length + 1 ≤ cap
    · have hcs : cur.size = cap := by rw [← Array.length_toList, hcur]; simp [hpl]; omega
      have hfit : ps.length * i.size + [PT b].length ≤ cur.size := by rw [hcs, hz1]; simp; omega
      have hr := run_append_room (P := Tryz.prog) W 47 ty 23 i Tryz.underlying47 hi g ps.length cap cur hg ⟨sb, 0, none⟩ 1 1 [PT b] (by rw [hz1]; rfl) hnews (by intro u hu; simp at hu; subst hu; rfl) hroom hfit
      rw [hz1, Nat.mul_one] at hr
      obtain ⟨c', hc'⟩ : ∃ c' : Array Value, c' = (cur.toList.take ps.length ++ [PT b] ++ cur.toList.drop (ps.length + [PT b].length)).toArray := ⟨_, rfl⟩
      rw [← hc'] at hr
      have hblk' : Blk (W.setRow g c') g c' 23 := setRow_heap W g cur _ 23 _ hg
      have hother : ∀ k, k ≠ g → (W.setRow g c').heap[k]? = W.heap[k]? := fun k hk => setRow_other W g k _ hk
      have hsz : (W.setRow g c').heap.size = W.heap.size := by simp
      have htake : cur.toList.take ps.length = ptrs ps := by rw [hcur, ← hpl]; exact List.take_left
      have hdrop : cur.toList.drop (ps.length + 1) = List.replicate (cap - (ps.length + 1)) (.pointer none) := by
        rw [hcur, List.drop_append, List.drop_eq_nil_of_le (by rw [hpl]; omega), hpl, List.nil_append, List.drop_replicate]
        congr 1
        omega
      refine ⟨_, _, hr, .inr ⟨g, cap, c', by simp, hbg, hblk', by simpa using hroom, hcap, ?_⟩, ⟨rfl, rfl, rfl, by rw [hsz]; exact Nat.le_refl _, fun k hk => hother k (by omega)⟩, fun b' r' hr' => hr'.past (g := g) (by rw [hsz]; exact Nat.le_refl _) (fun k _ hk => hother k hk) hg hblk' ?_, fun k _ hk => hother k (fun e => hk (by rw [e]; rfl)), .inl rfl⟩
      · rw [hc', hpp]
        simp only [List.length_append, List.length_cons, List.length_nil]
        rw [htake, hdrop]
      · intro j u hj hu
        have hj' : cur.toList[j]? = some u := by rw [Array.getElem?_toList]; exact hj
        have hjl : j < ps.length := by
          rw [hcur] at hj'
          rcases Nat.lt_or_ge j ps.length with h | h
          · exact h
          · exfalso
            rw [List.getElem?_append_right (by rw [hpl]; exact h), List.getElem?_replicate] at hj'
            split at hj'
            · injection hj' with e; exact hu e.symm
            · cases hj'
        rw [hc', ← Array.getElem?_toList, List.append_assoc, List.getElem?_append_left (by rw [htake, hpl]; exact hjl), List.getElem?_take, if_pos hjl]
        exact hj'
    · have hce : cap = ps.length := by omega
      have holds : ∀ j u, (ptrs ps)[j]? = some u → W.cell? ((⟨g, 0, none⟩ : Addr).add j) = some u := fun j u hu => by
        rw [Go.WideShapes.add_plain, Nat.zero_add, hg.cell, ← Array.getElem?_toList, hcur, List.getElem?_append_left (List.getElem?_eq_some_iff.1 hu).1]
        exact hu
      have hr := run_append_grow (P := Tryz.prog) W 47 ty 23 i (.pointer none) Tryz.underlying47 hi hz0 ⟨g, 0, none⟩ ps.length cap (ptrs ps) (by rw [hz1, hpl]; omega) holds ⟨sb, 0, none⟩ 1 1 [PT b] (by rw [hz1]; rfl) hnews (by omega) (by omega) (by rw [hz2]; exact growslice_fits (by omega) (by omega))
      have hge := grownCap_ge W (ps.length + 1) cap 23
      have hcm : grownCap W (ps.length + 1) cap 23 ≤ maxLen := grownCap_le_maxLen W (ps.length + 1) cap _ (by unfold maxLen; omega)
      obtain ⟨W', hW'⟩ : ∃ W', W' = W.drew.alloc (.cells ((ptrs ps).toArray ++ [PT b].toArray ++ Builtin.zeroCells (Value.pointer none).cells (grownCap W (ps.length + 1) cap 23 - (ps.length + 1))) 23) := ⟨_, rfl⟩
      rw [← hW'] at hr
      have hbel : Below W.heap.size W W' := by rw [hW']; exact ⟨rfl, rfl, rfl, by simp, fun k hk => heap_alloc_old W.drew _ hk⟩
      have hblk : Blk W' W.heap.size ((ptrs ps).toArray ++ [PT b].toArray ++ Builtin.zeroCells (Value.pointer none).cells (grownCap W (ps.length + 1) cap 23 - (ps.length + 1))) 23 := by rw [hW']; exact heap_alloc_new W.drew _
      refine ⟨_, _, hr, .inr ⟨W.heap.size, _, _, by simp, hbase, hblk, by simpa using hge, hcm, ?_⟩, hbel.mono hbase, fun b' r' hr' => hr'.keep hbel, fun k hk _ => hbel.block k hk, .inr rfl⟩
      rw [hpp]
      simp only [Array.toList_append, List.append_assoc, List.length_append, List.length_cons, List.length_nil]
      congr 2
      simp [Builtin.zeroCells, Value.cells]
      apply List.ext_getElem
      · simp
      · intro j h1 h2
        simp [Nat.mod_one]
/-- A box of a slice. -/
def BX : TypeId := 47
/-- Four boxes, and the rows that they hold: of the ands, the cats, the minuses, the ors. -/
structure Lv (w : World) (b : Nat → Nat) (v : Nat → Value) (p : Nat → List (Nat × RE)) (W : World) : Prop where
  box : ∀ i, i < 4 → Blk W (b i) #[v i] 47
  base : ∀ i, i < 4 → w.heap.size ≤ b i
  inj : ∀ i j, i < 4 → j < 4 → i ≠ j → b i ≠ b j
  row : ∀ i, i < 4 → OwnL W w.heap.size (v i) (p i)
  apart : ∀ i j, i < 4 → j < 4 → i ≠ j → ∀ g, (v i).ownBlock = some g → (v j).ownBlock ≠ some g
  elem : ∀ i, i < 4 → ∀ x ∈ p i, ReAt W x.1 x.2
  below : Below w.heap.size w W
def upd {α : Type} (f : Nat → α) (i : Nat) (x : α) : Nat → α := fun j => if j = i then x else f j
theorem upd_same {α : Type} (f : Nat → α) (i : Nat) (x : α) : upd f i x i = x := if_pos rfl
theorem upd_other {α : Type} (f : Nat → α) {i j : Nat} (x : α) (h : j ≠ i) : upd f i x j = f j := if_neg h
theorem Lv.step {w : World} {b : Nat → Nat} {v : Nat → Value} {p : Nat → List (Nat × RE)} {W W' : World} (h : Lv w b v p W) (hb : Below W.heap.size W W') : Lv w b v p W' :=
  ⟨fun i hi => (h.box i hi).below hb (h.box i hi).lt, h.base, h.inj, fun i hi => (h.row i hi).keep hb, h.apart, fun i hi x hx => (h.elem i hi x hx).keep hb, h.below.trans (hb.mono h.below.size)⟩
theorem Lv.cell {w : World} {b : Nat → Nat} {v : Nat → Value} {p : Nat → List (Nat × RE)} {W : World} (h : Lv w b v p W) (i : Nat) (hi : i < 4) : W.cell? ⟨b i, 0, none⟩ = some (v i) := (h.box i hi).cell 0
theorem OwnL.lt {W : World} {base : Nat} {v : Value} {ps : List (Nat × RE)} (h : OwnL W base v ps) {g : Nat} (hg : v.ownBlock = some g) : base ≤ g ∧ g < W.heap.size ∧ ∃ cur, Blk W g cur 23 := by
  rcases h with ⟨rfl, -⟩ | h
  · cases hg
  · obtain ⟨g', cap, cur, rfl, h1, h2, h3⟩ := h.own
    have : g' = g := by simpa [Value.ownBlock] using hg
    subst this
    exact ⟨h1, h2.lt, cur, h2⟩
/-- A tree does not read a box. -/
theorem ReAt.boxed {W W' : World} {g c : Nat} {r : RE} {d : Array Value} (h : ReAt W c r) (hs : W.heap.size ≤ W'.heap.size) (hk : ∀ k, k < W.heap.size → k ≠ g → W'.heap[k]? = W.heap[k]?) (hg : Blk W g d 47) (hd : ∀ u, u ∈ d.toList → ∀ q, u ≠ PT q) : ReAt W' c r := by
  induction h with
  | mk c o s ks v bs blk row kid ih =>
    have hne : c ≠ g := by
      rintro rfl
      have e := blk.of_cells.symm.trans hg.of_cells
      injection e with e; injection e with _ e2
      exact absurd e2 (by decide)
    refine .mk c o s ks v bs ((hk c blk.lt hne).trans blk) ?_ ih
    obtain ⟨h1, a, cap, rfl, h2⟩ := row
    refine ⟨h1, a, cap, rfl, fun k hk' => ?_⟩
    obtain ⟨b', off, e, hlt, hcell⟩ := h2 k hk'
    refine ⟨b', off, e, Nat.lt_of_lt_of_le hlt hs, ?_⟩
    by_cases e' : b' = g
    · subst e'
      rw [hg.cell] at hcell
      exfalso
      have := Array.mem_of_getElem? hcell
      exact hd _ (by simpa using this) _ rfl
    · rw [← hcell]
      exact World.cell?_of_block (w := W) (hk b' hlt e')
/-- The same, but for one row. -/
structure LvX (w : World) (b : Nat → Nat) (v : Nat → Value) (p : Nat → List (Nat × RE)) (i : Nat) (W : World) : Prop where
  box : ∀ j, j < 4 → Blk W (b j) #[v j] 47
  base : ∀ j, j < 4 → w.heap.size ≤ b j
  inj : ∀ j k, j < 4 → k < 4 → j ≠ k → b j ≠ b k
  row : ∀ j, j < 4 → j ≠ i → OwnL W w.heap.size (v j) (p j)
  apart : ∀ j k, j < 4 → k < 4 → j ≠ k → j ≠ i → k ≠ i → ∀ g, (v j).ownBlock = some g → (v k).ownBlock ≠ some g
  elem : ∀ j, j < 4 → j ≠ i → ∀ x ∈ p j, ReAt W x.1 x.2
  below : Below w.heap.size w W
  sl : ∃ a n c, v i = .slice a n c
/-- A box is laid anew. -/
theorem LvX.store {w : World} {b : Nat → Nat} {v : Nat → Value} {p : Nat → List (Nat × RE)} {W : World} (i : Nat) (h : LvX w b v p i W) (hi : i < 4) (u : Value) (q : List (Nat × RE)) (hu : OwnL W w.heap.size u q) (ha : ∀ j, j < 4 → j ≠ i → ∀ g, u.ownBlock = some g → (v j).ownBlock ≠ some g) (he : ∀ x ∈ q, ReAt W x.1 x.2) :
    Lv w b (upd v i u) (upd p i q) (W.setCell ⟨b i, 0, none⟩ u) := by
  have hB := h.box i hi
  have hset : Blk (W.setCell ⟨b i, 0, none⟩ u) (b i) #[u] 47 := hB.set 0 u
  have hoth : ∀ k, k ≠ b i → (W.setCell ⟨b i, 0, none⟩ u).heap[k]? = W.heap[k]? := fun k hk => Below.heap_setCell _ _ _ _ hk
  have hsz : (W.setCell ⟨b i, 0, none⟩ u).heap.size = W.heap.size := by simp
  have hnb : ∀ {z : Value} {l : List (Nat × RE)}, OwnL W w.heap.size z l → ∀ g, z.ownBlock = some g → g ≠ b i := fun hz g hg e => by
    obtain ⟨-, -, cur, hc⟩ := hz.lt hg
    subst e
    have e := hB.of_cells.symm.trans hc.of_cells
    injection e with e; injection e with _ e2
    exact absurd e2 (by decide)
  have hvi : ∀ t ∈ (#[v i] : Array Value).toList, ∀ q', t ≠ PT q' := fun t ht q' e => by
    simp at ht
    obtain ⟨a, n, cap, hv⟩ := h.sl
    rw [ht, hv] at e
    cases e
  have tree : ∀ c r, ReAt W c r → ReAt (W.setCell ⟨b i, 0, none⟩ u) c r := fun c r hr => ReAt.boxed (g := b i) hr (Nat.le_of_eq hsz.symm) (fun k _ hk => hoth k hk) hB hvi
  refine ⟨fun j hj => ?_, h.base, h.inj, fun j hj => ?_, fun j k hj hk hjk => ?_, fun j hj x hx => ?_, h.below.setCell (h.base i hi) _⟩
  · by_cases e : j = i
    · subst e; rw [upd_same]; exact hset
    · rw [upd_other _ _ e]
      exact (hoth _ (h.inj j i hj hi e)).trans (h.box j hj)
  · by_cases e : j = i
    · subst e; rw [upd_same, upd_same]
      exact hu.other fun g hg _ => hoth g (hnb hu g hg)
    · rw [upd_other _ _ e, upd_other _ _ e]
      exact (h.row j hj e).other fun g hg _ => hoth g (hnb (h.row j hj e) g hg)
  · intro g hg
    by_cases e : j = i
    · subst e
      rw [upd_same] at hg
      rw [upd_other _ _ (Ne.symm hjk)]
      exact ha k hk (Ne.symm hjk) g hg
    · rw [upd_other _ _ e] at hg
      by_cases e' : k = i
      · subst e'
        rw [upd_same]
        exact fun hu' => ha j hj e g hu' hg
      · rw [upd_other _ _ e']
        exact h.apart j k hj hk hjk e e' g hg
  · by_cases e : j = i
    · subst e; rw [upd_same] at hx; exact tree _ _ (he x hx)
    · rw [upd_other _ _ e] at hx; exact tree _ _ (h.elem j hj e x hx)
theorem Lv.but {w : World} {b : Nat → Nat} {v : Nat → Value} {p : Nat → List (Nat × RE)} {W : World} (h : Lv w b v p W) (i : Nat) (hi : i < 4) : LvX w b v p i W :=
  ⟨h.box, h.base, h.inj, fun j hj _ => h.row j hj, fun j k hj hk hjk _ _ => h.apart j k hj hk hjk, fun j hj _ => h.elem j hj, h.below, (h.row i hi).slice.elim fun a ⟨c, e⟩ => ⟨a, _, c, e⟩⟩
/-- A row is let go. -/
theorem Lv.clear {w : World} {b : Nat → Nat} {v : Nat → Value} {p : Nat → List (Nat × RE)} {W : World} (h : Lv w b v p W) (i : Nat) (hi : i < 4) : Lv w b (upd v i (.slice none 0 0)) (upd p i []) (W.setCell ⟨b i, 0, none⟩ (.slice none 0 0)) :=
  (h.but i hi).store i hi _ [] (.inl ⟨rfl, rfl⟩) (fun j hj hne g hg => by cases hg) (fun x hx => by cases hx)
/-- A row grows: what the append makes, and then the store. -/
theorem Lv.push {w : World} {b : Nat → Nat} {v : Nat → Value} {p : Nat → List (Nat × RE)} {W : World} (h : Lv w b v p W) (i : Nat) (hi : i < 4) (ty : TypeId) (sb c : Nat) (r : RE) (hs : Blk W sb #[PT c] 23) (hr : ReAt W c r) (hl : (p i).length ≤ 1000000) :
    ∃ v' W', (Builtin.append_ #[47, 47] ty #[v i, .slice (some ⟨sb, 0, none⟩) 1 1]).run Tryz.prog W = .ok v' W' ∧ Lv w b (upd v i v') (upd p i (p i ++ [(c, r)])) (W'.setCell ⟨b i, 0, none⟩ v') ∧ Below w.heap.size w W' ∧ (∃ a n k, v' = .slice a n k) ∧ ∀ j, j < 4 → Blk W' (b j) #[v j] 47 := by
  obtain ⟨v', W', h1, h2, h3, h4, h5, h6⟩ := run_appendL (h.row i hi) ty sb c r hs hl h.below.size
  have hnb : ∀ {z : Value} {l : List (Nat × RE)}, OwnL W w.heap.size z l → ∀ g, z.ownBlock = some g → ∀ j, j < 4 → g ≠ b j := fun hz g hg j hj e => by
    obtain ⟨-, -, cur, hc⟩ := hz.lt hg
    subst e
    have e := (h.box j hj).of_cells.symm.trans hc.of_cells
    injection e with e; injection e with _ e2
    exact absurd e2 (by decide)
  have hbx : ∀ j, j < 4 → Blk W' (b j) #[v j] 47 := fun j hj => (h5 (b j) (h.box j hj).lt (fun e => hnb (h.row i hi) _ e j hj rfl)).trans (h.box j hj)
  have hX : LvX w b v p i W' := ⟨hbx, h.base, h.inj, fun j hj hne => (h.row j hj).other fun g hg hlt => h5 g hlt (fun e => h.apart j i hj hi hne g hg e), fun j k hj hk hjk _ _ => h.apart j k hj hk hjk, fun j hj _ x hx => h4 _ _ (h.elem j hj x hx), h.below.trans h3, (h.row i hi).slice.elim fun a ⟨c, e⟩ => ⟨a, _, c, e⟩⟩
  refine ⟨v', W', h1, hX.store i hi v' _ h2 ?_ ?_, h.below.trans h3, (h2.slice).elim fun a ⟨k, e⟩ => ⟨a, _, k, e⟩, hbx⟩
  · intro j hj hne g hg hv
    rcases h6 with e | e
    · rw [e] at hg
      exact h.apart i j hi hj (Ne.symm hne) g hg hv
    · rw [e] at hg
      have := ((h.row j hj).lt hv).2.1
      have : W.heap.size = g := by simpa using hg
      omega
  · intro x hx
    rcases List.mem_append.1 hx with hx | hx
    · exact h4 _ _ (h.elem i hi x hx)
    · rw [List.mem_singleton] at hx; subst hx; exact h4 _ _ hr
/-- The row of one of them. -/
theorem Lv.res {w : World} {b : Nat → Nat} {v : Nat → Value} {p : Nat → List (Nat × RE)} {W : World} (h : Lv w b v p W) (i : Nat) (hi : i < 4) (hl : (p i).length ≤ 4611686018427387904) : ResRow W (v i) ((p i).map Prod.snd) := ((h.row i hi).row hl).res (h.elem i hi)
section
variable {ops : Array Oper} {S : World → Prop} {Q : Exit → Act → World → Prop} {fuel : Nat} {listed : Array Bool} {a : Act} {w : World} {oi oj : Oper} {ri rj : List Oper}
/-- A load and a call that may come up in either order; with all that the call tells. -/
theorem h_load_callE (i j : Nat) (v : Value) (f : FuncId) (vs : Array Value) (R : World → Prop) (C : Value → World → Prop) (hi : ops.toList.drop i = oi :: ri) (hj : ops.toList.drop j = oj :: rj) (hr : Region.ready .any ops listed = [i, j])
    (hri : Region.ready .any ops (listed.setIfInBounds i true) = [j]) (hrj : Region.ready .any ops (listed.setIfInBounds j true) = [i])
    (hwi : ∀ t, Region.wanted oi (yielded ops t) = true) (hwj : ∀ t, Region.wanted oj (yielded ops t) = true)
    (hvi : ∀ w, R w → (execOp a.eval oi).run Tryz.prog w = .ok (.value v) w) (hvi' : ∀ u w, R w → (execOp (a.put oj.dst u).eval oi).run Tryz.prog w = .ok (.value v) w)
    (hvj : ∀ w, (execOp a.eval oj).run Tryz.prog w = .ok (.enter f vs) w) (hvj' : ∀ w, (execOp (a.put oi.dst v).eval oj).run Tryz.prog w = .ok (.enter f vs) w)
    (hc : Calls Tryz.prog f vs w fun e w' => ∃ u, e = .returned u ∧ C u w') (hCR : ∀ u w', C u w' → R w') (hS : ∀ w, R w → S w) (hR : R w)
    (hcm : ∀ u, (a.put oj.dst u).put oi.dst v = (a.put oi.dst v).put oj.dst u) (hl : (listed.setIfInBounds j true).setIfInBounds i true = (listed.setIfInBounds i true).setIfInBounds j true)
    (h : ∀ u w', C u w' → wpAnyH Tryz.prog .any ops (NoPanic Q) S fuel ((listed.setIfInBounds i true).setIfInBounds j true) ((a.put oi.dst v).put oj.dst u) w') : wpAnyH Tryz.prog .any ops (NoPanic Q) S (fuel + 2) listed a w := by
  refine wpAnyH_all hr (by simp) ?_
  intro k hk
  rcases List.mem_cons.1 hk with rfl | hk
  · unfold wpOp
    simp only [at_drop hi, hwi, if_true]
    refine .inl ?_
    unfold Oper.wp
    rw [hvi w hR, Oper.upon_value]
    refine ⟨hS w hR, ?_⟩
    refine wpAnyH_all hri (by simp) ?_
    intro k' hk'
    obtain rfl : k' = j := by simpa using hk'
    unfold wpOp
    simp only [at_drop hj, hwj, if_true]
    refine .inl ?_
    unfold Oper.wp
    rw [hvj' w, Oper.upon_enter]
    refine hc.mono ?_
    rintro e w' ⟨u, rfl, hC⟩
    exact ⟨hS w' (hCR u w' hC), h u w' hC⟩
  · obtain rfl : k = j := by simpa using hk
    unfold wpOp
    simp only [at_drop hj, hwj, if_true]
    refine .inl ?_
    unfold Oper.wp
    rw [hvj w, Oper.upon_enter]
    refine hc.mono ?_
    rintro e w' ⟨u, rfl, hC⟩
    refine ⟨hS w' (hCR u w' hC), ?_⟩
    refine wpAnyH_all hrj (by simp) ?_
    intro k' hk'
    obtain rfl : k' = i := by simpa using hk'
    unfold wpOp
    simp only [at_drop hi, hwi, if_true]
    refine .inl ?_
    unfold Oper.wp
    rw [hvi' u w' (hCR u w' hC), Oper.upon_value]
    refine ⟨hS w' (hCR u w' hC), ?_⟩
    rw [hcm, hl]
    exact h u w' hC
end
end Go.Proofs.YtdbdjjjmomociaaGreatDoor
/- Four rows behind boxes, by what they hold; the letters and what closes a level. -/
namespace Go.Proofs.YtdbdjjjmomociaaGreatDoor
set_option maxRecDepth 100000
set_option linter.unusedSimpArgs false
set_option linter.unusedVariables false
open Go.RowKit

/-- The boxes hold rows of these. -/
structure LvS (w : World) (b : Nat → Nat) (v : Nat → Value) (L : Nat → List RE) (W : World) : Prop where
  rows : ∃ p, Lv w b v p W ∧ ∀ i, i < 4 → (p i).map Prod.snd = L i
  wf : ∀ i, i < 4 → ∀ r ∈ L i, Wf r
theorem LvS.step {w : World} {b : Nat → Nat} {v : Nat → Value} {L : Nat → List RE} {W W' : World} (h : LvS w b v L W) (hb : Below W.heap.size W W') : LvS w b v L W' := by
  obtain ⟨⟨p, h1, h2⟩, h3⟩ := h
  exact ⟨⟨p, h1.step hb, h2⟩, h3⟩
theorem LvS.below {w : World} {b : Nat → Nat} {v : Nat → Value} {L : Nat → List RE} {W : World} (h : LvS w b v L W) : Below w.heap.size w W := by
  obtain ⟨⟨p, h1, -⟩, -⟩ := h; exact h1.below
theorem LvS.box {w : World} {b : Nat → Nat} {v : Nat → Value} {L : Nat → List RE} {W : World} (h : LvS w b v L W) (i : Nat) (hi : i < 4) : Blk W (b i) #[v i] 47 := by
  obtain ⟨⟨p, h1, -⟩, -⟩ := h; exact h1.box i hi
theorem LvS.cell {w : World} {b : Nat → Nat} {v : Nat → Value} {L : Nat → List RE} {W : World} (h : LvS w b v L W) (i : Nat) (hi : i < 4) : W.cell? ⟨b i, 0, none⟩ = some (v i) := (h.box i hi).cell 0
theorem LvS.res {w : World} {b : Nat → Nat} {v : Nat → Value} {L : Nat → List RE} {W : World} (h : LvS w b v L W) (i : Nat) (hi : i < 4) (hl : (L i).length ≤ 1000) : ResRow W (v i) (L i) := by
  obtain ⟨⟨p, h1, h2⟩, -⟩ := h
  have := h2 i hi
  rw [← this] at hl ⊢
  exact h1.res i hi (by simp at hl; omega)
theorem LvS.slice {w : World} {b : Nat → Nat} {v : Nat → Value} {L : Nat → List RE} {W : World} (h : LvS w b v L W) (i : Nat) (hi : i < 4) : ∃ a c, v i = .slice a (L i).length c := by
  obtain ⟨⟨p, h1, h2⟩, -⟩ := h
  obtain ⟨a, c, e⟩ := (h1.row i hi).slice
  refine ⟨a, c, ?_⟩
  rw [e, ← h2 i hi, List.length_map]
theorem LvS.clear {w : World} {b : Nat → Nat} {v : Nat → Value} {L : Nat → List RE} {W : World} (h : LvS w b v L W) (i : Nat) (hi : i < 4) : LvS w b (upd v i (.slice none 0 0)) (upd L i []) (W.setCell ⟨b i, 0, none⟩ (.slice none 0 0)) := by
  obtain ⟨⟨p, h1, h2⟩, h3⟩ := h
  refine ⟨⟨_, h1.clear i hi, fun j hj => ?_⟩, fun j hj r hr => ?_⟩
  · by_cases e : j = i
    · subst e; rw [upd_same, upd_same]; rfl
    · rw [upd_other _ _ e, upd_other _ _ e]; exact h2 j hj
  · by_cases e : j = i
    · subst e; rw [upd_same] at hr; cases hr
    · rw [upd_other _ _ e] at hr; exact h3 j hj r hr
theorem LvS.push {w : World} {b : Nat → Nat} {v : Nat → Value} {L : Nat → List RE} {W : World} (h : LvS w b v L W) (i : Nat) (hi : i < 4) (ty : TypeId) (sb c : Nat) (r : RE) (hs : Blk W sb #[PT c] 23) (hr : ReAt W c r) (hw : Wf r) (hl : (L i).length ≤ 1000) :
    ∃ v' W', (Builtin.append_ #[47, 47] ty #[v i, .slice (some ⟨sb, 0, none⟩) 1 1]).run Tryz.prog W = .ok v' W' ∧ LvS w b (upd v i v') (upd L i (L i ++ [r])) (W'.setCell ⟨b i, 0, none⟩ v') ∧ (∃ a n k, v' = .slice a n k) ∧ ∀ j, j < 4 → Blk W' (b j) #[v j] 47 := by
  obtain ⟨⟨p, h1, h2⟩, h3⟩ := h
  obtain ⟨v', W', q1, q2, q3, q4, q5⟩ := h1.push i hi ty sb c r hs hr (by have := h2 i hi; rw [← this] at hl; simp at hl; omega)
  refine ⟨v', W', q1, ⟨⟨_, q2, fun j hj => ?_⟩, fun j hj x hx => ?_⟩, q4, q5⟩
  · by_cases e : j = i
    · subst e; rw [upd_same, upd_same, List.map_append, h2 j hj]; rfl
    · rw [upd_other _ _ e, upd_other _ _ e]; exact h2 j hj
  · by_cases e : j = i
    · subst e
      rw [upd_same] at hx
      rcases List.mem_append.1 hx with hx | hx
      · exact h3 j hj x hx
      · rw [List.mem_singleton] at hx; rw [hx]; exact hw
    · rw [upd_other _ _ e] at hx; exact h3 j hj x hx
/-- How much they hold in all. -/
def cntT (L : Nat → List RE) : Nat := cntL (L 0) + cntL (L 1) + cntL (L 2) + cntL (L 3)
def cls2 (L : Nat → List RE) : Nat → List RE := upd (upd L 0 (L 0 ++ [rThen (L 1)])) 1 []
def cls1 (L : Nat → List RE) : Nat → List RE := upd (upd L 2 (L 2 ++ [rBoth (L 0)])) 0 []
def cls0 (L : Nat → List RE) : Nat → List RE := upd (upd L 3 (L 3 ++ [butF (L 2)])) 2 []
/-- What closing a level makes of them. -/
def clsL (lv : Nat) (L : Nat → List RE) : Nat → List RE := if lv = 0 then cls0 (cls1 (cls2 L)) else if lv = 1 then cls1 (cls2 L) else if lv = 2 then cls2 L else L
theorem x_loadV (ρ : Operand → Value) (d : Option Tmp) (x : Operand) (t : TypeId) (pos : String) (af : Array Edge) (g : Option (Nat × Bool)) (c : Nat) (u : Value) (hx : ρ x = PT c) (w : World) (hc : w.cell? ⟨c, 0, none⟩ = some u) :
    (execOp ρ { dst := d, op := .load 47 x, type := t, pos := pos, after := af, guard := g }).run Tryz.prog w = .ok (.value u) w := by
  simp [go_sem, hx, hc, PT]
theorem x_storeV (ρ : Operand → Value) (d : Option Tmp) (x y : Operand) (t : TypeId) (pos : String) (af : Array Edge) (g : Option (Nat × Bool)) (c : Nat) (old : Value) (a : Option Addr) (n k : Nat) (hx : ρ x = PT c) (hy : ρ y = .slice a n k) (w : World) (hB : Blk w c #[old] 47) :
    (execOp ρ { dst := d, op := .store 47 x y, type := t, pos := pos, after := af, guard := g }).run Tryz.prog w = .ok .skip (w.setCell ⟨c, 0, none⟩ (.slice a n k)) := by
  have h1 := hB.cell 0
  have h2 := hB.frozen 0
  simp only [List.getElem?_toArray, List.getElem?_cons_zero] at h1
  simp [go_sem, hx, hy, h1, h2, PT]
theorem x_build1R (ρ : Operand → Value) (d : Option Tmp) (x : Operand) (ty : TypeId) (pos : String) (af : Array Edge) (g : Option (Nat × Bool)) (c : Nat) (hx : ρ x = PT c) (w : World) :
    (execOp ρ { dst := d, op := .buildSlice 47 1 #[(0, x)], type := ty, pos := pos, after := af, guard := g }).run Tryz.prog w = .ok (.value (.slice (some ⟨w.heap.size, 0, none⟩) 1 1)) (w.alloc (.cells #[PT c] 23)) := by
  simp [go_sem, hx, PT]
theorem wp_append_run {o : Oper} {a : Act} {w w' : World} {K : Act → World → Prop} {Q : Exit → Act → World → Prop} (s x : Operand) (t : TypeId)
    (hop : o.op = Op.call { callee := Callee.builtin Builtin.append, args := #[s, x], argTypes := #[t, t] }) (v u v' : Value) (hs : a.eval s = v) (hx : a.eval x = u)
    (hrun : (Builtin.append_ #[t, t] o.type #[v, u]).run Tryz.prog w = .ok v' w') (hK : K (a.put o.dst v') w') : o.wp Tryz.prog a w K Q := by
  unfold Oper.wp execOp
  simp only [hop, resolve, invoke, builtin, Sem.run_bind, Sem.run_pure, Result.andThen_ok, List.map_toArray, List.map_cons, List.map_nil, hs, hx, hrun]
  exact hK
theorem row_1L {w : World} {c : Nat} {g : Nat} (hg : Blk w g #[.int .u8 c] 5) : ∀ k, k < [c].length → ∃ b off, (some ⟨g, 0, none⟩ : Option Addr) = some ⟨b, off, none⟩ ∧ b < w.heap.size ∧ w.cell? ⟨b, off + k, none⟩ = some (.int .u8 (([c] : List Nat).getD k 0)) := fun k hk => by
  obtain rfl : k = 0 := by simp at hk; omega
  exact ⟨_, _, rfl, hg.lt, hg.cell 0⟩
set_option maxHeartbeats 1000000 in
theorem lvLetter_any (i : Nat) (hi : i ≤ 25) (w : World) :
    Calls Tryz.prog 17 #[.int .i64 i] w fun e w' => ∃ c, e = .returned (PT c) ∧ ReAt w' c (lvL i) ∧ Below w.heap.size w w' := by
  have e8 : IntKind.u8.wrap (i : Int) = (i : Int) := by simp [IntKind.wrap, IntKind.signed, IntKind.bits]; omega
  have e9 : IntKind.u8.wrap (97 + (i : Int)) = ((97 + i : Nat) : Int) := by simp [IntKind.wrap, IntKind.signed, IntKind.bits]; omega
  obtain ⟨d, hd⟩ : ∃ d : Nat, d = 97 + i := ⟨_, rfl⟩
  rw [← hd] at e9
  have hd6 : d < 256 := by omega
  have HD := hide hd
  have he9 : (97 : Int) + (i : Int) = (d : Int) := by omega
  clear hd
  go_enter Tryz.func17, Tryz.ntmps17
  go_wp2_with fail
  have hb0 := (Below.refl w.heap.size w).alloc (Nat.le_refl _) (.cells #[.int .u8 (d : Nat)] 5)
  refine (of_any [d] (by simpa using hd6) _ _ 1 (row_1L (Blk.newAt (w := w) rfl #[.int .u8 (d : Nat)] 5)) (by simp)).mono ?_
  rintro e w1 ⟨rfl, hb⟩
  have H1 := hide (hb0.trans (hb.mono (by simp)))
  clear hb hb0
  unfold SV
  go_wp2_with fail
  refine (one_any (setOf [d]) w1).mono ?_
  rintro e w2 ⟨c, rfl, hc, hb⟩
  have H2 := hide (H1.out.trans (hb.mono H1.out.size))
  have HC := hide hc
  clear hb hc H1
  unfold PT
  go_wp2
  go_ret
  refine ⟨c, rfl, ?_, H2.out⟩
  unfold lvL
  rw [← HD.out]; exact HC.out
end Go.Proofs.YtdbdjjjmomociaaGreatDoor
/- What closes a level. -/
namespace Go.Proofs.YtdbdjjjmomociaaGreatDoor
set_option maxRecDepth 100000
set_option linter.unusedSimpArgs false
set_option linter.unusedVariables false
open Go.RowKit

theorem TabAt.pastL {w w' : World} (hT : TabAt w) (hb : Below w.heap.size w w') : TabAt w' := hT.agree (Agree.of_all (K := fun _ => True) hb) trivial
section
variable {ops : Array Oper} {S : World → Prop} {Q : Exit → Act → World → Prop} {fuel : Nat} {listed : Array Bool} {a : Act} {w : World} {oi oj ok : Oper} {ri rj rk : List Oper}
/-- A load that may come up ahead of a call, behind it, or behind what is laid of what the call yields. -/
theorem h_lca (i j k : Nat) (v : Value) (f : FuncId) (vs : Array Value) (R : World → Prop) (C : Value → World → Prop) (xv : World → Value) (aw : Value → World → World)
    (hi : ops.toList.drop i = oi :: ri) (hj : ops.toList.drop j = oj :: rj) (hk : ops.toList.drop k = ok :: rk)
    (hr : Region.ready .any ops listed = [i, j]) (hri : Region.ready .any ops (listed.setIfInBounds i true) = [j]) (hrj : Region.ready .any ops (listed.setIfInBounds j true) = [i, k])
    (hrij : Region.ready .any ops ((listed.setIfInBounds i true).setIfInBounds j true) = [k]) (hrji : Region.ready .any ops ((listed.setIfInBounds j true).setIfInBounds i true) = [k]) (hrjk : Region.ready .any ops ((listed.setIfInBounds j true).setIfInBounds k true) = [i])
    (hwi : ∀ t, Region.wanted oi (yielded ops t) = true) (hwj : ∀ t, Region.wanted oj (yielded ops t) = true) (hwk : ∀ t, Region.wanted ok (yielded ops t) = true)
    (hv1 : ∀ w, R w → (execOp a.eval oi).run Tryz.prog w = .ok (.value v) w) (hv2 : ∀ u w, R w → (execOp (a.put oj.dst u).eval oi).run Tryz.prog w = .ok (.value v) w) (hv3 : ∀ u x w, R w → (execOp ((a.put oj.dst u).put ok.dst x).eval oi).run Tryz.prog w = .ok (.value v) w)
    (hc1 : ∀ w, (execOp a.eval oj).run Tryz.prog w = .ok (.enter f vs) w) (hc2 : ∀ w, (execOp (a.put oi.dst v).eval oj).run Tryz.prog w = .ok (.enter f vs) w)
    (ha1 : ∀ u w, C u w → (execOp (a.put oj.dst u).eval ok).run Tryz.prog w = .ok (.value (xv w)) (aw u w)) (ha2 : ∀ u w, C u w → (execOp ((a.put oi.dst v).put oj.dst u).eval ok).run Tryz.prog w = .ok (.value (xv w)) (aw u w)) (ha3 : ∀ u w, C u w → (execOp ((a.put oj.dst u).put oi.dst v).eval ok).run Tryz.prog w = .ok (.value (xv w)) (aw u w))
    (hc : Calls Tryz.prog f vs w fun e w' => ∃ u, e = .returned u ∧ C u w') (hCR : ∀ u w', C u w' → R w') (hAR : ∀ u w', C u w' → R (aw u w')) (hS : ∀ w, R w → S w) (hR : R w)
    (hm1 : ∀ u x, ((a.put oj.dst u).put oi.dst v).put ok.dst x = ((a.put oi.dst v).put oj.dst u).put ok.dst x) (hm2 : ∀ u x, ((a.put oj.dst u).put ok.dst x).put oi.dst v = ((a.put oi.dst v).put oj.dst u).put ok.dst x)
    (hl1 : ((listed.setIfInBounds j true).setIfInBounds i true).setIfInBounds k true = ((listed.setIfInBounds i true).setIfInBounds j true).setIfInBounds k true) (hl2 : ((listed.setIfInBounds j true).setIfInBounds k true).setIfInBounds i true = ((listed.setIfInBounds i true).setIfInBounds j true).setIfInBounds k true)
    (h : ∀ u w', C u w' → wpAnyH Tryz.prog .any ops (NoPanic Q) S fuel (((listed.setIfInBounds i true).setIfInBounds j true).setIfInBounds k true) (((a.put oi.dst v).put oj.dst u).put ok.dst (xv w')) (aw u w')) : wpAnyH Tryz.prog .any ops (NoPanic Q) S (fuel + 3) listed a w := by
  refine wpAnyH_all hr (by simp) ?_
  intro n hn
  rcases List.mem_cons.1 hn with rfl | hn
  · unfold wpOp
    simp only [at_drop hi, hwi, if_true]
    refine .inl ?_
    unfold Oper.wp
    rw [hv1 w hR, Oper.upon_value]
    refine ⟨hS w hR, wpAnyH_all hri (by simp) ?_⟩
    intro n' hn'
    obtain rfl : n' = j := by simpa using hn'
    unfold wpOp
    simp only [at_drop hj, hwj, if_true]
    refine .inl ?_
    unfold Oper.wp
    rw [hc2 w, Oper.upon_enter]
    refine hc.mono ?_
    rintro e w' ⟨u, rfl, hC⟩
    refine ⟨hS w' (hCR u w' hC), wpAnyH_all hrij (by simp) ?_⟩
    intro n2 hn2
    obtain rfl : n2 = k := by simpa using hn2
    unfold wpOp
    simp only [at_drop hk, hwk, if_true]
    refine .inl ?_
    unfold Oper.wp
    rw [ha2 u w' hC, Oper.upon_value]
    exact ⟨hS _ (hAR u w' hC), h u w' hC⟩
  · obtain rfl : n = j := by simpa using hn
    unfold wpOp
    simp only [at_drop hj, hwj, if_true]
    refine .inl ?_
    unfold Oper.wp
    rw [hc1 w, Oper.upon_enter]
    refine hc.mono ?_
    rintro e w' ⟨u, rfl, hC⟩
    refine ⟨hS w' (hCR u w' hC), wpAnyH_all hrj (by simp) ?_⟩
    intro n2 hn2
    rcases List.mem_cons.1 hn2 with rfl | hn2
    · unfold wpOp
      simp only [at_drop hi, hwi, if_true]
      refine .inl ?_
      unfold Oper.wp
      rw [hv2 u w' (hCR u w' hC), Oper.upon_value]
      refine ⟨hS w' (hCR u w' hC), wpAnyH_all hrji (by simp) ?_⟩
      intro n3 hn3
      obtain rfl : n3 = k := by simpa using hn3
      unfold wpOp
      simp only [at_drop hk, hwk, if_true]
      refine .inl ?_
      unfold Oper.wp
      rw [ha3 u w' hC, Oper.upon_value]
      refine ⟨hS _ (hAR u w' hC), ?_⟩
      rw [hm1, hl1]
      exact h u w' hC
    · obtain rfl : n2 = k := by simpa using hn2
      unfold wpOp
      simp only [at_drop hk, hwk, if_true]
      refine .inl ?_
      unfold Oper.wp
      rw [ha1 u w' hC, Oper.upon_value]
      refine ⟨hS _ (hAR u w' hC), wpAnyH_all hrjk (by simp) ?_⟩
      intro n3 hn3
      obtain rfl : n3 = i := by simpa using hn3
      unfold wpOp
      simp only [at_drop hi, hwi, if_true]
      refine .inl ?_
      unfold Oper.wp
      rw [hv3 u (xv w') _ (hAR u w' hC), Oper.upon_value]
      refine ⟨hS _ (hAR u w' hC), ?_⟩
      rw [hm2, hl2]
      exact h u w' hC
end
theorem cntT_at {L : Nat → List RE} {n : Nat} (h : cntT L ≤ n) (i : Nat) (hi : i < 4) : cntL (L i) ≤ n := by
  unfold cntT at h
  match i, hi with
  | 0, _ => omega
  | 1, _ => omega
  | 2, _ => omega
  | 3, _ => omega
theorem cnt_cls2 (L : Nat → List RE) : cntT (cls2 L) ≤ cntT L + 1 := by
  have h := cnt_then (L 1)
  show cntL (L 0 ++ [rThen (L 1)]) + cntL [] + cntL (L 2) + cntL (L 3) ≤ _
  rw [cntL_append, cntL_one]
  unfold cntT
  have : cntL [] = 0 := rfl
  omega
theorem cnt_cls1 (L : Nat → List RE) : cntT (cls1 L) ≤ cntT L + 2 := by
  have h := cnt_both (L 0)
  show cntL [] + cntL (L 1) + cntL (L 2 ++ [rBoth (L 0)]) + cntL (L 3) ≤ _
  rw [cntL_append, cntL_one]
  unfold cntT
  have : cntL [] = 0 := rfl
  omega
theorem take_ne {l : List RE} (h : l ≠ []) (k : Nat) : l.take (k + 1) ≠ [] := by
  cases l with
  | nil => exact absurd rfl h
  | cons x l => simp
theorem wf_butF {l : List RE} (h : ∀ r ∈ l, Wf r) (h0 : l ≠ []) : Wf (butF l) := by
  cases l with
  | nil => exact absurd rfl h0
  | cons x l =>
    have key : ∀ (l : List RE) (x : RE), Wf x → (∀ r ∈ l, Wf r) → Wf (l.foldl rBut x) := fun l => by
      induction l with
      | nil => intro x hx _; exact hx
      | cons y l ih => intro x hx hl; exact ih _ (wf_but hx (hl y (by simp))) (fun r hr => hl r (by simp [hr]))
    exact key l x (h x (by simp)) (fun r hr => h r (by simp [hr]))
set_option maxHeartbeats 4000000 in
theorem close3_any (w : World) (b : Nat → Nat) (v0 : Nat → Value) (L0 : Nat → List RE) (W0 : World) (h : LvS w b v0 L0 W0) (hT : TabAt w) (hc : cntT L0 ≤ 900) :
    Calls Tryz.prog 20 #[.int .i64 3, PT (b 0), PT (b 1), PT (b 2), PT (b 3)] W0 fun e W' => ∃ v', e = .returned (.tuple #[]) ∧ LvS w b v' (clsL 3 L0) W' := by
  have H0 := hide h
  have HTw := hide hT
  have HT0 := hide (hT.pastL h.below)
  have HN0 : Hid (cntT L0 ≤ 900) := hc
  clear h hT hc
  unfold PT
  go_enter Tryz.func20, Tryz.ntmps20
  go_wp2
  refine bodyPost_end (v := .tuple #[]) (by simp [results, Tryz.results20, go_sem]) rfl ?_
  exact ⟨_, rfl, H0.out⟩
set_option maxHeartbeats 4000000 in
theorem close2_any (w : World) (b : Nat → Nat) (v0 : Nat → Value) (L0 : Nat → List RE) (W0 : World) (h : LvS w b v0 L0 W0) (hT : TabAt w) (hc : cntT L0 ≤ 900) :
    Calls Tryz.prog 20 #[.int .i64 2, PT (b 0), PT (b 1), PT (b 2), PT (b 3)] W0 fun e W' => ∃ v', e = .returned (.tuple #[]) ∧ LvS w b v' (clsL 2 L0) W' := by
  have H0 := hide h
  have HTw := hide hT
  have HT0 := hide (hT.pastL h.below)
  have HN0 : Hid (cntT L0 ≤ 900) := hc
  clear h hT hc
  unfold PT
  go_enter Tryz.func20, Tryz.ntmps20
  go_wp2
  obtain ⟨S, hSd⟩ : ∃ S : World → Prop, S = fun V => V.cell? ⟨b 1, 0, none⟩ = some (v0 1) := ⟨_, rfl⟩
  have hSb : ∀ V, S V → V.cell? ⟨b 1, 0, none⟩ = some (v0 1) := fun V h => by rw [hSd] at h; exact h
  have hbS : ∀ V, V.cell? ⟨b 1, 0, none⟩ = some (v0 1) → S V := fun V h => by rw [hSd]; exact h
  have hD := H0.out.step (W' := { W0 with drawn := W0.drawn + 1 }) ⟨rfl, rfl, rfl, Nat.le_refl _, fun _ _ => rfl⟩
  have hTD := HT0.out.pastL (w' := { W0 with drawn := W0.drawn + 1 }) ⟨rfl, rfl, rfl, Nat.le_refl _, fun _ _ => rfl⟩
  have hS := hbS _ (hD.cell 1 (by decide))
  have hlY : (L0 1).length ≤ 1000 := by have := cntL_len (L0 1); have := cntT_at HN0.out 1 (by decide); omega
  have hlX : (L0 0).length ≤ 1000 := by have := cntL_len (L0 0); have := cntT_at HN0.out 0 (by decide); omega
  obtain ⟨q1, q2, q3, q4⟩ := ls_bounds (l := L0 1) (by have := cntT_at HN0.out 1 (by decide); omega)
  have hwY := H0.out.wf 1 (by decide)
  clear hSd
  refine wp_region_noPanic (wp_region_held (S := S) (by kernel_rfl) ?_)
  show wpAnyH _ _ _ _ _ 6 #[false, false, false, false, false, false] _ _
  generalize ({ W0 with drawn := W0.drawn + 1 } : World) = V at hS hD hTD ⊢
  refine h_take 1 (v0 1) rfl (by kernel_rfl) (by kernel_rfl) (by kernel_rfl) rfl (fun w hw => x_loadV _ _ _ _ _ _ _ (b 1) _ rfl w (hSb w hw)) hS ?_
  simp only [Act.put, List.setIfInBounds_toArray, List.set_cons_succ, List.set_cons_zero]
  refine h_lca 0 2 3 (v0 0) 21 #[v0 1] (fun V' => LvS w b v0 L0 V' ∧ TabAt V') (fun u V' => (∃ c, u = PT c ∧ ReAt V' c (rThen (L0 1))) ∧ LvS w b v0 L0 V' ∧ TabAt V') (fun V' => .slice (some ⟨V'.heap.size, 0, none⟩) 1 1) (fun u V' => V'.alloc (.cells #[u] 23)) rfl rfl rfl (by kernel_rfl) (by kernel_rfl) (by kernel_rfl) (by kernel_rfl) (by kernel_rfl) (by kernel_rfl) (fun _ => rfl) (fun _ => rfl) (fun _ => rfl)
    (fun w hw => x_loadV _ _ _ _ _ _ _ (b 0) _ rfl w (hw.1.cell 0 (by decide))) (fun u w hw => x_loadV _ _ _ _ _ _ _ (b 0) _ rfl w (hw.1.cell 0 (by decide))) (fun u x w hw => x_loadV _ _ _ _ _ _ _ (b 0) _ rfl w (hw.1.cell 0 (by decide)))
    (fun w => x_call1 _ _ _ _ _ _ _ _ _ _ rfl rfl (enters_of Tryz.func21 (by kernel_rfl) rfl) w) (fun w => x_call1 _ _ _ _ _ _ _ _ _ _ rfl rfl (enters_of Tryz.func21 (by kernel_rfl) rfl) w)
    (fun u w ⟨⟨c, e, _⟩, _⟩ => by subst e; exact x_build1R _ _ _ _ _ _ _ c rfl w) (fun u w ⟨⟨c, e, _⟩, _⟩ => by subst e; exact x_build1R _ _ _ _ _ _ _ c rfl w) (fun u w ⟨⟨c, e, _⟩, _⟩ => by subst e; exact x_build1R _ _ _ _ _ _ _ c rfl w)
    ((then_any (L0 1) _ V (hD.res 1 (by decide) hlY) hwY q1 q2).mono fun e V' ⟨c, h1, h2, h3⟩ => ⟨_, h1, ⟨c, rfl, h2⟩, hD.step h3, hTD.pastL h3⟩) (fun u V' hh => hh.2) (fun u V' hh => ⟨hh.2.1.step ((Below.refl _ _).alloc (Nat.le_refl _) _), hh.2.2.pastL ((Below.refl _ _).alloc (Nat.le_refl _) _)⟩) (fun V' hh => hbS _ (hh.1.cell 1 (by decide))) ⟨hD, hTD⟩ (fun u x => rfl) (fun u x => rfl) rfl rfl ?_
  rintro u V1 ⟨⟨c, rfl, hrc⟩, hL1, hT1⟩
  simp only [Act.put, List.setIfInBounds_toArray, List.set_cons_succ, List.set_cons_zero]
  have hb2 := (Below.refl V1.heap.size V1).alloc (Nat.le_refl _) (.cells #[PT c] 23)
  obtain ⟨vn, V3, hr3, hL3, ⟨sa, sn, sk, rfl⟩, hB3⟩ := (hL1.step hb2).push 0 (by decide) 47 V1.heap.size c (rThen (L0 1)) (Blk.newAt rfl _ _) (hrc.keep hb2) (wf_then hwY) hlX
  refine h_oper 4 rfl (by kernel_rfl) rfl (wp_append_run _ _ _ rfl _ _ _ rfl rfl hr3 ⟨hbS _ ((hB3 1 (by decide)).cell 0), ?_⟩)
  simp only [Act.put, List.setIfInBounds_toArray, List.set_cons_succ, List.set_cons_zero]
  have hc3 := hL3.cell 1 (by decide)
  rw [upd_other _ _ (by decide)] at hc3
  refine h_step 5 _ rfl (by kernel_rfl) rfl (x_storeV _ _ _ _ _ _ _ _ (b 0) _ _ _ _ rfl rfl V3 (hB3 0 (by decide))) (hbS _ hc3) ?_
  simp only [Act.put, List.setIfInBounds_toArray, List.set_cons_succ, List.set_cons_zero]
  refine wpAnyH_done (by kernel_rfl) ?_ _
  refine NoPanic.normal ?_
  have hTn := HTw.out.pastL hL3.below
  clear hSb hbS hD hTD hS hwY hrc hL1 hT1 hb2 hr3 hB3 hc3 H0 HT0 q1 q2 q3 q4 hlX hlY
  generalize V3.setCell ⟨b 0, 0, none⟩ (.slice sa sn sk) = V4 at hL3 hTn ⊢
  -- the other one is let go
  have hB4 := hL3.box 1 (by decide)
  have c4 := hB4.cell 0
  have f4 := hB4.frozen 0
  simp only [List.getElem?_toArray, List.getElem?_cons_zero] at c4
  have hL5 := hL3.clear 1 (by decide)
  obtain ⟨W1, hW⟩ : ∃ X, X = V4.setCell ⟨b 1, 0, none⟩ (.slice none 0 0) := ⟨_, rfl⟩
  rw [← hW] at hL5
  have ew := hW.symm
  obtain ⟨v1, hv⟩ : ∃ X, X = upd (upd v0 0 (.slice sa sn sk)) 1 (.slice none 0 0) := ⟨_, rfl⟩
  rw [← hv] at hL5
  obtain ⟨L1, hLL⟩ : ∃ X, X = upd (upd L0 0 (L0 0 ++ [rThen (L0 1)])) 1 [] := ⟨_, rfl⟩
  rw [← hLL] at hL5
  have HLL1 : Hid (L1 = cls2 L0) := hLL
  have H1 := hide hL5
  have HT1 := hide (HTw.out.pastL hL5.below)
  have HN1 : Hid (cntT L1 ≤ cntT L0 + 2 ∧ True) := ⟨by rw [hLL]; exact Nat.le_trans (cnt_cls2 L0) (by omega), trivial⟩
  have HN1 : Hid (cntT L1 ≤ 903) := by show _ ≤ _; have := HN1.out.1; have := HN0.out; omega
  clear hL3 hTn hB4 hL5 hW hv hLL
  go_wp2
  refine bodyPost_end (v := .tuple #[]) (by simp [results, Tryz.results20, go_sem]) rfl ?_
  exact ⟨_, rfl, by have := H1.out; rw [HLL1.out] at this; exact this⟩
set_option maxHeartbeats 4000000 in
theorem close1_any (w : World) (b : Nat → Nat) (v0 : Nat → Value) (L0 : Nat → List RE) (W0 : World) (h : LvS w b v0 L0 W0) (hT : TabAt w) (hc : cntT L0 ≤ 900) :
    Calls Tryz.prog 20 #[.int .i64 1, PT (b 0), PT (b 1), PT (b 2), PT (b 3)] W0 fun e W' => ∃ v', e = .returned (.tuple #[]) ∧ LvS w b v' (clsL 1 L0) W' := by
  have H0 := hide h
  have HTw := hide hT
  have HT0 := hide (hT.pastL h.below)
  have HN0 : Hid (cntT L0 ≤ 900) := hc
  clear h hT hc
  unfold PT
  go_enter Tryz.func20, Tryz.ntmps20
  go_wp2
  obtain ⟨S, hSd⟩ : ∃ S : World → Prop, S = fun V => V.cell? ⟨b 1, 0, none⟩ = some (v0 1) := ⟨_, rfl⟩
  have hSb : ∀ V, S V → V.cell? ⟨b 1, 0, none⟩ = some (v0 1) := fun V h => by rw [hSd] at h; exact h
  have hbS : ∀ V, V.cell? ⟨b 1, 0, none⟩ = some (v0 1) → S V := fun V h => by rw [hSd]; exact h
  have hD := H0.out.step (W' := { W0 with drawn := W0.drawn + 1 }) ⟨rfl, rfl, rfl, Nat.le_refl _, fun _ _ => rfl⟩
  have hTD := HT0.out.pastL (w' := { W0 with drawn := W0.drawn + 1 }) ⟨rfl, rfl, rfl, Nat.le_refl _, fun _ _ => rfl⟩
  have hS := hbS _ (hD.cell 1 (by decide))
  have hlY : (L0 1).length ≤ 1000 := by have := cntL_len (L0 1); have := cntT_at HN0.out 1 (by decide); omega
  have hlX : (L0 0).length ≤ 1000 := by have := cntL_len (L0 0); have := cntT_at HN0.out 0 (by decide); omega
  obtain ⟨q1, q2, q3, q4⟩ := ls_bounds (l := L0 1) (by have := cntT_at HN0.out 1 (by decide); omega)
  have hwY := H0.out.wf 1 (by decide)
  clear hSd
  refine wp_region_noPanic (wp_region_held (S := S) (by kernel_rfl) ?_)
  show wpAnyH _ _ _ _ _ 6 #[false, false, false, false, false, false] _ _
  generalize ({ W0 with drawn := W0.drawn + 1 } : World) = V at hS hD hTD ⊢
  refine h_take 1 (v0 1) rfl (by kernel_rfl) (by kernel_rfl) (by kernel_rfl) rfl (fun w hw => x_loadV _ _ _ _ _ _ _ (b 1) _ rfl w (hSb w hw)) hS ?_
  simp only [Act.put, List.setIfInBounds_toArray, List.set_cons_succ, List.set_cons_zero]
  refine h_lca 0 2 3 (v0 0) 21 #[v0 1] (fun V' => LvS w b v0 L0 V' ∧ TabAt V') (fun u V' => (∃ c, u = PT c ∧ ReAt V' c (rThen (L0 1))) ∧ LvS w b v0 L0 V' ∧ TabAt V') (fun V' => .slice (some ⟨V'.heap.size, 0, none⟩) 1 1) (fun u V' => V'.alloc (.cells #[u] 23)) rfl rfl rfl (by kernel_rfl) (by kernel_rfl) (by kernel_rfl) (by kernel_rfl) (by kernel_rfl) (by kernel_rfl) (fun _ => rfl) (fun _ => rfl) (fun _ => rfl)
    (fun w hw => x_loadV _ _ _ _ _ _ _ (b 0) _ rfl w (hw.1.cell 0 (by decide))) (fun u w hw => x_loadV _ _ _ _ _ _ _ (b 0) _ rfl w (hw.1.cell 0 (by decide))) (fun u x w hw => x_loadV _ _ _ _ _ _ _ (b 0) _ rfl w (hw.1.cell 0 (by decide)))
    (fun w => x_call1 _ _ _ _ _ _ _ _ _ _ rfl rfl (enters_of Tryz.func21 (by kernel_rfl) rfl) w) (fun w => x_call1 _ _ _ _ _ _ _ _ _ _ rfl rfl (enters_of Tryz.func21 (by kernel_rfl) rfl) w)
    (fun u w ⟨⟨c, e, _⟩, _⟩ => by subst e; exact x_build1R _ _ _ _ _ _ _ c rfl w) (fun u w ⟨⟨c, e, _⟩, _⟩ => by subst e; exact x_build1R _ _ _ _ _ _ _ c rfl w) (fun u w ⟨⟨c, e, _⟩, _⟩ => by subst e; exact x_build1R _ _ _ _ _ _ _ c rfl w)
    ((then_any (L0 1) _ V (hD.res 1 (by decide) hlY) hwY q1 q2).mono fun e V' ⟨c, h1, h2, h3⟩ => ⟨_, h1, ⟨c, rfl, h2⟩, hD.step h3, hTD.pastL h3⟩) (fun u V' hh => hh.2) (fun u V' hh => ⟨hh.2.1.step ((Below.refl _ _).alloc (Nat.le_refl _) _), hh.2.2.pastL ((Below.refl _ _).alloc (Nat.le_refl _) _)⟩) (fun V' hh => hbS _ (hh.1.cell 1 (by decide))) ⟨hD, hTD⟩ (fun u x => rfl) (fun u x => rfl) rfl rfl ?_
  rintro u V1 ⟨⟨c, rfl, hrc⟩, hL1, hT1⟩
  simp only [Act.put, List.setIfInBounds_toArray, List.set_cons_succ, List.set_cons_zero]
  have hb2 := (Below.refl V1.heap.size V1).alloc (Nat.le_refl _) (.cells #[PT c] 23)
  obtain ⟨vn, V3, hr3, hL3, ⟨sa, sn, sk, rfl⟩, hB3⟩ := (hL1.step hb2).push 0 (by decide) 47 V1.heap.size c (rThen (L0 1)) (Blk.newAt rfl _ _) (hrc.keep hb2) (wf_then hwY) hlX
  refine h_oper 4 rfl (by kernel_rfl) rfl (wp_append_run _ _ _ rfl _ _ _ rfl rfl hr3 ⟨hbS _ ((hB3 1 (by decide)).cell 0), ?_⟩)
  simp only [Act.put, List.setIfInBounds_toArray, List.set_cons_succ, List.set_cons_zero]
  have hc3 := hL3.cell 1 (by decide)
  rw [upd_other _ _ (by decide)] at hc3
  refine h_step 5 _ rfl (by kernel_rfl) rfl (x_storeV _ _ _ _ _ _ _ _ (b 0) _ _ _ _ rfl rfl V3 (hB3 0 (by decide))) (hbS _ hc3) ?_
  simp only [Act.put, List.setIfInBounds_toArray, List.set_cons_succ, List.set_cons_zero]
  refine wpAnyH_done (by kernel_rfl) ?_ _
  refine NoPanic.normal ?_
  have hTn := HTw.out.pastL hL3.below
  clear hSb hbS hD hTD hS hwY hrc hL1 hT1 hb2 hr3 hB3 hc3 H0 HT0 q1 q2 q3 q4 hlX hlY
  generalize V3.setCell ⟨b 0, 0, none⟩ (.slice sa sn sk) = V4 at hL3 hTn ⊢
  -- the other one is let go
  have hB4 := hL3.box 1 (by decide)
  have c4 := hB4.cell 0
  have f4 := hB4.frozen 0
  simp only [List.getElem?_toArray, List.getElem?_cons_zero] at c4
  have hL5 := hL3.clear 1 (by decide)
  obtain ⟨W1, hW⟩ : ∃ X, X = V4.setCell ⟨b 1, 0, none⟩ (.slice none 0 0) := ⟨_, rfl⟩
  rw [← hW] at hL5
  have ew := hW.symm
  obtain ⟨v1, hv⟩ : ∃ X, X = upd (upd v0 0 (.slice sa sn sk)) 1 (.slice none 0 0) := ⟨_, rfl⟩
  rw [← hv] at hL5
  obtain ⟨L1, hLL⟩ : ∃ X, X = upd (upd L0 0 (L0 0 ++ [rThen (L0 1)])) 1 [] := ⟨_, rfl⟩
  rw [← hLL] at hL5
  have HLL1 : Hid (L1 = cls2 L0) := hLL
  have H1 := hide hL5
  have HT1 := hide (HTw.out.pastL hL5.below)
  have HN1 : Hid (cntT L1 ≤ cntT L0 + 2 ∧ True) := ⟨by rw [hLL]; exact Nat.le_trans (cnt_cls2 L0) (by omega), trivial⟩
  have HN1 : Hid (cntT L1 ≤ 903) := by show _ ≤ _; have := HN1.out.1; have := HN0.out; omega
  clear hL3 hTn hB4 hL5 hW hv hLL
  go_wp2
  obtain ⟨S, hSd⟩ : ∃ S : World → Prop, S = fun V => V.cell? ⟨b 0, 0, none⟩ = some (v1 0) := ⟨_, rfl⟩
  have hSb : ∀ V, S V → V.cell? ⟨b 0, 0, none⟩ = some (v1 0) := fun V h => by rw [hSd] at h; exact h
  have hbS : ∀ V, V.cell? ⟨b 0, 0, none⟩ = some (v1 0) → S V := fun V h => by rw [hSd]; exact h
  have hD := H1.out.step (W' := { W1 with drawn := W1.drawn + 1 }) ⟨rfl, rfl, rfl, Nat.le_refl _, fun _ _ => rfl⟩
  have hTD := HT1.out.pastL (w' := { W1 with drawn := W1.drawn + 1 }) ⟨rfl, rfl, rfl, Nat.le_refl _, fun _ _ => rfl⟩
  have hS := hbS _ (hD.cell 0 (by decide))
  have hlY : (L1 0).length ≤ 1000 := by have := cntL_len (L1 0); have := cntT_at HN1.out 0 (by decide); omega
  have hlX : (L1 2).length ≤ 1000 := by have := cntL_len (L1 2); have := cntT_at HN1.out 2 (by decide); omega
  obtain ⟨q1, q2, q3, q4⟩ := ls_bounds (l := L1 0) (by have := cntT_at HN1.out 0 (by decide); omega)
  have hwY := H1.out.wf 0 (by decide)
  clear hSd
  refine wp_region_noPanic (wp_region_held (S := S) (by kernel_rfl) ?_)
  show wpAnyH _ _ _ _ _ 6 #[false, false, false, false, false, false] _ _
  generalize ({ W1 with drawn := W1.drawn + 1 } : World) = V at hS hD hTD ⊢
  refine h_take 1 (v1 0) rfl (by kernel_rfl) (by kernel_rfl) (by kernel_rfl) rfl (fun w hw => x_loadV _ _ _ _ _ _ _ (b 0) _ rfl w (hSb w hw)) hS ?_
  simp only [Act.put, List.setIfInBounds_toArray, List.set_cons_succ, List.set_cons_zero]
  refine h_lca 0 2 3 (v1 2) 22 #[v1 0] (fun V' => LvS w b v1 L1 V' ∧ TabAt V') (fun u V' => (∃ c, u = PT c ∧ ReAt V' c (rBoth (L1 0))) ∧ LvS w b v1 L1 V' ∧ TabAt V') (fun V' => .slice (some ⟨V'.heap.size, 0, none⟩) 1 1) (fun u V' => V'.alloc (.cells #[u] 23)) rfl rfl rfl (by kernel_rfl) (by kernel_rfl) (by kernel_rfl) (by kernel_rfl) (by kernel_rfl) (by kernel_rfl) (fun _ => rfl) (fun _ => rfl) (fun _ => rfl)
    (fun w hw => x_loadV _ _ _ _ _ _ _ (b 2) _ rfl w (hw.1.cell 2 (by decide))) (fun u w hw => x_loadV _ _ _ _ _ _ _ (b 2) _ rfl w (hw.1.cell 2 (by decide))) (fun u x w hw => x_loadV _ _ _ _ _ _ _ (b 2) _ rfl w (hw.1.cell 2 (by decide)))
    (fun w => x_call1 _ _ _ _ _ _ _ _ _ _ rfl rfl (enters_of Tryz.func22 (by kernel_rfl) rfl) w) (fun w => x_call1 _ _ _ _ _ _ _ _ _ _ rfl rfl (enters_of Tryz.func22 (by kernel_rfl) rfl) w)
    (fun u w ⟨⟨c, e, _⟩, _⟩ => by subst e; exact x_build1R _ _ _ _ _ _ _ c rfl w) (fun u w ⟨⟨c, e, _⟩, _⟩ => by subst e; exact x_build1R _ _ _ _ _ _ _ c rfl w) (fun u w ⟨⟨c, e, _⟩, _⟩ => by subst e; exact x_build1R _ _ _ _ _ _ _ c rfl w)
    ((both_re (L1 0) _ V (hD.res 0 (by decide) hlY) hwY q1 q4 hTD).mono fun e V' ⟨c, h1, h2, h3⟩ => ⟨_, h1, ⟨c, rfl, h2⟩, hD.step h3, hTD.pastL h3⟩) (fun u V' hh => hh.2) (fun u V' hh => ⟨hh.2.1.step ((Below.refl _ _).alloc (Nat.le_refl _) _), hh.2.2.pastL ((Below.refl _ _).alloc (Nat.le_refl _) _)⟩) (fun V' hh => hbS _ (hh.1.cell 0 (by decide))) ⟨hD, hTD⟩ (fun u x => rfl) (fun u x => rfl) rfl rfl ?_
  rintro u V1 ⟨⟨c, rfl, hrc⟩, hL1, hT1⟩
  simp only [Act.put, List.setIfInBounds_toArray, List.set_cons_succ, List.set_cons_zero]
  have hb2 := (Below.refl V1.heap.size V1).alloc (Nat.le_refl _) (.cells #[PT c] 23)
  obtain ⟨vn, V3, hr3, hL3, ⟨sa, sn, sk, rfl⟩, hB3⟩ := (hL1.step hb2).push 2 (by decide) 47 V1.heap.size c (rBoth (L1 0)) (Blk.newAt rfl _ _) (hrc.keep hb2) (wf_both hwY) hlX
  refine h_oper 4 rfl (by kernel_rfl) rfl (wp_append_run _ _ _ rfl _ _ _ rfl rfl hr3 ⟨hbS _ ((hB3 0 (by decide)).cell 0), ?_⟩)
  simp only [Act.put, List.setIfInBounds_toArray, List.set_cons_succ, List.set_cons_zero]
  have hc3 := hL3.cell 0 (by decide)
  rw [upd_other _ _ (by decide)] at hc3
  refine h_step 5 _ rfl (by kernel_rfl) rfl (x_storeV _ _ _ _ _ _ _ _ (b 2) _ _ _ _ rfl rfl V3 (hB3 2 (by decide))) (hbS _ hc3) ?_
  simp only [Act.put, List.setIfInBounds_toArray, List.set_cons_succ, List.set_cons_zero]
  refine wpAnyH_done (by kernel_rfl) ?_ _
  refine NoPanic.normal ?_
  have hTn := HTw.out.pastL hL3.below
  clear hSb hbS hD hTD hS hwY hrc hL1 hT1 hb2 hr3 hB3 hc3 H1 HT1 q1 q2 q3 q4 hlX hlY
  generalize V3.setCell ⟨b 2, 0, none⟩ (.slice sa sn sk) = V4 at hL3 hTn ⊢
  -- the other one is let go
  have hB4 := hL3.box 0 (by decide)
  have c4 := hB4.cell 0
  have f4 := hB4.frozen 0
  simp only [List.getElem?_toArray, List.getElem?_cons_zero] at c4
  have hL5 := hL3.clear 0 (by decide)
  obtain ⟨W2, hW⟩ : ∃ X, X = V4.setCell ⟨b 0, 0, none⟩ (.slice none 0 0) := ⟨_, rfl⟩
  rw [← hW] at hL5
  have ew := hW.symm
  obtain ⟨v2, hv⟩ : ∃ X, X = upd (upd v1 2 (.slice sa sn sk)) 0 (.slice none 0 0) := ⟨_, rfl⟩
  rw [← hv] at hL5
  obtain ⟨L2, hLL⟩ : ∃ X, X = upd (upd L1 2 (L1 2 ++ [rBoth (L1 0)])) 0 [] := ⟨_, rfl⟩
  rw [← hLL] at hL5
  have HLL2 : Hid (L2 = cls1 L1) := hLL
  have H2 := hide hL5
  have HT2 := hide (HTw.out.pastL hL5.below)
  have HN2 : Hid (cntT L2 ≤ cntT L1 + 2 ∧ True) := ⟨by rw [hLL]; exact Nat.le_trans (cnt_cls1 L1) (by omega), trivial⟩
  have HN2 : Hid (cntT L2 ≤ 906) := by show _ ≤ _; have := HN2.out.1; have := HN1.out; omega
  clear hL3 hTn hB4 hL5 hW hv hLL
  go_wp2
  refine bodyPost_end (v := .tuple #[]) (by simp [results, Tryz.results20, go_sem]) rfl ?_
  exact ⟨_, rfl, by have := H2.out; rw [HLL2.out, HLL1.out] at this; exact this⟩
set_option maxHeartbeats 4000000 in
theorem close0_any (w : World) (b : Nat → Nat) (v0 : Nat → Value) (L0 : Nat → List RE) (W0 : World) (h : LvS w b v0 L0 W0) (hT : TabAt w) (hc : cntT L0 ≤ 900) :
    Calls Tryz.prog 20 #[.int .i64 0, PT (b 0), PT (b 1), PT (b 2), PT (b 3)] W0 fun e W' => ∃ v', e = .returned (.tuple #[]) ∧ LvS w b v' (clsL 0 L0) W' := by
  have H0 := hide h
  have HTw := hide hT
  have HT0 := hide (hT.pastL h.below)
  have HN0 : Hid (cntT L0 ≤ 900) := hc
  clear h hT hc
  unfold PT
  go_enter Tryz.func20, Tryz.ntmps20
  go_wp2
  obtain ⟨S, hSd⟩ : ∃ S : World → Prop, S = fun V => V.cell? ⟨b 1, 0, none⟩ = some (v0 1) := ⟨_, rfl⟩
  have hSb : ∀ V, S V → V.cell? ⟨b 1, 0, none⟩ = some (v0 1) := fun V h => by rw [hSd] at h; exact h
  have hbS : ∀ V, V.cell? ⟨b 1, 0, none⟩ = some (v0 1) → S V := fun V h => by rw [hSd]; exact h
  have hD := H0.out.step (W' := { W0 with drawn := W0.drawn + 1 }) ⟨rfl, rfl, rfl, Nat.le_refl _, fun _ _ => rfl⟩
  have hTD := HT0.out.pastL (w' := { W0 with drawn := W0.drawn + 1 }) ⟨rfl, rfl, rfl, Nat.le_refl _, fun _ _ => rfl⟩
  have hS := hbS _ (hD.cell 1 (by decide))
  have hlY : (L0 1).length ≤ 1000 := by have := cntL_len (L0 1); have := cntT_at HN0.out 1 (by decide); omega
  have hlX : (L0 0).length ≤ 1000 := by have := cntL_len (L0 0); have := cntT_at HN0.out 0 (by decide); omega
  obtain ⟨q1, q2, q3, q4⟩ := ls_bounds (l := L0 1) (by have := cntT_at HN0.out 1 (by decide); omega)
  have hwY := H0.out.wf 1 (by decide)
  clear hSd
  refine wp_region_noPanic (wp_region_held (S := S) (by kernel_rfl) ?_)
  show wpAnyH _ _ _ _ _ 6 #[false, false, false, false, false, false] _ _
  generalize ({ W0 with drawn := W0.drawn + 1 } : World) = V at hS hD hTD ⊢
  refine h_take 1 (v0 1) rfl (by kernel_rfl) (by kernel_rfl) (by kernel_rfl) rfl (fun w hw => x_loadV _ _ _ _ _ _ _ (b 1) _ rfl w (hSb w hw)) hS ?_
  simp only [Act.put, List.setIfInBounds_toArray, List.set_cons_succ, List.set_cons_zero]
  refine h_lca 0 2 3 (v0 0) 21 #[v0 1] (fun V' => LvS w b v0 L0 V' ∧ TabAt V') (fun u V' => (∃ c, u = PT c ∧ ReAt V' c (rThen (L0 1))) ∧ LvS w b v0 L0 V' ∧ TabAt V') (fun V' => .slice (some ⟨V'.heap.size, 0, none⟩) 1 1) (fun u V' => V'.alloc (.cells #[u] 23)) rfl rfl rfl (by kernel_rfl) (by kernel_rfl) (by kernel_rfl) (by kernel_rfl) (by kernel_rfl) (by kernel_rfl) (fun _ => rfl) (fun _ => rfl) (fun _ => rfl)
    (fun w hw => x_loadV _ _ _ _ _ _ _ (b 0) _ rfl w (hw.1.cell 0 (by decide))) (fun u w hw => x_loadV _ _ _ _ _ _ _ (b 0) _ rfl w (hw.1.cell 0 (by decide))) (fun u x w hw => x_loadV _ _ _ _ _ _ _ (b 0) _ rfl w (hw.1.cell 0 (by decide)))
    (fun w => x_call1 _ _ _ _ _ _ _ _ _ _ rfl rfl (enters_of Tryz.func21 (by kernel_rfl) rfl) w) (fun w => x_call1 _ _ _ _ _ _ _ _ _ _ rfl rfl (enters_of Tryz.func21 (by kernel_rfl) rfl) w)
    (fun u w ⟨⟨c, e, _⟩, _⟩ => by subst e; exact x_build1R _ _ _ _ _ _ _ c rfl w) (fun u w ⟨⟨c, e, _⟩, _⟩ => by subst e; exact x_build1R _ _ _ _ _ _ _ c rfl w) (fun u w ⟨⟨c, e, _⟩, _⟩ => by subst e; exact x_build1R _ _ _ _ _ _ _ c rfl w)
    ((then_any (L0 1) _ V (hD.res 1 (by decide) hlY) hwY q1 q2).mono fun e V' ⟨c, h1, h2, h3⟩ => ⟨_, h1, ⟨c, rfl, h2⟩, hD.step h3, hTD.pastL h3⟩) (fun u V' hh => hh.2) (fun u V' hh => ⟨hh.2.1.step ((Below.refl _ _).alloc (Nat.le_refl _) _), hh.2.2.pastL ((Below.refl _ _).alloc (Nat.le_refl _) _)⟩) (fun V' hh => hbS _ (hh.1.cell 1 (by decide))) ⟨hD, hTD⟩ (fun u x => rfl) (fun u x => rfl) rfl rfl ?_
  rintro u V1 ⟨⟨c, rfl, hrc⟩, hL1, hT1⟩
  simp only [Act.put, List.setIfInBounds_toArray, List.set_cons_succ, List.set_cons_zero]
  have hb2 := (Below.refl V1.heap.size V1).alloc (Nat.le_refl _) (.cells #[PT c] 23)
  obtain ⟨vn, V3, hr3, hL3, ⟨sa, sn, sk, rfl⟩, hB3⟩ := (hL1.step hb2).push 0 (by decide) 47 V1.heap.size c (rThen (L0 1)) (Blk.newAt rfl _ _) (hrc.keep hb2) (wf_then hwY) hlX
  refine h_oper 4 rfl (by kernel_rfl) rfl (wp_append_run _ _ _ rfl _ _ _ rfl rfl hr3 ⟨hbS _ ((hB3 1 (by decide)).cell 0), ?_⟩)
  simp only [Act.put, List.setIfInBounds_toArray, List.set_cons_succ, List.set_cons_zero]
  have hc3 := hL3.cell 1 (by decide)
  rw [upd_other _ _ (by decide)] at hc3
  refine h_step 5 _ rfl (by kernel_rfl) rfl (x_storeV _ _ _ _ _ _ _ _ (b 0) _ _ _ _ rfl rfl V3 (hB3 0 (by decide))) (hbS _ hc3) ?_
  simp only [Act.put, List.setIfInBounds_toArray, List.set_cons_succ, List.set_cons_zero]
  refine wpAnyH_done (by kernel_rfl) ?_ _
  refine NoPanic.normal ?_
  have hTn := HTw.out.pastL hL3.below
  clear hSb hbS hD hTD hS hwY hrc hL1 hT1 hb2 hr3 hB3 hc3 H0 HT0 q1 q2 q3 q4 hlX hlY
  generalize V3.setCell ⟨b 0, 0, none⟩ (.slice sa sn sk) = V4 at hL3 hTn ⊢
  -- the other one is let go
  have hB4 := hL3.box 1 (by decide)
  have c4 := hB4.cell 0
  have f4 := hB4.frozen 0
  simp only [List.getElem?_toArray, List.getElem?_cons_zero] at c4
  have hL5 := hL3.clear 1 (by decide)
  obtain ⟨W1, hW⟩ : ∃ X, X = V4.setCell ⟨b 1, 0, none⟩ (.slice none 0 0) := ⟨_, rfl⟩
  rw [← hW] at hL5
  have ew := hW.symm
  obtain ⟨v1, hv⟩ : ∃ X, X = upd (upd v0 0 (.slice sa sn sk)) 1 (.slice none 0 0) := ⟨_, rfl⟩
  rw [← hv] at hL5
  obtain ⟨L1, hLL⟩ : ∃ X, X = upd (upd L0 0 (L0 0 ++ [rThen (L0 1)])) 1 [] := ⟨_, rfl⟩
  rw [← hLL] at hL5
  have HLL1 : Hid (L1 = cls2 L0) := hLL
  have H1 := hide hL5
  have HT1 := hide (HTw.out.pastL hL5.below)
  have HN1 : Hid (cntT L1 ≤ cntT L0 + 2 ∧ True) := ⟨by rw [hLL]; exact Nat.le_trans (cnt_cls2 L0) (by omega), trivial⟩
  have HN1 : Hid (cntT L1 ≤ 903) := by show _ ≤ _; have := HN1.out.1; have := HN0.out; omega
  clear hL3 hTn hB4 hL5 hW hv hLL
  go_wp2
  obtain ⟨S, hSd⟩ : ∃ S : World → Prop, S = fun V => V.cell? ⟨b 0, 0, none⟩ = some (v1 0) := ⟨_, rfl⟩
  have hSb : ∀ V, S V → V.cell? ⟨b 0, 0, none⟩ = some (v1 0) := fun V h => by rw [hSd] at h; exact h
  have hbS : ∀ V, V.cell? ⟨b 0, 0, none⟩ = some (v1 0) → S V := fun V h => by rw [hSd]; exact h
  have hD := H1.out.step (W' := { W1 with drawn := W1.drawn + 1 }) ⟨rfl, rfl, rfl, Nat.le_refl _, fun _ _ => rfl⟩
  have hTD := HT1.out.pastL (w' := { W1 with drawn := W1.drawn + 1 }) ⟨rfl, rfl, rfl, Nat.le_refl _, fun _ _ => rfl⟩
  have hS := hbS _ (hD.cell 0 (by decide))
  have hlY : (L1 0).length ≤ 1000 := by have := cntL_len (L1 0); have := cntT_at HN1.out 0 (by decide); omega
  have hlX : (L1 2).length ≤ 1000 := by have := cntL_len (L1 2); have := cntT_at HN1.out 2 (by decide); omega
  obtain ⟨q1, q2, q3, q4⟩ := ls_bounds (l := L1 0) (by have := cntT_at HN1.out 0 (by decide); omega)
  have hwY := H1.out.wf 0 (by decide)
  clear hSd
  refine wp_region_noPanic (wp_region_held (S := S) (by kernel_rfl) ?_)
  show wpAnyH _ _ _ _ _ 6 #[false, false, false, false, false, false] _ _
  generalize ({ W1 with drawn := W1.drawn + 1 } : World) = V at hS hD hTD ⊢
  refine h_take 1 (v1 0) rfl (by kernel_rfl) (by kernel_rfl) (by kernel_rfl) rfl (fun w hw => x_loadV _ _ _ _ _ _ _ (b 0) _ rfl w (hSb w hw)) hS ?_
  simp only [Act.put, List.setIfInBounds_toArray, List.set_cons_succ, List.set_cons_zero]
  refine h_lca 0 2 3 (v1 2) 22 #[v1 0] (fun V' => LvS w b v1 L1 V' ∧ TabAt V') (fun u V' => (∃ c, u = PT c ∧ ReAt V' c (rBoth (L1 0))) ∧ LvS w b v1 L1 V' ∧ TabAt V') (fun V' => .slice (some ⟨V'.heap.size, 0, none⟩) 1 1) (fun u V' => V'.alloc (.cells #[u] 23)) rfl rfl rfl (by kernel_rfl) (by kernel_rfl) (by kernel_rfl) (by kernel_rfl) (by kernel_rfl) (by kernel_rfl) (fun _ => rfl) (fun _ => rfl) (fun _ => rfl)
    (fun w hw => x_loadV _ _ _ _ _ _ _ (b 2) _ rfl w (hw.1.cell 2 (by decide))) (fun u w hw => x_loadV _ _ _ _ _ _ _ (b 2) _ rfl w (hw.1.cell 2 (by decide))) (fun u x w hw => x_loadV _ _ _ _ _ _ _ (b 2) _ rfl w (hw.1.cell 2 (by decide)))
    (fun w => x_call1 _ _ _ _ _ _ _ _ _ _ rfl rfl (enters_of Tryz.func22 (by kernel_rfl) rfl) w) (fun w => x_call1 _ _ _ _ _ _ _ _ _ _ rfl rfl (enters_of Tryz.func22 (by kernel_rfl) rfl) w)
    (fun u w ⟨⟨c, e, _⟩, _⟩ => by subst e; exact x_build1R _ _ _ _ _ _ _ c rfl w) (fun u w ⟨⟨c, e, _⟩, _⟩ => by subst e; exact x_build1R _ _ _ _ _ _ _ c rfl w) (fun u w ⟨⟨c, e, _⟩, _⟩ => by subst e; exact x_build1R _ _ _ _ _ _ _ c rfl w)
    ((both_re (L1 0) _ V (hD.res 0 (by decide) hlY) hwY q1 q4 hTD).mono fun e V' ⟨c, h1, h2, h3⟩ => ⟨_, h1, ⟨c, rfl, h2⟩, hD.step h3, hTD.pastL h3⟩) (fun u V' hh => hh.2) (fun u V' hh => ⟨hh.2.1.step ((Below.refl _ _).alloc (Nat.le_refl _) _), hh.2.2.pastL ((Below.refl _ _).alloc (Nat.le_refl _) _)⟩) (fun V' hh => hbS _ (hh.1.cell 0 (by decide))) ⟨hD, hTD⟩ (fun u x => rfl) (fun u x => rfl) rfl rfl ?_
  rintro u V1 ⟨⟨c, rfl, hrc⟩, hL1, hT1⟩
  simp only [Act.put, List.setIfInBounds_toArray, List.set_cons_succ, List.set_cons_zero]
  have hb2 := (Below.refl V1.heap.size V1).alloc (Nat.le_refl _) (.cells #[PT c] 23)
  obtain ⟨vn, V3, hr3, hL3, ⟨sa, sn, sk, rfl⟩, hB3⟩ := (hL1.step hb2).push 2 (by decide) 47 V1.heap.size c (rBoth (L1 0)) (Blk.newAt rfl _ _) (hrc.keep hb2) (wf_both hwY) hlX
  refine h_oper 4 rfl (by kernel_rfl) rfl (wp_append_run _ _ _ rfl _ _ _ rfl rfl hr3 ⟨hbS _ ((hB3 0 (by decide)).cell 0), ?_⟩)
  simp only [Act.put, List.setIfInBounds_toArray, List.set_cons_succ, List.set_cons_zero]
  have hc3 := hL3.cell 0 (by decide)
  rw [upd_other _ _ (by decide)] at hc3
  refine h_step 5 _ rfl (by kernel_rfl) rfl (x_storeV _ _ _ _ _ _ _ _ (b 2) _ _ _ _ rfl rfl V3 (hB3 2 (by decide))) (hbS _ hc3) ?_
  simp only [Act.put, List.setIfInBounds_toArray, List.set_cons_succ, List.set_cons_zero]
  refine wpAnyH_done (by kernel_rfl) ?_ _
  refine NoPanic.normal ?_
  have hTn := HTw.out.pastL hL3.below
  clear hSb hbS hD hTD hS hwY hrc hL1 hT1 hb2 hr3 hB3 hc3 H1 HT1 q1 q2 q3 q4 hlX hlY
  generalize V3.setCell ⟨b 2, 0, none⟩ (.slice sa sn sk) = V4 at hL3 hTn ⊢
  -- the other one is let go
  have hB4 := hL3.box 0 (by decide)
  have c4 := hB4.cell 0
  have f4 := hB4.frozen 0
  simp only [List.getElem?_toArray, List.getElem?_cons_zero] at c4
  have hL5 := hL3.clear 0 (by decide)
  obtain ⟨W2, hW⟩ : ∃ X, X = V4.setCell ⟨b 0, 0, none⟩ (.slice none 0 0) := ⟨_, rfl⟩
  rw [← hW] at hL5
  have ew := hW.symm
  obtain ⟨v2, hv⟩ : ∃ X, X = upd (upd v1 2 (.slice sa sn sk)) 0 (.slice none 0 0) := ⟨_, rfl⟩
  rw [← hv] at hL5
  obtain ⟨L2, hLL⟩ : ∃ X, X = upd (upd L1 2 (L1 2 ++ [rBoth (L1 0)])) 0 [] := ⟨_, rfl⟩
  rw [← hLL] at hL5
  have HLL2 : Hid (L2 = cls1 L1) := hLL
  have H2 := hide hL5
  have HT2 := hide (HTw.out.pastL hL5.below)
  have HN2 : Hid (cntT L2 ≤ cntT L1 + 2 ∧ True) := ⟨by rw [hLL]; exact Nat.le_trans (cnt_cls1 L1) (by omega), trivial⟩
  have HN2 : Hid (cntT L2 ≤ 906) := by show _ ≤ _; have := HN2.out.1; have := HN1.out; omega
  clear hL3 hTn hB4 hL5 hW hv hLL
  obtain ⟨l, hl⟩ : ∃ l, l = L2 2 := ⟨_, rfl⟩
  have hne : l ≠ [] := by rw [hl, HLL2.out]; show upd (upd L1 2 _) 0 [] 2 ≠ []; rw [upd_other _ _ (by decide), upd_same]; simp
  have hn1 : 1 ≤ l.length := by cases l with | nil => exact absurd rfl hne | cons => simp
  have hcl := cntT_at HN2.out 2 (by decide)
  rw [← hl] at hcl
  have hn9 : l.length ≤ 906 := by have := cntL_len l; omega
  have hrow := H2.out.res 2 (by decide) (by rw [← hl]; omega)
  rw [← hl] at hrow
  obtain ⟨bs, ⟨⟨hpn, hco⟩, a, cap, hv, hcell⟩, hel⟩ := hrow
  obtain ⟨gb, off, rfl, hgl, -⟩ := hcell 0 hn1
  have hcapn : l.length ≤ cap := by rw [hv] at hco; exact hco _ _ _ rfl
  have HCELL : Hid (∀ V, Below W2.heap.size W2 V → ∀ k, k < l.length → V.cell? ⟨gb, off + k, none⟩ = some (PT (bs k))) := fun V hb k hk => by
    obtain ⟨b', o', e, hlt, hc⟩ := hcell k hk
    cases e
    exact (World.cell?_of_block (w := W2) (hb.block _ hlt)).trans hc
  have HEL : Hid (∀ V, Below W2.heap.size W2 V → ∀ k r, l[k]? = some r → ReAt V (bs k) r) := fun V hb k r hk => (hel k r hk).keep hb
  have c2 := H2.out.cell 2 (by decide)
  rw [hv] at c2
  have d0 := HCELL.out W2 (Below.refl _ _) 0 hn1
  unfold PT at d0
  rw [Nat.add_zero] at d0
  have HWF : Hid (∀ r ∈ l, Wf r) := by rw [hl]; exact H2.out.wf 2 (by decide)
  have HV := hide hv
  have HL := hide hl
  clear hl hcell hel hv hco hpn
  by_cases hcap1 : cap = 1
  · have hl1 : l.length ≤ 1 := by omega
    go_wp2
    clear ew c4 f4
    unfold PT
    go_loopw [6, 31] (fun x i wr => ∃ (k c : Nat), k ≤ l.length - 1 ∧ i = .int .i64 k ∧ x = .pointer (some ⟨c, 0, none⟩) ∧ Hid (ReAt wr c (butF (l.take (k + 1)))) ∧ Hid (Below W2.heap.size W2 wr)) (fun _ i _ => l.length - 1 - (intOf i).toNat)
    case atStart =>
      refine ⟨0, bs 0, by omega, rfl, rfl, ?_, Below.refl _ _⟩
      obtain ⟨y, l', rfl⟩ : ∃ y l', l = y :: l' := by cases l with | nil => exact absurd rfl hne | cons y l' => exact ⟨y, l', rfl⟩
      exact HEL.out W2 (Below.refl _ _) 0 y rfl
    case round =>
      obtain ⟨k, c, hk, rfl, rfl, HX, HW⟩ := hrel
      by_cases hlt : k < l.length - 1
      · exfalso; omega
      · have hkd : decide ((k : Int) < ((l.length - 1 : Nat) : Int)) = false := decide_eq_false (by omega)
        obtain rfl : k = l.length - 1 := by omega
        have hx := HX.out
        rw [show l.length - 1 + 1 = l.length by omega, List.take_length] at hx
        have hL5 := H2.out.step HW.out
        have hb6 := (Below.refl wr.heap.size wr).alloc (Nat.le_refl _) (.cells #[PT c] 23)
        have hL6 := hL5.step hb6
        have hl3 : (L2 3).length ≤ 1000 := by have := cntL_len (L2 3); have := cntT_at HN2.out 3 (by decide); omega
        obtain ⟨vn, V7, hr7, hL7, ⟨sa7, sn7, sk7, rfl⟩, hB7⟩ := hL6.push 3 (by decide) 47 wr.heap.size c (butF l) (Blk.newAt rfl _ _) (hx.keep hb6) (wf_butF HWF.out hne) hl3
        have c3 := hL5.cell 3 (by decide)
        have e7 := (hB7 3 (by decide)).cell 0
        have f7 := (hB7 3 (by decide)).frozen 0
        simp only [List.getElem?_toArray, List.getElem?_cons_zero] at e7
        obtain ⟨V8, hV8⟩ : ∃ X, X = V7.setCell ⟨b 3, 0, none⟩ (.slice sa7 sn7 sk7) := ⟨_, rfl⟩
        rw [← hV8] at hL7
        have ew8 := hV8.symm
        have e8 := (hL7.box 2 (by decide)).cell 0
        have f8 := (hL7.box 2 (by decide)).frozen 0
        simp only [List.getElem?_toArray, List.getElem?_cons_zero] at e8
        have hL9 := hL7.clear 2 (by decide)
        obtain ⟨V9, hV9⟩ : ∃ X, X = V8.setCell ⟨b 2, 0, none⟩ (.slice none 0 0) := ⟨_, rfl⟩
        rw [← hV9] at hL9
        have ew9 := hV9.symm
        have HF := hide hL9
        unfold PT at hr7
        obtain ⟨vo, hvo⟩ : ∃ vo, vo = v2 3 := ⟨_, rfl⟩
        rw [← hvo] at hr7 c3 e7
        have HVO := hide hvo
        clear hL5 hb6 hL6 hL7 hB7 hL9 hV8 hV9 hx HX hvo
        obtain ⟨oa, oc, ho⟩ := H2.out.slice 3 (by decide)
        rw [← HVO.out] at ho
        obtain ⟨no, hno⟩ : ∃ no, no = (L2 3).length := ⟨_, rfl⟩
        rw [← hno] at ho
        subst ho
        clear hno
        go_wp2_with (refine wpList_append_run rfl _ _ _ rfl _ _ _ rfl rfl hr7 ?_)
        refine bodyPost_end (v := .tuple #[]) (by simp [results, Tryz.results20, go_sem]) rfl ?_
        have := HF.out
        rw [HL.out, HLL2.out, HLL1.out] at this
        exact ⟨_, rfl, this⟩
  · have hl1 : 1 ≤ cap := by omega
    go_wp2
    clear ew c4 f4
    unfold PT
    go_loopw [6, 31] (fun x i wr => ∃ (k c : Nat), k ≤ l.length - 1 ∧ i = .int .i64 k ∧ x = .pointer (some ⟨c, 0, none⟩) ∧ Hid (ReAt wr c (butF (l.take (k + 1)))) ∧ Hid (Below W2.heap.size W2 wr)) (fun _ i _ => l.length - 1 - (intOf i).toNat)
    case atStart =>
      refine ⟨0, bs 0, by omega, rfl, rfl, ?_, Below.refl _ _⟩
      obtain ⟨y, l', rfl⟩ : ∃ y l', l = y :: l' := by cases l with | nil => exact absurd rfl hne | cons y l' => exact ⟨y, l', rfl⟩
      exact HEL.out W2 (Below.refl _ _) 0 y rfl
    case round =>
      obtain ⟨k, c, hk, rfl, rfl, HX, HW⟩ := hrel
      by_cases hlt : k < l.length - 1
      · have hkd : decide ((k : Int) < ((l.length - 1 : Nat) : Int)) = true := decide_eq_true (by omega)
        have hk1 : k + 1 < l.length := by omega
        have dk := HCELL.out wr HW.out (k + 1) hk1
        have ea : off + (k + 1) = off + 1 + k := by omega
        rw [ea] at dk
        obtain ⟨y, hy⟩ : ∃ y, y = l[k + 1] := ⟨_, rfl⟩
        have HY := hide (HEL.out wr HW.out (k + 1) y (by rw [hy]; exact List.getElem?_eq_getElem hk1))
        have HTK : Hid (butF (l.take (k + 1 + 1)) = rBut (butF (l.take (k + 1))) y) := by
          show _ = _
          rw [List.take_succ_eq_append_getElem hk1, butF_snoc (take_ne hne k), hy]
        have HWY : Hid (Wf y) := by rw [hy]; exact HWF.out _ (List.getElem_mem hk1)
        have HWX : Hid (Wf (butF (l.take (k + 1)))) := wf_butF (fun r hr => HWF.out r (List.mem_of_mem_take hr)) (take_ne hne k)
        unfold PT at dk
        have HBU := hide (but_any c (bs (k + 1)) _ y wr HX.out HY.out HWX.out.k HWY.out.k (HT2.out.pastL HW.out))
        clear hy
        unfold PT at HBU
        go_wp2_with fail
        refine HBU.out.mono ?_
        rintro e V5 ⟨c5, rfl, hr5, hb5⟩
        have HR5 := hide hr5
        have HW5 := hide (HW.out.trans (hb5.mono HW.out.size))
        clear hr5 hb5 HBU
        go_wp2
        refine ⟨⟨k + 1, c5, by omega, by go_num, rfl, ?_, HW5⟩, by simp [intOf]; omega⟩
        show ReAt _ _ _
        rw [HTK.out]; exact HR5.out
      · have hkd : decide ((k : Int) < ((l.length - 1 : Nat) : Int)) = false := decide_eq_false (by omega)
        obtain rfl : k = l.length - 1 := by omega
        have hx := HX.out
        rw [show l.length - 1 + 1 = l.length by omega, List.take_length] at hx
        have hL5 := H2.out.step HW.out
        have hb6 := (Below.refl wr.heap.size wr).alloc (Nat.le_refl _) (.cells #[PT c] 23)
        have hL6 := hL5.step hb6
        have hl3 : (L2 3).length ≤ 1000 := by have := cntL_len (L2 3); have := cntT_at HN2.out 3 (by decide); omega
        obtain ⟨vn, V7, hr7, hL7, ⟨sa7, sn7, sk7, rfl⟩, hB7⟩ := hL6.push 3 (by decide) 47 wr.heap.size c (butF l) (Blk.newAt rfl _ _) (hx.keep hb6) (wf_butF HWF.out hne) hl3
        have c3 := hL5.cell 3 (by decide)
        have e7 := (hB7 3 (by decide)).cell 0
        have f7 := (hB7 3 (by decide)).frozen 0
        simp only [List.getElem?_toArray, List.getElem?_cons_zero] at e7
        obtain ⟨V8, hV8⟩ : ∃ X, X = V7.setCell ⟨b 3, 0, none⟩ (.slice sa7 sn7 sk7) := ⟨_, rfl⟩
        rw [← hV8] at hL7
        have ew8 := hV8.symm
        have e8 := (hL7.box 2 (by decide)).cell 0
        have f8 := (hL7.box 2 (by decide)).frozen 0
        simp only [List.getElem?_toArray, List.getElem?_cons_zero] at e8
        have hL9 := hL7.clear 2 (by decide)
        obtain ⟨V9, hV9⟩ : ∃ X, X = V8.setCell ⟨b 2, 0, none⟩ (.slice none 0 0) := ⟨_, rfl⟩
        rw [← hV9] at hL9
        have ew9 := hV9.symm
        have HF := hide hL9
        unfold PT at hr7
        obtain ⟨vo, hvo⟩ : ∃ vo, vo = v2 3 := ⟨_, rfl⟩
        rw [← hvo] at hr7 c3 e7
        have HVO := hide hvo
        clear hL5 hb6 hL6 hL7 hB7 hL9 hV8 hV9 hx HX hvo
        obtain ⟨oa, oc, ho⟩ := H2.out.slice 3 (by decide)
        rw [← HVO.out] at ho
        obtain ⟨no, hno⟩ : ∃ no, no = (L2 3).length := ⟨_, rfl⟩
        rw [← hno] at ho
        subst ho
        clear hno
        go_wp2_with (refine wpList_append_run rfl _ _ _ rfl _ _ _ rfl rfl hr7 ?_)
        refine bodyPost_end (v := .tuple #[]) (by simp [results, Tryz.results20, go_sem]) rfl ?_
        have := HF.out
        rw [HL.out, HLL2.out, HLL1.out] at this
        exact ⟨_, rfl, this⟩
end Go.Proofs.YtdbdjjjmomociaaGreatDoor
/- The boxes as they are first laid; what closing any level does; how much they hold. -/
namespace Go.Proofs.YtdbdjjjmomociaaGreatDoor
set_option maxRecDepth 100000
set_option linter.unusedSimpArgs false
set_option linter.unusedVariables false
open Go.RowKit

theorem close_any (o : Nat) (ho : o < 4) (w : World) (b : Nat → Nat) (v : Nat → Value) (L : Nat → List RE) (W : World) (h : LvS w b v L W) (hT : TabAt w) (hc : cntT L ≤ 900) :
    Calls Tryz.prog 20 #[.int .i64 o, PT (b 0), PT (b 1), PT (b 2), PT (b 3)] W fun e W' => ∃ v', e = .returned (.tuple #[]) ∧ LvS w b v' (clsL o L) W' := by
  match o, ho with
  | 0, _ => exact close0_any w b v L W h hT hc
  | 1, _ => exact close1_any w b v L W h hT hc
  | 2, _ => exact close2_any w b v L W h hT hc
  | 3, _ => exact close3_any w b v L W h hT hc
def phi (L : Nat → List RE) : Nat := cntT L + 2 * (L 2).length
theorem cls2_at (L : Nat → List RE) : cls2 L 0 = L 0 ++ [rThen (L 1)] ∧ cls2 L 1 = [] ∧ cls2 L 2 = L 2 ∧ cls2 L 3 = L 3 := ⟨rfl, rfl, rfl, rfl⟩
theorem cls1_at (L : Nat → List RE) : cls1 L 0 = [] ∧ cls1 L 1 = L 1 ∧ cls1 L 2 = L 2 ++ [rBoth (L 0)] ∧ cls1 L 3 = L 3 := ⟨rfl, rfl, rfl, rfl⟩
theorem cls0_at (L : Nat → List RE) : cls0 L 0 = L 0 ∧ cls0 L 1 = L 1 ∧ cls0 L 2 = [] ∧ cls0 L 3 = L 3 ++ [butF (L 2)] := ⟨rfl, rfl, rfl, rfl⟩
theorem phi_cls2 (L : Nat → List RE) : phi (cls2 L) ≤ phi L + 1 := by
  have := cnt_cls2 L
  unfold phi
  rw [(cls2_at L).2.2.1]
  omega
theorem phi_cls1 (L : Nat → List RE) : phi (cls1 L) ≤ phi L + 4 := by
  have := cnt_cls1 L
  unfold phi
  rw [(cls1_at L).2.2.1, List.length_append, List.length_singleton]
  omega
theorem phi_cls0 (L : Nat → List RE) (h : L 2 ≠ []) : phi (cls0 L) ≤ phi L := by
  have h1 := cnt_butF (L 2) h
  unfold phi cntT
  obtain ⟨e0, e1, e2, e3⟩ := cls0_at L
  rw [e0, e1, e2, e3, cntL_append, cntL_one]
  have : cntL [] = 0 := rfl
  have : ([] : List RE).length = 0 := rfl
  omega
theorem phi_cls (o : Nat) (L : Nat → List RE) : phi (clsL o L) ≤ phi L + 5 := by
  have h2 := phi_cls2 L
  have h1 := phi_cls1 (cls2 L)
  have h0 := phi_cls0 (cls1 (cls2 L)) (by rw [(cls1_at _).2.2.1]; simp)
  unfold clsL
  repeat' split
  all_goals omega
/-- A letter behind the others. -/
def pushC (L : Nat → List RE) (r : RE) : Nat → List RE := upd L 1 (L 1 ++ [r])
theorem phi_push (L : Nat → List RE) (i : Nat) : phi (pushC L (lvL i)) ≤ phi L + 1 := by
  unfold phi cntT pushC
  show cntL (L 0) + cntL (L 1 ++ [lvL i]) + cntL (L 2) + cntL (L 3) + 2 * (L 2).length ≤ _
  rw [cntL_append, cntL_one, lvL_cnt]
  omega
/-- One step of the law is one step of the function. -/
theorem lvF_step (i o : Nat) (os : List Nat) (ho : o < 4) (L : Nat → List RE) : lvF i (o :: os) (L 3) (L 2) (L 0) (L 1) = lvF (i + 1) os (pushC (clsL o L) (lvL i) 3) (pushC (clsL o L) (lvL i) 2) (pushC (clsL o L) (lvL i) 0) (pushC (clsL o L) (lvL i) 1) := by
  match o, ho with
  | 0, _ => rfl
  | 1, _ => rfl
  | 2, _ => rfl
  | 3, _ => rfl
theorem lvF_end (i : Nat) (L : Nat → List RE) : lvF i [] (L 3) (L 2) (L 0) (L 1) = rAny (clsL 0 L 3) := rfl
def bI (N : Nat) (i : Nat) : Nat := if i = 0 then N + 3 else if i = 1 then N + 1 else if i = 2 then N + 5 else N + 7
def vI (N : Nat) (i : Nat) : Value := if i = 0 then .slice (some ⟨N + 2, 0, none⟩) 0 0 else if i = 1 then .slice (some ⟨N, 0, none⟩) 1 1 else if i = 2 then .slice (some ⟨N + 4, 0, none⟩) 0 0 else .slice (some ⟨N + 6, 0, none⟩) 0 0
def LI (i : Nat) : List RE := if i = 1 then [lvL 0] else []
def pI (c : Nat) (i : Nat) : List (Nat × RE) := if i = 1 then [(c, lvL 0)] else []
/-- The world as they were laid. -/
def wI (W : World) (c : Nat) : World := (((((((W.alloc (.cells #[.pointer (some ⟨c, 0, none⟩)] 23)).alloc (.cells #[.slice (some ⟨W.heap.size, 0, none⟩) 1 1] 47)).alloc (.cells #[] 23)).alloc (.cells #[.slice (some ⟨W.heap.size + 1 + 1, 0, none⟩) 0 0] 47)).alloc (.cells #[] 23)).alloc (.cells #[.slice (some ⟨W.heap.size + 1 + 1 + 1 + 1, 0, none⟩) 0 0] 47)).alloc (.cells #[] 23)).alloc (.cells #[.slice (some ⟨W.heap.size + 1 + 1 + 1 + 1 + 1 + 1, 0, none⟩) 0 0] 47)
theorem lv_init {w W : World} {c : Nat} (hw : Below w.heap.size w W) (hc : ReAt W c (lvL 0)) : LvS w (bI W.heap.size) (vI W.heap.size) LI (wI W c) ∧ Below W.heap.size W (wI W c) := by
  have hsz : ∀ (V : World) (o : Obj), (V.alloc o).heap.size = V.heap.size + 1 := fun V o => by simp
  have hbl : Below W.heap.size W (wI W c) := by
    unfold wI
    exact ((((((((Below.refl _ _).alloc (Nat.le_refl _) _).alloc (by simp) _).alloc (by simp; omega) _).alloc (by simp; omega) _).alloc (by simp; omega) _).alloc (by simp; omega) _).alloc (by simp; omega) _).alloc (by simp; omega) _
  have k0 : Blk (wI W c) W.heap.size #[PT c] 23 := by
    unfold wI
    exact (((((((Blk.newAt rfl _ _).alloc _).alloc _).alloc _).alloc _).alloc _).alloc _).alloc _
  have k1 : Blk (wI W c) (W.heap.size + 1) #[.slice (some ⟨W.heap.size, 0, none⟩) 1 1] 47 := by
    unfold wI
    exact ((((((Blk.newAt (by simp) _ _).alloc _).alloc _).alloc _).alloc _).alloc _).alloc _
  have k2 : Blk (wI W c) (W.heap.size + 2) #[] 23 := by
    unfold wI
    exact (((((Blk.newAt (by simp) _ _).alloc _).alloc _).alloc _).alloc _).alloc _
  have k3 : Blk (wI W c) (W.heap.size + 3) #[.slice (some ⟨W.heap.size + 2, 0, none⟩) 0 0] 47 := by
    unfold wI
    exact ((((Blk.newAt (by simp) _ _).alloc _).alloc _).alloc _).alloc _
  have k4 : Blk (wI W c) (W.heap.size + 4) #[] 23 := by
    unfold wI
    exact (((Blk.newAt (by simp) _ _).alloc _).alloc _).alloc _
  have k5 : Blk (wI W c) (W.heap.size + 5) #[.slice (some ⟨W.heap.size + 4, 0, none⟩) 0 0] 47 := by
    unfold wI
    exact ((Blk.newAt (by simp) _ _).alloc _).alloc _
  have k6 : Blk (wI W c) (W.heap.size + 6) #[] 23 := by
    unfold wI
    exact (Blk.newAt (by simp) _ _).alloc _
  have k7 : Blk (wI W c) (W.heap.size + 7) #[.slice (some ⟨W.heap.size + 6, 0, none⟩) 0 0] 47 := by
    unfold wI
    exact Blk.newAt (by simp) _ _
  have hs := hw.size
  refine ⟨⟨⟨pI c, ⟨?_, ?_, ?_, ?_, ?_, ?_, hw.trans (hbl.mono hs)⟩, ?_⟩, ?_⟩, hbl⟩
  · intro i hi
    match i, hi with
    | 0, _ => exact k3
    | 1, _ => exact k1
    | 2, _ => exact k5
    | 3, _ => exact k7
  · intro i hi
    match i, hi with
    | 0, _ => show _ ≤ W.heap.size + 3; omega
    | 1, _ => show _ ≤ W.heap.size + 1; omega
    | 2, _ => show _ ≤ W.heap.size + 5; omega
    | 3, _ => show _ ≤ W.heap.size + 7; omega
  · intro i j hi hj hne
    unfold bI
    repeat' split
    all_goals omega
  · intro i hi
    match i, hi with
    | 0, _ => exact .inr (OwnZ.start k2 (by omega))
    | 1, _ => exact .inr (OwnZ.one k0 (by omega))
    | 2, _ => exact .inr (OwnZ.start k4 (by omega))
    | 3, _ => exact .inr (OwnZ.start k6 (by omega))
  · intro i j hi hj hne g h1 h2
    unfold vI at h1 h2
    repeat' split at h1
    all_goals repeat' split at h2
    all_goals (simp [Value.ownBlock] at h1 h2; omega)
  · intro i hi x hx
    match i, hi with
    | 0, _ => cases hx
    | 1, _ =>
      have : x = (c, lvL 0) := by simpa [pI] using hx
      subst this
      exact hc.keep hbl
    | 2, _ => cases hx
    | 3, _ => cases hx
  · intro i hi
    match i, hi with
    | 0, _ => rfl
    | 1, _ => rfl
    | 2, _ => rfl
    | 3, _ => rfl
  · intro i hi r hr
    match i, hi with
    | 0, _ => cases hr
    | 1, _ =>
      have : r = lvL 0 := by simpa [LI] using hr
      rw [this]; exact wf_one _
    | 2, _ => cases hr
    | 3, _ => cases hr
end Go.Proofs.YtdbdjjjmomociaaGreatDoor
