/- Texts of this claim put together: Lca, DfaG, DfaI. -/
import Derived.Test.YtjcfnmjjkadaeaaGreatDoorJoinSetG
import Derived.Test.YtjcfnmjjkadaeaaGreatDoorJoinDfaF
/- A load, a call and what is laid of it, in any order. -/
namespace Go.Proofs.YtjcfnmjjkadaeaaGreatDoor
set_option maxRecDepth 100000
set_option linter.unusedSimpArgs false
set_option linter.unusedVariables false
open Go.RowKit

section
variable {ops : Array Oper} {S : World → Prop} {Q : Exit → Act → World → Prop} {fuel : Nat} {listed : Array Bool} {a : Act} {w : World} {oi oj ok : Oper} {ri rj rk : List Oper}
/-- A load that may come up ahead of a call, behind it, or behind what is laid of what the call yields. -/
theorem h_lcaX (i j k : Nat) (v : Value) (f : FuncId) (vs : Array Value) (R : World → Prop) (C : Value → World → Prop) (xv : World → Value) (aw : Value → World → World)
    (hi : ops.toList.drop i = oi :: ri) (hj : ops.toList.drop j = oj :: rj) (hk : ops.toList.drop k = ok :: rk)
    (hr : Region.ready .any ops listed = [i, j]) (hri : Region.ready .any ops (listed.setIfInBounds i true) = [j]) (hrj : Region.ready .any ops (listed.setIfInBounds j true) = [i, k])
    (hrij : Region.ready .any ops ((listed.setIfInBounds i true).setIfInBounds j true) = [k]) (hrji : Region.ready .any ops ((listed.setIfInBounds j true).setIfInBounds i true) = [k]) (hrjk : Region.ready .any ops ((listed.setIfInBounds j true).setIfInBounds k true) = [i])
    (hwi : ∀ t, Region.wanted oi (yielded ops t) = true) (hwj : ∀ t, Region.wanted oj (yielded ops t) = true) (hwk : ∀ t, Region.wanted ok (yielded ops t) = true)
    (hv1 : ∀ w, R w → (execOp a.eval oi).run Tryz.prog w = .ok (.value v) w) (hv2 : ∀ u w, R w → (execOp (a.put oj.dst u).eval oi).run Tryz.prog w = .ok (.value v) w) (hv3 : ∀ u x w, R w → (execOp ((a.put oj.dst u).put ok.dst x).eval oi).run Tryz.prog w = .ok (.value v) w)
    (hc1 : ∀ w, (execOp a.eval oj).run Tryz.prog w = .ok (.enter f vs) w) (hc2 : ∀ w, (execOp (a.put oi.dst v).eval oj).run Tryz.prog w = .ok (.enter f vs) w)
    (ha1 : ∀ u w, C u w → (execOp (a.put oj.dst u).eval ok).run Tryz.prog w = .ok (.value (xv w)) (aw u w)) (ha2 : ∀ u w, C u w → (execOp ((a.put oi.dst v).put oj.dst u).eval ok).run Tryz.prog w = .ok (.value (xv w)) (aw u w)) (ha3 : ∀ u w, C u w → (execOp ((a.put oj.dst u).put oi.dst v).eval ok).run Tryz.prog w = .ok (.value (xv w)) (aw u w))
    (hc : Calls Tryz.prog f vs w fun e w' => ∃ u, e = .returned u ∧ C u w') (hCR : ∀ u w', C u w' → R w') (hAR : ∀ u w', C u w' → R (aw u w')) (hS : ∀ w, R w → S w) (hR : R w)
    (hm1 : ∀ u x, ((a.put oj.dst u).put oi.dst v).put ok.dst x = ((a.put oi.dst v).put oj.dst u).put ok.dst x) (hm2 : ∀ u x, ((a.put oj.dst u).put ok.dst x).put oi.dst v = ((a.put oi.dst v).put oj.dst u).put ok.dst x)
    (hl1 : ((listed.setIfInBounds j true).setIfInBounds i true).setIfInBounds k true = ((listed.setIfInBounds i true).setIfInBounds j true).setIfInBounds k true) (hl2 : ((listed.setIfInBounds j true).setIfInBounds k true).setIfInBounds i true = ((listed.setIfInBounds i true).setIfInBounds j true).setIfInBounds k true)
    (h : ∀ u w', C u w' → wpAnyH Tryz.prog .any ops (NoPanic Q) S fuel (((listed.setIfInBounds i true).setIfInBounds j true).setIfInBounds k true) (((a.put oi.dst v).put oj.dst u).put ok.dst (xv w')) (aw u w')) : wpAnyH Tryz.prog .any ops (NoPanic Q) S (fuel + 3) listed a w := by
  refine wpAnyH_all hr (by simp) ?_
  intro n hn
  rcases List.mem_cons.1 hn with rfl | hn
  · unfold wpOp
    simp only [at_drop hi, hwi, if_true]
    refine .inl ?_
    unfold Oper.wp
    rw [hv1 w hR, Oper.upon_value]
    refine ⟨hS w hR, wpAnyH_all hri (by simp) ?_⟩
    intro n' hn'
    obtain rfl : n' = j := by simpa using hn'
    unfold wpOp
    simp only [at_drop hj, hwj, if_true]
    refine .inl ?_
    unfold Oper.wp
    rw [hc2 w, Oper.upon_enter]
    refine hc.mono ?_
    rintro e w' ⟨u, rfl, hC⟩
    refine ⟨hS w' (hCR u w' hC), wpAnyH_all hrij (by simp) ?_⟩
    intro n2 hn2
    obtain rfl : n2 = k := by simpa using hn2
    unfold wpOp
    simp only [at_drop hk, hwk, if_true]
    refine .inl ?_
    unfold Oper.wp
    rw [ha2 u w' hC, Oper.upon_value]
    exact ⟨hS _ (hAR u w' hC), h u w' hC⟩
  · obtain rfl : n = j := by simpa using hn
    unfold wpOp
    simp only [at_drop hj, hwj, if_true]
    refine .inl ?_
    unfold Oper.wp
    rw [hc1 w, Oper.upon_enter]
    refine hc.mono ?_
    rintro e w' ⟨u, rfl, hC⟩
    refine ⟨hS w' (hCR u w' hC), wpAnyH_all hrj (by simp) ?_⟩
    intro n2 hn2
    rcases List.mem_cons.1 hn2 with rfl | hn2
    · unfold wpOp
      simp only [at_drop hi, hwi, if_true]
      refine .inl ?_
      unfold Oper.wp
      rw [hv2 u w' (hCR u w' hC), Oper.upon_value]
      refine ⟨hS w' (hCR u w' hC), wpAnyH_all hrji (by simp) ?_⟩
      intro n3 hn3
      obtain rfl : n3 = k := by simpa using hn3
      unfold wpOp
      simp only [at_drop hk, hwk, if_true]
      refine .inl ?_
      unfold Oper.wp
      rw [ha3 u w' hC, Oper.upon_value]
      refine ⟨hS _ (hAR u w' hC), ?_⟩
      rw [hm1, hl1]
      exact h u w' hC
    · obtain rfl : n2 = k := by simpa using hn2
      unfold wpOp
      simp only [at_drop hk, hwk, if_true]
      refine .inl ?_
      unfold Oper.wp
      rw [ha1 u w' hC, Oper.upon_value]
      refine ⟨hS _ (hAR u w' hC), wpAnyH_all hrjk (by simp) ?_⟩
      intro n3 hn3
      obtain rfl : n3 = i := by simpa using hn3
      unfold wpOp
      simp only [at_drop hi, hwi, if_true]
      refine .inl ?_
      unfold Oper.wp
      rw [hv3 u (xv w') _ (hAR u w' hC), Oper.upon_value]
      refine ⟨hS _ (hAR u w' hC), ?_⟩
      rw [hm2, hl2]
      exact h u w' hC
end
theorem wp_append_runX {o : Oper} {a : Act} {w w' : World} {K : Act → World → Prop} {Q : Exit → Act → World → Prop} (s x : Operand) (t : TypeId)
    (hop : o.op = Op.call { callee := Callee.builtin Builtin.append, args := #[s, x], argTypes := #[t, t] }) (v u v' : Value) (hs : a.eval s = v) (hx : a.eval x = u)
    (hrun : (Builtin.append_ #[t, t] o.type #[v, u]).run Tryz.prog w = .ok v' w') (hK : K (a.put o.dst v') w') : o.wp Tryz.prog a w K Q := by
  unfold Oper.wp execOp
  simp only [hop, resolve, invoke, builtin, Sem.run_bind, Sem.run_pure, Result.andThen_ok, List.map_toArray, List.map_cons, List.map_nil, hs, hx, hrun]
  exact hK
end Go.Proofs.YtjcfnmjjkadaeaaGreatDoor
/- Build's steps in memory: a row more, a Yes more, a state's expression given up. -/
namespace Go.Proofs.YtjcfnmjjkadaeaaGreatDoor
set_option maxRecDepth 100000
set_option linter.unusedSimpArgs false
set_option linter.unusedVariables false
open Go.RowKit

/-- An expression stays where all below B stays but the budget. -/
theorem ReAt.left {F F' : Forb} {W W' : World} {b B bud : Nat} {g t : Int} {r : RE} (h : @ReAt F W b r) (hl : Left W W' B bud) (hB : W.heap.size ≤ B) (hb : BudAt W bud g t) (hf : @FL F' W'.heap.size) (hn : ∀ k, k < W.heap.size → @Forb.no F' k → @Forb.no F k) : @ReAt F' W' b r := by
  refine h.typ hl.size hf (fun b c hB' => ?_) (fun b o p hc => ?_) hn
  · exact (hl.old b (Nat.lt_of_lt_of_le hB'.lt hB) (hB'.ne hb.blk (by decide))).trans hB'
  · have hbl := World.block_lt_of_cell? _ _ hc
    rw [← hc]
    refine World.cell?_of_block (w := W) (hl.old b (Nat.lt_of_lt_of_le hbl hB) fun e => ?_)
    rw [e, hb.blk.cell] at hc
    match o with
    | 0 => simp [PT] at hc
    | 1 => simp [PT] at hc
    | n + 2 => simp at hc
theorem FL.slice {W : World} {base : Nat} {E : TypeId} {z v : Value} {xs : List Value} (h : OwnG W base E z v xs) : @FL (forbOf v) W.heap.size := fun b hb => by
  have hb : v.ownBlock = some b := hb
  rcases h with ⟨rfl, -⟩ | ⟨g', cap, cur, rfl, h1, h2, h3⟩
  · cases hb
  · have : g' = b := by simpa [Value.ownBlock] using hb
    rw [← this]; exact h2.lt
/-- Another row grows, or another block is stored into: the states stay. -/
theorem FindAt.app {W W' : World} {B cb cm cs bud mb base : Nat} {g t0 : Int} {s : Bs} {k : Nat} {vs : Value} {ps : List Value} {E : TypeId} {z v v' : Value} (h : FindAt W B cb cm cs bud mb g t0 s k vs ps) (ha : AppG W W' base E z v v')
    (h1 : E ≠ 30) (h2 : E ≠ 59) (h3 : E ≠ 96) (h4 : E ≠ 32) (h5 : E ≠ 60) (h6 : E ≠ 110) (hz : ∀ p, PT p ≠ z) : FindAt W' B cb cm cs bud mb g t0 s k vs ps := by
  refine ⟨h.lcs, h.lmb, ha.blk h.cb h4.symm, ⟨ha.blk h.bud.blk h3.symm, h.bud.most, h.bud.ok⟩, ha.blk h.cm h5.symm, map_keep h.map (ha.block mb h.map.lt fun e => ?_), ha.blk h.cs h2.symm, h.own.app ha h1.symm, h.len, fun j x hj hx => ?_⟩
  · obtain ⟨c, c', k1, -⟩ := ha.old _ e
    exact map_ne h.map k1 rfl
  · obtain ⟨p, k1, k2⟩ := h.elem j x hj hx
    exact ⟨p, k1, @ReAt.app (forbOf vs) _ _ _ _ _ _ _ _ _ k2 ha h6.symm hz⟩
/-- The expression of a state is given up. -/
theorem FindAt.drop {W : World} {B cb cm cs bud mb gb cap q : Nat} {g t0 : Int} {s : Bs} {ps : List Value} {n : Nat} (h : FindAt W B cb cm cs bud mb g t0 s q (.slice (some ⟨gb, 0, none⟩) n cap) ps) (hq : q < s.S.length) : FindAt (W.setCell ⟨gb, q, none⟩ (.pointer none)) B cb cm cs bud mb g t0 s (q + 1) (.slice (some ⟨gb, 0, none⟩) n cap) (ps.set q (.pointer none)) := by
  obtain ⟨g', cap', cur, e, h1, h2, h3, h4, h5⟩ : ∃ g' cap' cur, Value.slice (some ⟨gb, 0, none⟩) n cap = .slice (some ⟨g', 0, none⟩) ps.length cap' ∧ B ≤ g' ∧ Blk W g' cur 30 ∧ ps.length ≤ cap' ∧ cap' ≤ maxLen ∧ cur.toList = ps ++ List.replicate (cap' - ps.length) (.pointer none) := by
    rcases h.own with ⟨e, -⟩ | h
    · cases e
    · exact h
  injection e with e1 e2 e3
  injection e1 with e1; injection e1 with e1
  subst e1 e3
  have hl := h.len
  have hne : ∀ {b : Nat} {c : Array Value} {t : TypeId}, Blk W b c t → t ≠ 30 → Blk (W.setCell ⟨gb, q, none⟩ (.pointer none)) b c t := fun hB ht => hB.setOther _ _ (hB.ne h2 ht)
  refine ⟨h.lcs, h.lmb, hne h.cb (by decide), ⟨hne h.bud.blk (by decide), h.bud.most, h.bud.ok⟩, hne h.cm (by decide), map_keep h.map (Below.heap_setCell _ _ _ _ (map_ne h.map h2)), hne h.cs (by decide), ?_, by simp [hl], fun j x hj hx => ?_⟩
  · refine .inr ⟨gb, cap, _, by rw [List.length_set, e2], h1, h2.set q (.pointer none), by rw [List.length_set]; exact h3, h4, ?_⟩
    rw [Array.toList_setIfInBounds, h5, List.set_append_left _ _ (by omega), List.length_set]
  · obtain ⟨p, k1, k2⟩ := h.elem j x (by omega) hx
    refine ⟨p, by rw [List.getElem?_set_ne (by omega)]; exact k1, ?_⟩
    exact @ReAt.put (forbOf (.slice (some ⟨gb, 0, none⟩) n cap)) _ _ _ _ _ _ _ k2 h2 (by show Value.ownBlock _ = _; rw [e2]; simp [Value.ownBlock])
end Go.Proofs.YtjcfnmjjkadaeaaGreatDoor
/- Build's steps in memory: a row more, a Yes more. -/
namespace Go.Proofs.YtjcfnmjjkadaeaaGreatDoor
set_option maxRecDepth 100000
set_option linter.unusedSimpArgs false
set_option linter.unusedVariables false
open Go.RowKit

theorem x_fieldYes (ρ : Operand → Value) (d : Option Tmp) (x : Operand) (t : TypeId) (pos : String) (af : Array Edge) (g : Option (Nat × Bool)) (b : Nat) (hx : ρ x = PT b) (w : World) :
    (execOp ρ { dst := d, op := .fieldAddr 83 x 3, type := t, pos := pos, after := af, guard := g }).run Tryz.prog w = .ok (.value (.pointer (some ⟨b, 258, none⟩))) w := by
  simp [go_sem, hx, PT]
theorem x_loadYes (ρ : Operand → Value) (d : Option Tmp) (x : Operand) (t : TypeId) (pos : String) (af : Array Edge) (g : Option (Nat × Bool)) (b n : Nat) (u : Value) (hx : ρ x = .pointer (some ⟨b, n, none⟩)) (w : World) (hc : w.cell? ⟨b, n, none⟩ = some u) :
    (execOp ρ { dst := d, op := .load 35 x, type := t, pos := pos, after := af, guard := g }).run Tryz.prog w = .ok (.value u) w := by
  simp [go_sem, hx, hc]
theorem x_loadRow (ρ : Operand → Value) (d : Option Tmp) (x : Operand) (t : TypeId) (pos : String) (af : Array Edge) (g : Option (Nat × Bool)) (c : Nat) (u : Value) (hx : ρ x = PT c) (w : World) (hc : w.cell? ⟨c, 0, none⟩ = some u) :
    (execOp ρ { dst := d, op := .load 59 x, type := t, pos := pos, after := af, guard := g }).run Tryz.prog w = .ok (.value u) w := by
  simp [go_sem, hx, hc, PT]
theorem x_buildYes (ρ : Operand → Value) (d : Option Tmp) (x : Operand) (ty : TypeId) (pos : String) (af : Array Edge) (g : Option (Nat × Bool)) (c : Bool) (hx : ρ x = .bool c) (w : World) :
    (execOp ρ { dst := d, op := .buildSlice 35 1 #[(0, x)], type := ty, pos := pos, after := af, guard := g }).run Tryz.prog w = .ok (.value (.slice (some ⟨w.heap.size, 0, none⟩) 1 1)) (w.alloc (.cells #[.bool c] 4)) := by
  simp [go_sem, hx]
theorem x_storeYes (ρ : Operand → Value) (d : Option Tmp) (x y : Operand) (t : TypeId) (pos : String) (af : Array Edge) (g : Option (Nat × Bool)) (b n : Nat) (old : Value) (a : Option Addr) (m k : Nat) (hx : ρ x = .pointer (some ⟨b, n, none⟩)) (hy : ρ y = .slice a m k) (w : World) (hc : w.cell? ⟨b, n, none⟩ = some old) (hf : w.frozen? ⟨b, n, none⟩ = false) :
    (execOp ρ { dst := d, op := .store 35 x y, type := t, pos := pos, after := af, guard := g }).run Tryz.prog w = .ok .skip (w.setCell ⟨b, n, none⟩ (.slice a m k)) := by
  simp [go_sem, hx, hy, hc, hf]

theorem DfaIn.typ {W W' : World} {base p : Nat} {vh vn vy : Value} {hs : List Nat} {f : Nat → Nat} {vs : List Value} {rows : List (List Nat)} {ys : List Bool} (hd : DfaIn W base p vh vn vy hs f vs rows ys)
    (hk : ∀ k c t, Blk W k c t → t ≠ 30 → Blk W' k c t) : DfaIn W' base p vh vn vy hs f vs rows ys := by
  have ho : ∀ {E : TypeId} {z v : Value} {xs : List Value}, OwnG W base E z v xs → E ≠ 30 → OwnG W' base E z v xs := fun h hE => by
    rcases h with h | ⟨g, cap, cur, e, k1, k2, k3⟩
    · exact .inl h
    · exact .inr ⟨g, cap, cur, e, k1, hk _ _ _ k2 hE, k3⟩
  exact ⟨hk _ _ _ hd.blk (by decide), hd.base, ho hd.hd (by decide), ho hd.nx (by decide), ho hd.ye (by decide), hd.len, fun q hq => ho (hd.row q hq) (by decide)⟩
theorem Left.more {A W W' : World} {B bud : Nat} (h : Left A W B bud) (hA : A.heap.size ≤ B) (hb : Below B W W') : Left A W' B bud :=
  ⟨hb.os.trans h.os, hb.tape.trans h.tape, hb.output.trans h.output, Nat.le_trans h.size hb.size, fun k h1 h2 => (hb.block k h1).trans (h.old k h1 h2), fun k c t hB h1 h2 h3 => (hb.block k (Nat.lt_of_lt_of_le hB.lt hA)).trans (h.typ k c t hB h1 h2 h3)⟩
theorem infoRow : (Tryz.prog.info? 36).map (fun i => (i.zero, i.size, i.bytes)) = some (some (.slice none 0 0), 1, 24) := by kernel_rfl
theorem infoYes : (Tryz.prog.info? 4).map (fun i => (i.zero, i.size, i.bytes)) = some (some (.bool false), 1, 1) := by kernel_rfl
theorem dfaC_put (vh : Value) (f : Nat → Nat) (vn vy : Value) (dn : Int) (vl v : Value) (i : Nat) : (dfaC vh f vn vy dn vl).setIfInBounds (257 + i) v = #[vh] ++ nArr f ++ (#[vn, vy, .int .u32 dn, .int .i32 0, .int .u32 0, vl].setIfInBounds i v) := by
  unfold dfaC
  rw [Array.setIfInBounds_append_right (by simp [nArr_size])]
  simp [nArr_size]
theorem app_slice_pt (p : Nat) : PT p ≠ Value.slice none 0 0 := by simp [PT]
theorem app_bool_pt (p : Nat) : PT p ≠ Value.bool false := by simp [PT]

/-- A row more. -/
theorem DfaIn.nextRow {w : World} {B cb cm cs bud mb dp : Nat} {g t0 : Int} {s : Bs} {k : Nat} {vs : Value} {ps : List Value} {vh vn vy v : Value} {hs : List Nat} {f : Nat → Nat} {vr : List Value} {rows : List (List Nat)} {ys : List Bool} {row : List Nat}
    (hF : FindAt w B cb cm cs bud mb g t0 s k vs ps) (h : DfaIn w B dp vh vn vy hs f vr rows ys) (hv : OwnG w B 3 (.int .i64 0) v (intV row)) (hl : rows.length < 1000000) :
    ∃ v' W5, (Builtin.append_ #[68, 68] 68 #[vn, .slice (some ⟨w.heap.size, 0, none⟩) 1 1]).run Tryz.prog (w.alloc (.cells #[v] 36)) = .ok v' W5 ∧ W5.cell? ⟨dp, 257, none⟩ = some vn ∧ W5.frozen? ⟨dp, 257, none⟩ = false ∧
      DfaIn (W5.setCell ⟨dp, 257, none⟩ v') B dp vh v' vy hs f (vr ++ [v]) (rows ++ [row]) ys ∧ FindAt (W5.setCell ⟨dp, 257, none⟩ v') B cb cm cs bud mb g t0 s k vs ps ∧ Below B w (W5.setCell ⟨dp, 257, none⟩ v') := by
  have hBw : B ≤ w.heap.size := Nat.le_trans h.base (Nat.le_of_lt h.blk.lt)
  have hb1 := (Below.refl w.heap.size w).alloc (Nat.le_refl _) (.cells #[v] 36)
  have h1 := h.keep hb1
  have hv1 := hv.keep hb1
  obtain ⟨av, cv, hve, -⟩ := hv.slice
  obtain ⟨v', W5, hr, ho, ha⟩ := run_appendG 68 36 68 (.slice none 0 0) 24 Tryz.underlying68 infoRow (by omega) rfl h1.nx ⟨w.heap.size, 0, none⟩ 1 [v] (by simp)
    (World.news_of_block (Blk.newAt (w := w) rfl #[v] 36)) (fun y hy => by simp at hy; subst hy; rw [hve]; rfl) (by rw [h.len]; simp; omega) (by simp; omega)
  have hB5 := ha.blk h1.blk (by decide)
  have c5 := hB5.cell 257
  rw [dfaC_tail _ _ _ _ _ _ 0] at c5
  refine ⟨v', W5, hr, c5, hB5.frozen _, ?_, ?_, ((hb1.mono hBw).trans ha.below).setCell h.base _⟩
  · refine ⟨?_, h.base, (h1.hd.app ha (by decide)).put hB5 (by decide), ho.put hB5 (by decide), (h1.ye.app ha (by decide)).put hB5 (by decide), by simp [h.len], fun q hq => ?_⟩
    · have := hB5.set 257 v'
      rw [dfaC_put _ _ _ _ _ _ _ 0] at this
      exact this
    · simp at hq
      by_cases hlt : q < rows.length
      · rw [show (vr ++ [v]).getD q (.slice none 0 0) = vr.getD q (.slice none 0 0) from by simp [List.getD_eq_getElem?_getD, List.getElem?_append_left (show q < vr.length by rw [h.len]; exact hlt)],
          show (rows ++ [row]).getD q [] = rows.getD q [] from by simp [List.getD_eq_getElem?_getD, List.getElem?_append_left hlt]]
        exact ((h1.row q hlt).app ha (by decide)).put hB5 (by decide)
      · have e : q = rows.length := by omega
        subst e
        rw [show (vr ++ [v]).getD rows.length (.slice none 0 0) = v from by rw [← h.len]; simp [List.getD_eq_getElem?_getD], show (rows ++ [row]).getD rows.length [] = row from by simp [List.getD_eq_getElem?_getD]]
        exact (hv1.app ha (by decide)).put hB5 (by decide)
  · refine ((hF.keep hb1).app ha (by decide) (by decide) (by decide) (by decide) (by decide) (by decide) app_slice_pt).put hB5 (by decide) (by decide) (by decide) (by decide) (by decide) (by decide) fun p hp => ?_
    obtain ⟨an, cn, hn, -⟩ := h.nx.slice
    rw [dfaC_tail _ _ _ _ _ _ 0, hn] at hp
    simp [PT] at hp
/-- A Yes more. -/
theorem DfaIn.nextYes {w : World} {B cb cm cs bud mb dp : Nat} {g t0 : Int} {s : Bs} {k : Nat} {vs : Value} {ps : List Value} {vh vn vy : Value} {hs : List Nat} {f : Nat → Nat} {vr : List Value} {rows : List (List Nat)} {ys : List Bool} {y : Bool}
    (hF : FindAt w B cb cm cs bud mb g t0 s k vs ps) (h : DfaIn w B dp vh vn vy hs f vr rows ys) (hl : ys.length < 1000000) :
    ∃ v' W5, (Builtin.append_ #[35, 35] 35 #[vy, .slice (some ⟨w.heap.size, 0, none⟩) 1 1]).run Tryz.prog (w.alloc (.cells #[.bool y] 4)) = .ok v' W5 ∧ W5.cell? ⟨dp, 258, none⟩ = some vy ∧ W5.frozen? ⟨dp, 258, none⟩ = false ∧ FindAt W5 B cb cm cs bud mb g t0 s k vs ps ∧
      DfaIn (W5.setCell ⟨dp, 258, none⟩ v') B dp vh vn v' hs f vr rows (ys ++ [y]) ∧ FindAt (W5.setCell ⟨dp, 258, none⟩ v') B cb cm cs bud mb g t0 s k vs ps ∧ Below B w (W5.setCell ⟨dp, 258, none⟩ v') := by
  have hBw : B ≤ w.heap.size := Nat.le_trans h.base (Nat.le_of_lt h.blk.lt)
  have hb1 := (Below.refl w.heap.size w).alloc (Nat.le_refl _) (.cells #[.bool y] 4)
  have h1 := h.keep hb1
  obtain ⟨v', W5, hr, ho, ha⟩ := run_appendG 35 4 35 (.bool false) 1 Tryz.underlying35 infoYes (by omega) rfl h1.ye ⟨w.heap.size, 0, none⟩ 1 [.bool y] (by simp)
    (World.news_of_block (Blk.newAt (w := w) rfl #[.bool y] 4)) (fun y hy => by simp at hy; subst hy; rfl) (by simp; omega) (by simp; omega)
  have hB5 := ha.blk h1.blk (by decide)
  have c5 := hB5.cell 258
  rw [dfaC_tail _ _ _ _ _ _ 1] at c5
  have hF5 := (hF.keep hb1).app ha (by decide) (by decide) (by decide) (by decide) (by decide) (by decide) app_bool_pt
  refine ⟨v', W5, hr, c5, hB5.frozen _, hF5, ?_, ?_, ((hb1.mono hBw).trans ha.below).setCell h.base _⟩
  · refine ⟨?_, h.base, (h1.hd.app ha (by decide)).put hB5 (by decide), (h1.nx.app ha (by decide)).put hB5 (by decide), ?_, h.len, fun q hq => ((h1.row q hq).app ha (by decide)).put hB5 (by decide)⟩
    · have := hB5.set 258 v'
      rw [dfaC_put _ _ _ _ _ _ _ 1] at this
      exact this
    · rw [List.map_append]; exact ho.put hB5 (by decide)
  · refine hF5.put hB5 (by decide) (by decide) (by decide) (by decide) (by decide) (by decide) fun p hp => ?_
    obtain ⟨an, cn, hn, -⟩ := h.ye.slice
    rw [dfaC_tail _ _ _ _ _ _ 1, hn] at hp
    simp [PT] at hp
end Go.Proofs.YtjcfnmjjkadaeaaGreatDoor
