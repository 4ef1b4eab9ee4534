/- Texts of this claim put together: AkL, AkM, AkG. -/
import Derived.Test.YtjcfnmjjkadaeaaGreatDoorJoinAkF
import Derived.Test.YtjcfnmjjkadaeaaGreatDoorJoinMathAl3
import Derived.Test.YtjcfnmjjkadaeaaGreatDoorJoinAuE
/- Package alike's group, whole: alloc, store. -/
namespace Go.Proofs.YtjcfnmjjkadaeaaGreatDoor
set_option maxRecDepth 100000
set_option linter.unusedSimpArgs false
set_option linter.unusedVariables false
open Go.RowKit Go.Shelf

section
variable (ρ : Operand → Value) (d : Option Tmp) (x y : Operand) (t : TypeId) (pos : String) (af : Array Edge) (g : Option (Nat × Bool))
theorem x_alG (w : World) : (execOp ρ { dst := d, op := .alloc 176, type := t, pos := pos, after := af, guard := g }).run Tryz.prog w = .ok (.value (.pointer (some ⟨w.heap.size, 0, none⟩))) (w.alloc (.cells #[.int .i64 0, .int .i64 0, .int .i64 0] 176)) := by
  simp [go_sem]
theorem x_bdG (x z : Operand) (u v s : Int) (hx : ρ x = .int .i64 u) (hy : ρ y = .int .i64 v) (hz : ρ z = .int .i64 s) (w : World) : (execOp ρ { dst := d, op := .build 176 #[(0, x), (1, y), (2, z)], type := t, pos := pos, after := af, guard := g }).run Tryz.prog w = .ok (.value (.agg #[.int .i64 u, .int .i64 v, .int .i64 s])) w := by
  simp [go_sem, hx, hy, hz]
theorem x_stG (b o : Nat) (u v z : Int) (hx : ρ x = .pointer (some ⟨b, o, none⟩)) (hy : ρ y = .agg #[.int .i64 u, .int .i64 v, .int .i64 z]) (w : World) (u0 v0 z0 : Value) (h0 : w.cell? ⟨b, o, none⟩ = some u0) (h1 : w.cell? ⟨b, o + 1, none⟩ = some v0) (h2 : w.cell? ⟨b, o + 2, none⟩ = some z0) (hf : ∀ i, w.frozen? ⟨b, i, none⟩ = false) :
    (execOp ρ { dst := d, op := .store 176 x y, type := t, pos := pos, after := af, guard := g }).run Tryz.prog w = .ok .skip (((w.setCell ⟨b, o, none⟩ (.int .i64 u)).setCell ⟨b, o + 1, none⟩ (.int .i64 v)).setCell ⟨b, o + 2, none⟩ (.int .i64 z)) := by
  simp [go_sem, hx, hy, h0, h1, h2, hf]
end
section
variable {ops : Array Oper} {S : World → Prop} {Q : Exit → Act → World → Prop} {fuel : Nat} {listed : Array Bool} {a : Act} {w : World} {oi oj : Oper} {rest rest' : List Oper}
/-- Two operations that make memory, in either order. -/
theorem h_allocs (i j : Nat) (H : Nat) (w1 w2 : World) (hi : ops.toList.drop i = oi :: rest) (hj : ops.toList.drop j = oj :: rest') (hr : Region.ready .any ops listed = [i, j]) (hri : Region.ready .any ops (listed.setIfInBounds i true) = [j]) (hrj : Region.ready .any ops (listed.setIfInBounds j true) = [i])
    (hwi : Region.wanted oi (yielded ops a.tmps) = true) (hwj : Region.wanted oj (yielded ops a.tmps) = true) (hwi' : Region.wanted oi (yielded ops (a.put oj.dst (PT H)).tmps) = true) (hwj' : Region.wanted oj (yielded ops (a.put oi.dst (PT H)).tmps) = true)
    (h1 : (execOp a.eval oi).run Tryz.prog w = .ok (.value (PT H)) w1) (h2 : (execOp a.eval oj).run Tryz.prog w = .ok (.value (PT H)) w1)
    (h12 : (execOp (a.put oi.dst (PT H)).eval oj).run Tryz.prog w1 = .ok (.value (PT (H + 1))) w2) (h21 : (execOp (a.put oj.dst (PT H)).eval oi).run Tryz.prog w1 = .ok (.value (PT (H + 1))) w2) (hS : S w1) (hS' : S w2)
    (hl : (listed.setIfInBounds i true).setIfInBounds j true = (listed.setIfInBounds j true).setIfInBounds i true) (hc : (a.put oj.dst (PT H)).put oi.dst (PT (H + 1)) = (a.put oi.dst (PT (H + 1))).put oj.dst (PT H))
    (h : ∀ bi bj, (bi = H ∧ bj = H + 1) ∨ (bi = H + 1 ∧ bj = H) → wpAnyH Tryz.prog .any ops (NoPanic Q) S fuel ((listed.setIfInBounds i true).setIfInBounds j true) ((a.put oi.dst (PT bi)).put oj.dst (PT bj)) w2) : wpAnyH Tryz.prog .any ops (NoPanic Q) S (fuel + 2) listed a w := by
  refine wpAnyH_all hr (by simp) ?_
  intro k hk
  rcases List.mem_cons.1 hk with rfl | hk
  · unfold wpOp
    simp only [at_drop hi, hwi, if_true]
    refine .inl ?_
    unfold Oper.wp
    rw [h1, Oper.upon_value]
    exact ⟨hS, h_alloc j _ w2 hj hri hwj' h12 hS' (h _ _ (.inl ⟨rfl, rfl⟩))⟩
  · obtain rfl : k = j := by simpa using hk
    unfold wpOp
    simp only [at_drop hj, hwj, if_true]
    refine .inl ?_
    unfold Oper.wp
    rw [h2, Oper.upon_value]
    exact ⟨hS, h_alloc i _ w2 hi hrj hwi' h21 hS' (by rw [hc, ← hl]; exact h _ _ (.inr ⟨rfl, rfl⟩))⟩
end
/-- A group is turned whole. -/
theorem grp_turn {W : World} {gb L cap : Nat} {gs : List (Nat × Nat × Nat)} (h : OwnJ grpS W (.slice (some ⟨gb, 0, none⟩) L cap) gs) {k : Nat} (hk : k < gs.length) (a m b : Nat) :
    OwnJ grpS (((W.setCell ⟨gb, k * 3, none⟩ (.int .i64 a)).setCell ⟨gb, k * 3 + 1, none⟩ (.int .i64 m)).setCell ⟨gb, k * 3 + 2, none⟩ (.int .i64 b)) (.slice (some ⟨gb, 0, none⟩) L cap) (gs.set k (a, m, b)) := by
  refine h.put k (a, m, b) hk fun cur hb => ⟨_, ((hb.set (k * 3) _).set (k * 3 + 1) _).set (k * 3 + 2) _, by simp, fun j hj => ?_⟩
  show _ = if k * 3 ≤ j ∧ j < k * 3 + 3 then (grpS.enc (a, m, b))[j - k * 3]? else cur[j]?
  simp only [Array.getElem?_setIfInBounds, Array.size_setIfInBounds]
  by_cases e2 : k * 3 ≤ j ∧ j < k * 3 + 3
  · rw [if_pos e2]
    obtain e | e | e : j = k * 3 ∨ j = k * 3 + 1 ∨ j = k * 3 + 2 := by omega
    · rw [if_neg (by omega), if_neg (by omega), if_pos (by omega), if_pos (by omega)]
      have : j - k * 3 = 0 := by omega
      rw [this]; rfl
    · rw [if_neg (by omega), if_pos (by omega), if_pos (by omega)]
      have : j - k * 3 = 1 := by omega
      rw [this]; rfl
    · rw [if_pos (by omega), if_pos (by omega)]
      have : j - k * 3 = 2 := by omega
      rw [this]; rfl
  · rw [if_neg e2, if_neg (by omega), if_neg (by omega), if_neg (by omega)]
end Go.Proofs.YtjcfnmjjkadaeaaGreatDoor
/- Package alike's split, group by group. Mathematics alone. -/
namespace Go.Proofs.YtjcfnmjjkadaeaaGreatDoor
set_option maxRecDepth 100000
set_option linter.unusedSimpArgs false
set_option linter.unusedVariables false

theorem splL_snoc (pl : Nat → Nat) (ts : List Nat) (k : Nat) (s : (Nat → Nat) × List (Nat × Nat × Nat)) : splL pl (ts ++ [k]) s = spl1 pl k (splL pl ts s) := by
  unfold splL; rw [List.foldl_append]; rfl
theorem spl1_keep {pl f : Nat → Nat} {gs : List (Nat × Nat × Nat)} {j k : Nat} {x : Nat × Nat × Nat} (hj : j ≠ k) (hx : gs[j]? = some x) : (spl1 pl k (f, gs)).2[j]? = some x := by
  have hjl := (List.getElem?_eq_some_iff.1 hx).1
  unfold spl1
  simp only
  cases hk : gs[k]? with
  | none => exact hx
  | some y =>
    obtain ⟨a, m, b⟩ := y
    simp only
    split
    · show (gs.set k (a, a, b))[j]? = some x
      rw [List.getElem?_set, if_neg (fun e => hj e.symm)]; exact hx
    · split
      · show (gs.set k (m, m, b) ++ [(a, a, m)])[j]? = some x
        rw [List.getElem?_append_left (by simpa using hjl), List.getElem?_set, if_neg (fun e => hj e.symm)]; exact hx
      · show (gs.set k (a, a, m) ++ [(m, m, b)])[j]? = some x
        rw [List.getElem?_append_left (by simpa using hjl), List.getElem?_set, if_neg (fun e => hj e.symm)]; exact hx
theorem splL_keep {pl : Nat → Nat} : ∀ (ts : List Nat) {f : Nat → Nat} {gs : List (Nat × Nat × Nat)} {j : Nat} {x : Nat × Nat × Nat}, j ∉ ts → gs[j]? = some x → (splL pl ts (f, gs)).2[j]? = some x
  | [], _, _, _, _, _, hx => hx
  | k :: ts, f, gs, j, x, hj, hx => by
    have h1 := spl1_keep (pl := pl) (f := f) (k := k) (fun e => hj (by simp [e])) hx
    have h2 := splL_keep (pl := pl) ts (f := (spl1 pl k (f, gs)).1) (gs := (spl1 pl k (f, gs)).2) (fun h => hj (by simp [h])) h1
    exact h2
/-- No more groups than states. -/
theorem Prt.count {n : Nat} {f od pl : Nat → Nat} {gs : List (Nat × Nat × Nat)} (h : Prt n f od pl gs) : gs.length ≤ n := by
  have hs : ∀ k, k < gs.length → (gs.getD k (0, 0, 0)).1 < n ∧ f (od (gs.getD k (0, 0, 0)).1) = k := fun k hk => by
    obtain ⟨s1, s2, s3, s4, s5⟩ := h.shp k gs[k] (List.getElem?_eq_getElem hk)
    have e : gs.getD k (0, 0, 0) = gs[k] := by simp [List.getD_eq_getElem?_getD, hk]
    rw [e]
    exact ⟨by omega, s5 _ (Nat.le_refl _) s3⟩
  have hp := pigeon ((List.range gs.length).map fun k => [(gs.getD k (0, 0, 0)).1]) ((List.range n).map fun k => [k]) ?_ ?_
  · simpa using hp
  · rw [List.nodup_iff_pairwise_ne, List.pairwise_map]
    refine List.pairwise_lt_range.imp_of_mem ?_
    intro i j hi hj hlt e
    have h1 := (hs i (List.mem_range.1 hi)).2
    have h2 := (hs j (List.mem_range.1 hj)).2
    injection e with e _
    rw [e, h2] at h1
    omega
  · intro x hx
    obtain ⟨k, hk, rfl⟩ := List.mem_map.1 hx
    exact List.mem_map.2 ⟨_, List.mem_range.2 (hs k (List.mem_range.1 hk)).1, rfl⟩
end Go.Proofs.YtjcfnmjjkadaeaaGreatDoor
/- Package alike's split. -/
namespace Go.Proofs.YtjcfnmjjkadaeaaGreatDoor
set_option maxRecDepth 100000
set_option linter.unusedSimpArgs false
set_option linter.unusedVariables false
open Go.RowKit Go.Shelf

theorem Blk.three {W : World} {b : Nat} {x0 x1 x2 : Value} {t : TypeId} (h : Blk W b #[x0, x1, x2] t) (u v z : Value) : Blk (((W.setCell ⟨b, 0, none⟩ u).setCell ⟨b, 0 + 1, none⟩ v).setCell ⟨b, 0 + 2, none⟩ z) b #[u, v, z] t := ((h.set 0 u).set 1 v).set 2 z
theorem Blk.not3 {W : World} {b b' : Nat} {c : Array Value} {t : TypeId} (h : Blk W b c t) (hn : b ≠ b') (o1 o2 o3 : Nat) (u v z : Value) : Blk (((W.setCell ⟨b', o1, none⟩ u).setCell ⟨b', o2, none⟩ v).setCell ⟨b', o3, none⟩ z) b c t := ((h.setOther _ _ hn).setOther _ _ hn).setOther _ _ hn
theorem below3 {W W' : World} {B b : Nat} (h : Below B W W') (hb : B ≤ b) (o1 o2 o3 : Nat) (u v z : Value) : Below B W (((W'.setCell ⟨b, o1, none⟩ u).setCell ⟨b, o2, none⟩ v).setCell ⟨b, o3, none⟩ z) := ((h.setCell hb _).setCell hb _).setCell hb _
theorem PrtE.setG3 {W : World} {p n : Nat} {f od pl : Nat → Nat} {gs gs' : List (Nat × Nat × Nat)} {ts : List Nat} {bf bo bp gb L cap o1 o2 o3 : Nat} {u v z : Value} {vt : Value} (h : PrtE W p n f od pl gs ts bf bo bp (.slice (some ⟨gb, 0, none⟩) L cap) vt) (hl : 0 < gs.length)
    (hg : OwnJ grpS (((W.setCell ⟨gb, o1, none⟩ u).setCell ⟨gb, o2, none⟩ v).setCell ⟨gb, o3, none⟩ z) (.slice (some ⟨gb, 0, none⟩) L cap) gs') : PrtE (((W.setCell ⟨gb, o1, none⟩ u).setCell ⟨gb, o2, none⟩ v).setCell ⟨gb, o3, none⟩ z) p n f od pl gs' ts bf bo bp (.slice (some ⟨gb, 0, none⟩) L cap) vt := by
  obtain ⟨cur, hb⟩ := h.og.blk (g := gb) rfl
  have hv := h.ot.neT hb (by decide)
  exact ⟨h.blk.not3 (h.blk.ne hb (by decide)) _ _ _ _ _ _, h.kf.not3 (h.kf.ne hb (by decide)) _ _ _ _ _ _, h.ko.not3 (h.ko.ne hb (by decide)) _ _ _ _ _ _, h.kp.not3 (h.kp.ne hb (by decide)) _ _ _ _ _ _, hg, ((h.ot.set hv).set hv).set hv, h.fo, h.fp, h.op, h.tf, h.to', h.tp⟩
theorem x_lssK (ρ : Operand → Value) (d : Option Tmp) (x y : Operand) (t : TypeId) (pos : String) (af : Array Edge) (g : Option (Nat × Bool)) (u v : Int) (c : Bool) (h : decide (u < v) = c) (hx : ρ x = .int .i64 u) (hy : ρ y = .int .i64 v) (w : World) :
    (execOp ρ { dst := d, op := .binOp .lss 3 x y 3, type := t, pos := pos, after := af, guard := g }).run Tryz.prog w = .ok (.value (.bool c)) w := by
  rw [← h]; simp [go_sem, hx, hy]
set_option maxHeartbeats 8000000 in
theorem split_any {W : World} {p n : Nat} {f od pl : Nat → Nat} {gs : List (Nat × Nat × Nat)} {ts : List Nat} {o : Nat → Prop} (h : PrtAt W p n f od pl gs ts o) (hn5 : n ≤ 1000000) (hp : Prt n f od pl gs) (hnd : ts.Nodup) (hts : ∀ k ∈ ts, ∃ a m b, gs[k]? = some (a, m, b) ∧ a < m) (htl : ts.length ≤ 1000000) :
    Calls Tryz.prog 94 #[PT p] W fun e w' => e = .returned (.tuple #[]) ∧ ∃ o', PrtAt w' p n (splL pl ts (f, gs)).1 od pl (splL pl ts (f, gs)).2 [] o' ∧ Kp W o w' o' := by
  obtain ⟨bf, bo, bp, vg0, vt, he, rfl⟩ := h.ex
  obtain ⟨ta, tc, hvt, htc⟩ := he.ot.slice
  have HVT := hide hvt
  have HE := hide he
  have HP := hide hp
  have HND := hide hnd
  have HTS := hide hts
  obtain ⟨tl, htl'⟩ : ∃ tl, ts.length = tl := ⟨_, rfl⟩
  have HTL := hide htl'
  have c4 := he.c.2.2.2.2
  rw [hvt, htl'] at c4
  clear h he hp hnd hts hvt htl'
  unfold PT
  go_enter Tryz.func94, Tryz.ntmps94
  go_wp2
  clear c4
  go_loopw [12] (fun iv wr => ∃ (j : Nat) (vg : Value), iv = .int .i64 j ∧ j ≤ tl ∧ Hid (PrtE wr p n (splL pl (ts.take j) (f, gs)).1 od pl (splL pl (ts.take j) (f, gs)).2 ts bf bo bp vg vt) ∧ Hid (Kp W (ownP p bf bo bp vg0 vt) wr (ownP p bf bo bp vg vt))) (fun iv _ => tl - (intOf iv).toNat)
  case atStart => exact ⟨0, vg0, rfl, Nat.zero_le _, HE.out, Kp.refl _ _⟩
  case round =>
    obtain ⟨j, vg, rfl, hj, HE1, HK1⟩ := hrel
    by_cases hlt : j < tl
    · have dj : decide ((j : Int) < (tl : Int)) = true := by simp; omega
      have dj2 : decide (j < tl) = true := decide_eq_true hlt
      have hjt : j < ts.length := by rw [HTL.out]; exact hlt
      obtain ⟨k, hk⟩ : ∃ k, ts[j]? = some k := ⟨_, List.getElem?_eq_getElem hjt⟩
      have htk : ts.take (j + 1) = ts.take j ++ [k] := by rw [List.take_add_one, hk]; rfl
      obtain ⟨f1, gs1, hfg⟩ : ∃ f1 gs1, splL pl (ts.take j) (f, gs) = (f1, gs1) := ⟨_, _, rfl⟩
      have hnx : splL pl (ts.take (j + 1)) (f, gs) = spl1 pl k (f1, gs1) := by rw [htk, splL_snoc, hfg]
      have hkm : k ∈ ts := List.mem_of_getElem? hk
      obtain ⟨a, m, b, hx0, ham⟩ := HTS.out k hkm
      have hsub : ∀ x ∈ ts.take j, x ∈ ts := fun x hx => List.mem_of_mem_take hx
      have hkn : k ∉ ts.take j := fun hm => by
        have h1 := HND.out
        obtain ⟨i, hi⟩ := List.mem_iff_getElem?.1 hm
        have hij : i < j := by have := (List.getElem?_eq_some_iff.1 hi).1; rw [List.length_take] at this; omega
        rw [List.getElem?_take, if_pos hij] at hi
        have := (List.getElem?_inj (by omega) h1).1 (hi.trans hk.symm)
        omega
      have hx : gs1[k]? = some (a, m, b) := by
        have := splL_keep (pl := pl) (ts.take j) (f := f) (gs := gs) hkn hx0
        rw [hfg] at this; exact this
      have hp1 : Prt n f1 od pl gs1 := by
        have := (Prt.cutL (ts.take j) HP.out (List.Sublist.nodup (List.take_sublist _ _) HND.out) fun x hx => HTS.out x (hsub x hx)).1
        rw [hfg] at this; exact this
      obtain ⟨s1, s2, s3, s4, s5⟩ := hp1.shp _ _ hx
      simp only at s1 s2 s3 s4 s5
      have hkl : k < gs1.length := (List.getElem?_eq_some_iff.1 hx).1
      have hcn := hp1.count
      rw [hfg] at HE1
      have HE1 : Hid (PrtE wr p n f1 od pl gs1 ts bf bo bp vg vt) := HE1.out
      obtain ⟨gb, gcap, rfl, hgb, -, ⟨cg, hcg⟩, hcell⟩ := HE1.out.og.cell (by omega)
      obtain ⟨L, hL⟩ : ∃ L, gs1.length = L := ⟨_, rfl⟩
      rw [hL] at HE1 HK1
      have hkL : k < L := by omega
      have g0 : wr.cell? ⟨gb, k * 3, none⟩ = some (.int .i64 a) := hcell k _ hx 0 (by decide)
      have g1 : wr.cell? ⟨gb, k * 3 + 1, none⟩ = some (.int .i64 m) := hcell k _ hx 1 (by decide)
      have g2 : wr.cell? ⟨gb, k * 3 + 2, none⟩ = some (.int .i64 b) := hcell k _ hx 2 (by decide)
      have c3 : wr.cell? ⟨p, 3, none⟩ = some (.slice (some ⟨gb, 0, none⟩) L gcap) := HE1.out.c.2.2.2.1
      have hto : ∃ g, ta = some ⟨g, 0, none⟩ ∧ wr.cell? ⟨g, j, none⟩ = some (.int .i64 k) := by
        obtain ⟨g, c, e, -, -, -, hc⟩ := HE1.out.ot.cell (by omega)
        rw [HVT.out] at e
        injection e with e _ _
        have h := hc j k hk 0 (by decide)
        refine ⟨g, e, ?_⟩
        have h : wr.cell? ⟨g, j * 1 + 0, none⟩ = some (.int .i64 k) := h
        rw [Nat.mul_one, Nat.add_zero] at h
        exact h
      obtain ⟨tg, rfl, ctk⟩ := hto
      have HX := hide hx
      have HP1 := hide hp1
      have HNX := hide hnx
      have HLL := hide hL
      clear hk htk hfg hnx hkm hx0 hsub hkn hcell s5 hL hgb hcg
      go_wp2
      obtain ⟨W1, hW1⟩ : ∃ W1, wr.alloc (.cells #[.int .i64 a, .int .i64 m, .int .i64 b] 176) = W1 := ⟨_, rfl⟩
      obtain ⟨bw, hbw⟩ : ∃ bw, wr.heap.size = bw := ⟨_, rfl⟩
      have hb1 : Below wr.heap.size wr W1 := by rw [← hW1]; exact (Below.refl _ _).alloc (Nat.le_refl _) _
      have hkw : Blk W1 bw #[.int .i64 a, .int .i64 m, .int .i64 b] 176 := by rw [← hW1, ← hbw]; exact Blk.new _ _ _
      have hX0 : Below W1.heap.size W1 { W1 with drawn := W1.drawn + 1 } := ⟨rfl, rfl, rfl, Nat.le_refl _, fun _ _ => rfl⟩
      have HB1 := hide (hb1.trans (hX0.mono hb1.size))
      have HKW := hide (hkw.below hX0 hkw.lt)
      rw [hW1, hbw]
      have HBW := hide hbw
      clear hb1 hkw hX0 hW1 hbw g0 g1 g2 c3 ctk
      refine wp_region_noPanic (wp_region_held (S := fun X => X.cell? ⟨bw, 0, none⟩ = some (.int .i64 a) ∧ X.cell? ⟨bw, 1, none⟩ = some (.int .i64 m) ∧ X.cell? ⟨bw, 2, none⟩ = some (.int .i64 b)) (by kernel_rfl) ?_)
      show wpAnyH _ _ _ _ _ 18 #[false, false, false, false, false, false, false, false, false, false, false, false, false, false, false, false, false, false] _ _
      generalize ({ W1 with drawn := W1.drawn + 1 } : World) = Z at HB1 HKW ⊢
      have hkw := HKW.out
      have hS : Z.cell? ⟨bw, 0, none⟩ = some (.int .i64 a) ∧ Z.cell? ⟨bw, 1, none⟩ = some (.int .i64 m) ∧ Z.cell? ⟨bw, 2, none⟩ = some (.int .i64 b) := ⟨hkw.cell 0, hkw.cell 1, hkw.cell 2⟩
      refine h_take 0 (.pointer (some ⟨bw, 0, none⟩)) rfl (by kernel_rfl) (by kernel_rfl) (by kernel_rfl) rfl (fun w hw => x_gF0 _ _ _ _ _ _ _ bw 0 rfl w) hS ?_
      simp only [Act.put, List.setIfInBounds_toArray, List.set_cons_succ, List.set_cons_zero]
      refine h_take 1 (.int .i64 a) rfl (by kernel_rfl) (by kernel_rfl) (by kernel_rfl) rfl (fun w hw => x_ldI _ _ _ _ _ _ _ bw 0 a rfl w (hw.1)) hS ?_
      simp only [Act.put, List.setIfInBounds_toArray, List.set_cons_succ, List.set_cons_zero]
      refine h_take 2 (.pointer (some ⟨bw, 0, none⟩)) rfl (by kernel_rfl) (by kernel_rfl) (by kernel_rfl) rfl (fun w hw => x_gF0 _ _ _ _ _ _ _ bw 0 rfl w) hS ?_
      simp only [Act.put, List.setIfInBounds_toArray, List.set_cons_succ, List.set_cons_zero]
      refine h_take 3 (.int .i64 a) rfl (by kernel_rfl) (by kernel_rfl) (by kernel_rfl) rfl (fun w hw => x_ldI _ _ _ _ _ _ _ bw 0 a rfl w (hw.1)) hS ?_
      simp only [Act.put, List.setIfInBounds_toArray, List.set_cons_succ, List.set_cons_zero]
      refine h_take 4 (.pointer (some ⟨bw, 1, none⟩)) rfl (by kernel_rfl) (by kernel_rfl) (by kernel_rfl) rfl (fun w hw => x_gF1 _ _ _ _ _ _ _ bw 0 rfl w) hS ?_
      simp only [Act.put, List.setIfInBounds_toArray, List.set_cons_succ, List.set_cons_zero]
      refine h_take 5 (.int .i64 m) rfl (by kernel_rfl) (by kernel_rfl) (by kernel_rfl) rfl (fun w hw => x_ldI _ _ _ _ _ _ _ bw 1 m rfl w (hw.2.1)) hS ?_
      simp only [Act.put, List.setIfInBounds_toArray, List.set_cons_succ, List.set_cons_zero]
      refine h_take 6 (.agg #[.int .i64 a, .int .i64 a, .int .i64 m]) rfl (by kernel_rfl) (by kernel_rfl) (by kernel_rfl) rfl (fun w hw => x_bdG _ _ _ _ _ _ _ _ _ a a m rfl rfl rfl w) hS ?_
      simp only [Act.put, List.setIfInBounds_toArray, List.set_cons_succ, List.set_cons_zero]
      refine h_take 7 (.pointer (some ⟨bw, 1, none⟩)) rfl (by kernel_rfl) (by kernel_rfl) (by kernel_rfl) rfl (fun w hw => x_gF1 _ _ _ _ _ _ _ bw 0 rfl w) hS ?_
      simp only [Act.put, List.setIfInBounds_toArray, List.set_cons_succ, List.set_cons_zero]
      refine h_take 8 (.int .i64 m) rfl (by kernel_rfl) (by kernel_rfl) (by kernel_rfl) rfl (fun w hw => x_ldI _ _ _ _ _ _ _ bw 1 m rfl w (hw.2.1)) hS ?_
      simp only [Act.put, List.setIfInBounds_toArray, List.set_cons_succ, List.set_cons_zero]
      refine h_take 9 (.pointer (some ⟨bw, 1, none⟩)) rfl (by kernel_rfl) (by kernel_rfl) (by kernel_rfl) rfl (fun w hw => x_gF1 _ _ _ _ _ _ _ bw 0 rfl w) hS ?_
      simp only [Act.put, List.setIfInBounds_toArray, List.set_cons_succ, List.set_cons_zero]
      refine h_take 10 (.int .i64 m) rfl (by kernel_rfl) (by kernel_rfl) (by kernel_rfl) rfl (fun w hw => x_ldI _ _ _ _ _ _ _ bw 1 m rfl w (hw.2.1)) hS ?_
      simp only [Act.put, List.setIfInBounds_toArray, List.set_cons_succ, List.set_cons_zero]
      refine h_take 11 (.pointer (some ⟨bw, 2, none⟩)) rfl (by kernel_rfl) (by kernel_rfl) (by kernel_rfl) rfl (fun w hw => x_gF2 _ _ _ _ _ _ _ bw 0 rfl w) hS ?_
      simp only [Act.put, List.setIfInBounds_toArray, List.set_cons_succ, List.set_cons_zero]
      refine h_take 12 (.int .i64 b) rfl (by kernel_rfl) (by kernel_rfl) (by kernel_rfl) rfl (fun w hw => x_ldI _ _ _ _ _ _ _ bw 2 b rfl w (hw.2.2)) hS ?_
      simp only [Act.put, List.setIfInBounds_toArray, List.set_cons_succ, List.set_cons_zero]
      refine h_take 13 (.agg #[.int .i64 m, .int .i64 m, .int .i64 b]) rfl (by kernel_rfl) (by kernel_rfl) (by kernel_rfl) rfl (fun w hw => x_bdG _ _ _ _ _ _ _ _ _ m m b rfl rfl rfl w) hS ?_
      simp only [Act.put, List.setIfInBounds_toArray, List.set_cons_succ, List.set_cons_zero]
      obtain ⟨H, hH⟩ : ∃ H, Z.heap.size = H := ⟨_, rfl⟩
      obtain ⟨Z1, hZ1⟩ : ∃ Z1, Z.alloc (.cells #[.int .i64 0, .int .i64 0, .int .i64 0] 176) = Z1 := ⟨_, rfl⟩
      obtain ⟨Z2, hZ2⟩ : ∃ Z2, Z1.alloc (.cells #[.int .i64 0, .int .i64 0, .int .i64 0] 176) = Z2 := ⟨_, rfl⟩
      have hs1 : Z1.heap.size = H + 1 := by rw [← hZ1, ← hH]; simp
      have bz1 : Below Z.heap.size Z Z1 := by rw [← hZ1]; exact (Below.refl _ _).alloc (Nat.le_refl _) _
      have bz2 : Below Z1.heap.size Z1 Z2 := by rw [← hZ2]; exact (Below.refl _ _).alloc (Nat.le_refl _) _
      have k1 : Blk Z1 H #[.int .i64 0, .int .i64 0, .int .i64 0] 176 := by rw [← hZ1, ← hH]; exact Blk.new _ _ _
      have k2 : Blk Z2 (H + 1) #[.int .i64 0, .int .i64 0, .int .i64 0] 176 := by rw [← hZ2, ← hs1]; exact Blk.new _ _ _
      have k1' := k1.below bz2 k1.lt
      have hkw1 := hkw.below bz1 hkw.lt
      have hkw2 := hkw1.below bz2 hkw1.lt
      have hbwH : bw < H := by rw [← hH]; exact hkw.lt
      have hBz : Below wr.heap.size wr Z2 := (HB1.out.trans (bz1.mono HB1.out.size)).trans (bz2.mono (Nat.le_trans HB1.out.size bz1.size))
      have ha1 : ∀ (ρ : Operand → Value) d t pos af g, (execOp ρ { dst := d, op := .alloc 176, type := t, pos := pos, after := af, guard := g }).run Tryz.prog Z = .ok (.value (PT H)) Z1 := fun ρ d t pos af g => by
        have := x_alG ρ d t pos af g Z
        rw [hZ1, hH] at this; exact this
      have ha2 : ∀ (ρ : Operand → Value) d t pos af g, (execOp ρ { dst := d, op := .alloc 176, type := t, pos := pos, after := af, guard := g }).run Tryz.prog Z1 = .ok (.value (PT (H + 1))) Z2 := fun ρ d t pos af g => by
        have := x_alG ρ d t pos af g Z1
        rw [hZ2, hs1] at this; exact this
      refine h_allocs 14 15 H Z1 Z2 rfl rfl (by kernel_rfl) (by kernel_rfl) (by kernel_rfl) rfl rfl rfl rfl (ha1 _ _ _ _ _ _) (ha1 _ _ _ _ _ _) (ha2 _ _ _ _ _ _) (ha2 _ _ _ _ _ _) ⟨hkw1.cell 0, hkw1.cell 1, hkw1.cell 2⟩ ⟨hkw2.cell 0, hkw2.cell 1, hkw2.cell 2⟩ rfl rfl ?_
      intro bl bh hlh
      have hbl : Blk Z2 bl #[.int .i64 0, .int .i64 0, .int .i64 0] 176 := by rcases hlh with ⟨rfl, rfl⟩ | ⟨rfl, rfl⟩ <;> first | exact k1' | exact k2
      have hbh : Blk Z2 bh #[.int .i64 0, .int .i64 0, .int .i64 0] 176 := by rcases hlh with ⟨rfl, rfl⟩ | ⟨rfl, rfl⟩ <;> first | exact k1' | exact k2
      have nlh : bl ≠ bh := by rcases hlh with ⟨rfl, rfl⟩ | ⟨rfl, rfl⟩ <;> omega
      have hlw : bw < bl := by rcases hlh with ⟨rfl, rfl⟩ | ⟨rfl, rfl⟩ <;> omega
      have hhw : bw < bh := by rcases hlh with ⟨rfl, rfl⟩ | ⟨rfl, rfl⟩ <;> omega
      simp only [Act.put, List.setIfInBounds_toArray, List.set_cons_succ, List.set_cons_zero]
      have e1 := hbl.three (.int .i64 (a : Nat)) (.int .i64 (a : Nat)) (.int .i64 (m : Nat))
      have e1h := hbh.not3 (Ne.symm nlh) 0 (0 + 1) (0 + 2) (.int .i64 (a : Nat)) (.int .i64 (a : Nat)) (.int .i64 (m : Nat))
      have e1w := hkw2.not3 (Nat.ne_of_lt hlw) 0 (0 + 1) (0 + 2) (.int .i64 (a : Nat)) (.int .i64 (a : Nat)) (.int .i64 (m : Nat))
      have e2 := e1h.three (.int .i64 (m : Nat)) (.int .i64 (m : Nat)) (.int .i64 (b : Nat))
      have e2l := e1.not3 nlh 0 (0 + 1) (0 + 2) (.int .i64 (m : Nat)) (.int .i64 (m : Nat)) (.int .i64 (b : Nat))
      have e2w := e1w.not3 (Nat.ne_of_lt hhw) 0 (0 + 1) (0 + 2) (.int .i64 (m : Nat)) (.int .i64 (m : Nat)) (.int .i64 (b : Nat))
      have hwl : wr.heap.size ≤ bl := by have := HBW.out; omega
      have hwh : wr.heap.size ≤ bh := by have := HBW.out; omega
      have hB4 := below3 (below3 hBz hwl 0 (0 + 1) (0 + 2) (.int .i64 (a : Nat)) (.int .i64 (a : Nat)) (.int .i64 (m : Nat))) hwh 0 (0 + 1) (0 + 2) (.int .i64 (m : Nat)) (.int .i64 (m : Nat)) (.int .i64 (b : Nat))
      refine h_step 16 _ rfl (by kernel_rfl) rfl (x_stG _ _ _ _ _ _ _ _ bl 0 a a m rfl rfl Z2 _ _ _ (hbl.cell 0) (hbl.cell 1) (hbl.cell 2) (fun i => hbl.frozen i)) ⟨e1w.cell 0, e1w.cell 1, e1w.cell 2⟩ ?_
      simp only [Act.put, List.setIfInBounds_toArray, List.set_cons_succ, List.set_cons_zero]
      refine h_step 17 _ rfl (by kernel_rfl) rfl (x_stG _ _ _ _ _ _ _ _ bh 0 m m b rfl rfl _ _ _ _ (e1h.cell 0) (e1h.cell 1) (e1h.cell 2) (fun i => e1h.frozen i)) ⟨e2w.cell 0, e2w.cell 1, e2w.cell 2⟩ ?_
      simp only [Act.put, List.setIfInBounds_toArray, List.set_cons_succ, List.set_cons_zero]
      refine wpAnyH_done (by kernel_rfl) ?_ _
      refine NoPanic.normal ?_
      have HBL := hide e2l
      have HBH := hide e2
      have HW4 := hide e2w
      have HB4 := hide hB4
      generalize (((((((Z2.setCell ⟨bl, 0, none⟩ (.int .i64 (a : Nat))).setCell ⟨bl, 0 + 1, none⟩ (.int .i64 (a : Nat))).setCell ⟨bl, 0 + 2, none⟩ (.int .i64 (m : Nat))).setCell ⟨bh, 0, none⟩ (.int .i64 (m : Nat))).setCell ⟨bh, 0 + 1, none⟩ (.int .i64 (m : Nat))).setCell ⟨bh, 0 + 2, none⟩ (.int .i64 (b : Nat)))) = V4 at HBL HBH HW4 HB4 ⊢
      have HE4 := hide (HE1.out.keep HB4.out)
      have HK4 := hide (HK1.out.trans (Kp.of (o := ownP p bf bo bp (.slice (some ⟨gb, 0, none⟩) L gcap) vt) HB4.out))
      have hgw : gb < wr.heap.size := by obtain ⟨c, hc⟩ := HE1.out.og.blk (g := gb) rfl; exact hc.lt
      clear hkw hS hH hZ1 hZ2 hs1 bz1 bz2 k1 k2 k1' hkw1 hkw2 hBz ha1 ha2 hlh hbl hbh e1 e1h e1w e2 e2l e2w hB4 HB1 HKW HB4 HE1 HK1 hbwH
      have hX5 : Below V4.heap.size V4 { V4 with drawn := V4.drawn + 1 } := ⟨rfl, rfl, rfl, Nat.le_refl _, fun _ _ => rfl⟩
      have HE5 := hide (HE4.out.keep hX5)
      have HK5 := hide (HK4.out.trans (Kp.of (o := ownP p bf bo bp (.slice (some ⟨gb, 0, none⟩) L gcap) vt) hX5))
      have HBL5 := hide (HBL.out.below hX5 HBL.out.lt)
      have HBH5 := hide (HBH.out.below hX5 HBH.out.lt)
      have HW5 := hide (HW4.out.below hX5 HW4.out.lt)
      have nwg : bw ≠ gb := by have := HBW.out; omega
      have nlg : bl ≠ gb := by omega
      have nhg : bh ≠ gb := by omega
      clear hX5 HE4 HK4 HBL HBH HW4
      go_wp2
      try rw [show Value.pointer (some ⟨p, 0, none⟩) = PT p from rfl]
      refine wp_region_noPanic (wp_region_held (S := fun X => X.cell? ⟨p, 3, none⟩ = some (.slice (some ⟨gb, 0, none⟩) L gcap) ∧ X.cell? ⟨bw, 0, none⟩ = some (.int .i64 a)) (by kernel_rfl) ?_)
      show wpAnyH _ _ _ _ _ 10 #[false, false, false, false, false, false, false, false, false, false] _ _
      generalize ({ V4 with drawn := V4.drawn + 1 } : World) = Z at HE5 HK5 HBL5 HBH5 HW5 ⊢
      have hE := HE5.out
      have hS : Z.cell? ⟨p, 3, none⟩ = some (.slice (some ⟨gb, 0, none⟩) L gcap) ∧ Z.cell? ⟨bw, 0, none⟩ = some (.int .i64 a) := ⟨hE.c.2.2.2.1, HW5.out.cell 0⟩
      refine h_take 0 (PT p) rfl (by kernel_rfl) (by kernel_rfl) (by kernel_rfl) rfl (fun w hw => x_move _ _ _ _ _ _ _ _ rfl w) hS ?_
      simp only [Act.put, List.setIfInBounds_toArray, List.set_cons_succ, List.set_cons_zero]
      refine h_take 1 (PT p) rfl (by kernel_rfl) (by kernel_rfl) (by kernel_rfl) rfl (fun w hw => x_nilCheck _ _ _ _ _ _ _ _ rfl w) hS ?_
      simp only [Act.put, List.setIfInBounds_toArray, List.set_cons_succ, List.set_cons_zero]
      refine h_take 2 (.pointer (some ⟨p, 3, none⟩)) rfl (by kernel_rfl) (by kernel_rfl) (by kernel_rfl) rfl (fun w hw => x_akF3 _ _ _ _ _ _ _ p rfl w) hS ?_
      simp only [Act.put, List.setIfInBounds_toArray, List.set_cons_succ, List.set_cons_zero]
      refine h_take 3 (.slice (some ⟨gb, 0, none⟩) L gcap) rfl (by kernel_rfl) (by kernel_rfl) (by kernel_rfl) rfl (fun w hw => x_ldGs _ _ _ _ _ _ _ p 3 (.slice (some ⟨gb, 0, none⟩) L gcap) rfl w (hw.1)) hS ?_
      simp only [Act.put, List.setIfInBounds_toArray, List.set_cons_succ, List.set_cons_zero]
      refine h_take 4 (.int .i64 k) rfl (by kernel_rfl) (by kernel_rfl) (by kernel_rfl) rfl (fun w hw => x_move _ _ _ _ _ _ _ _ rfl w) hS ?_
      simp only [Act.put, List.setIfInBounds_toArray, List.set_cons_succ, List.set_cons_zero]
      refine h_take 5 (.pointer (some ⟨bw, 0, none⟩)) rfl (by kernel_rfl) (by kernel_rfl) (by kernel_rfl) rfl (fun w hw => x_gF0 _ _ _ _ _ _ _ bw 0 rfl w) hS ?_
      simp only [Act.put, List.setIfInBounds_toArray, List.set_cons_succ, List.set_cons_zero]
      refine h_take 6 (.int .i64 a) rfl (by kernel_rfl) (by kernel_rfl) (by kernel_rfl) rfl (fun w hw => x_ldI _ _ _ _ _ _ _ bw 0 a rfl w (hw.2)) hS ?_
      simp only [Act.put, List.setIfInBounds_toArray, List.set_cons_succ, List.set_cons_zero]
      refine h_take 7 (.pointer (some ⟨gb, k * 3, none⟩)) rfl (by kernel_rfl) (by kernel_rfl) (by kernel_rfl) rfl (fun w hw => x_gIdx _ _ _ _ _ _ _ _ gb k L gcap (hkL) rfl rfl w) hS ?_
      simp only [Act.put, List.setIfInBounds_toArray, List.set_cons_succ, List.set_cons_zero]
      refine h_take 8 (.pointer (some ⟨gb, k * 3 + 1, none⟩)) rfl (by kernel_rfl) (by kernel_rfl) (by kernel_rfl) rfl (fun w hw => x_gF1 _ _ _ _ _ _ _ gb (k * 3) rfl w) hS ?_
      simp only [Act.put, List.setIfInBounds_toArray, List.set_cons_succ, List.set_cons_zero]
      have hgm := grp_mark hE.og HX.out a
      have hEm := hE.setG (by rw [HLL.out]; omega) hgm
      obtain ⟨cg5, hcg5⟩ := hE.og.blk (g := gb) rfl
      have hcell5 : Z.cell? ⟨gb, k * 3 + 1, none⟩ = some (.int .i64 m) := by
        obtain ⟨g', c', e', -, -, -, hcell⟩ := hE.og.cell (by rw [HLL.out]; omega)
        injection e' with e' _ _
        injection e' with e'
        injection e' with e' _
        subst e'
        exact hcell k _ HX.out 1 (by decide)
      have w5 := HW5.out.setOther ⟨gb, k * 3 + 1, none⟩ (.int .i64 (a : Nat)) nwg
      refine h_step 9 _ rfl (by kernel_rfl) rfl (x_stI _ _ _ _ _ _ _ _ gb (k * 3 + 1) (a : Nat) _ rfl rfl _ hcell5 (hcg5.frozen _)) ⟨hEm.c.2.2.2.1, w5.cell 0⟩ ?_
      simp only [Act.put, List.setIfInBounds_toArray, List.set_cons_succ, List.set_cons_zero]
      refine wpAnyH_done (by kernel_rfl) ?_ _
      refine NoPanic.normal ?_
      have HE6 := hide hEm
      have HK6 := hide (HK5.out.trans (Kp.set (W := Z) gb (k * 3 + 1) (.int .i64 (a : Nat)) (.inr (.inr (.inr (.inr (.inl rfl)))))))
      have HBL6 := hide (HBL5.out.setOther ⟨gb, k * 3 + 1, none⟩ (.int .i64 (a : Nat)) nlg)
      have HBH6 := hide (HBH5.out.setOther ⟨gb, k * 3 + 1, none⟩ (.int .i64 (a : Nat)) nhg)
      generalize Z.setCell ⟨gb, k * 3 + 1, none⟩ (.int .i64 (a : Nat)) = V6 at HE6 HK6 HBL6 HBH6 ⊢
      obtain ⟨gs2, hgs2⟩ : ∃ gs2, gs1.set k (a, a, b) = gs2 := ⟨_, rfl⟩
      have HG2 := hide hgs2
      have hl2 : gs2.length = L := by rw [← hgs2, List.length_set]; exact HLL.out
      rw [hgs2] at HE6
      have HL2 := hide hl2
      clear hS hE hgm hEm hcg5 hcell5 w5 HE5 HK5 HBL5 HBH5 HW5 hgs2 hl2
      have xh := HBH6.out
      have xh0 := xh.cell 0; have xh1 := xh.cell 1; have xh2 := xh.cell 2
      simp only [List.getElem?_toArray, List.getElem?_cons_zero, List.getElem?_cons_succ] at xh0 xh1 xh2
      have HGL := hide (glen_any m m b V6 s2 (by omega))
      clear xh
      unfold PT
      go_wp2_with fail
      refine HGL.out.mono ?_
      rintro e V7 ⟨rfl, hb7⟩
      have HE7 := hide (HE6.out.keep hb7)
      have HK7 := hide (HK6.out.trans (Kp.of (o := ownP p bf bo bp (.slice (some ⟨gb, 0, none⟩) L gcap) vt) hb7))
      have HBL7 := hide (HBL6.out.below hb7 HBL6.out.lt)
      have HBH7 := hide (HBH6.out.below hb7 HBH6.out.lt)
      clear hb7 HGL xh0 xh1 xh2 HE6 HK6 HBL6 HBH6
      by_cases h0 : b - m = 0
      · have d0 : (((b - m : Nat) : Int) == 0) = true := by simp [h0]
        have hnx : splL pl (ts.take (j + 1)) (f, gs) = (f1, gs2) := by
          rw [HNX.out]
          unfold spl1
          simp only [HX.out]
          rw [if_pos h0, HG2.out]
        have HN := hide hnx
        clear hnx
        obtain ⟨bm, hbm⟩ : ∃ bm, b - m = bm := ⟨_, rfl⟩
        rw [hbm] at d0 ⊢
        clear hbm
        go_wp2
        refine ⟨⟨j + 1, _, by go_num, hlt, ?_, HK7.out⟩, by simp [intOf]; omega⟩
        show PrtE _ _ _ _ _ _ _ _ _ _ _ _ _
        rw [HN.out]
        exact HE7.out
      · have d0 : (((b - m : Nat) : Int) == 0) = false := beq_eq_false_iff_ne.2 (by omega)
        obtain ⟨bm, hbm⟩ : ∃ bm, b - m = bm := ⟨_, rfl⟩
        obtain ⟨am, ham2⟩ : ∃ am, m - a = am := ⟨_, rfl⟩
        have HBM := hide hbm
        have HAM := hide ham2
        rw [hbm] at d0 ⊢
        obtain ⟨C, hC⟩ : ∃ C : World → Prop, C = fun X => Below V7.heap.size V7 X := ⟨_, rfl⟩
        have hcb : ∀ X, C X → Below V7.heap.size V7 X := fun X h => by rw [hC] at h; exact h
        have HG : Hid (Grows C) := fun X X' h hb => by rw [hC] at h ⊢; exact h.trans (hb.mono h.size)
        have HRL : Hid (∀ X, C X → X.cell? ⟨bl, 0, none⟩ = some (.int .i64 a) ∧ X.cell? ⟨bl, 0 + 1, none⟩ = some (.int .i64 a) ∧ X.cell? ⟨bl, 0 + 2, none⟩ = some (.int .i64 m)) := fun X hX => by
          have h := HBL7.out.below (hcb X hX) HBL7.out.lt
          exact ⟨h.cell 0, h.cell 1, h.cell 2⟩
        have HRH : Hid (∀ X, C X → X.cell? ⟨bh, 0, none⟩ = some (.int .i64 m) ∧ X.cell? ⟨bh, 0 + 1, none⟩ = some (.int .i64 m) ∧ X.cell? ⟨bh, 0 + 2, none⟩ = some (.int .i64 b)) := fun X hX => by
          have h := HBH7.out.below (hcb X hX) HBH7.out.lt
          exact ⟨h.cell 0, h.cell 1, h.cell 2⟩
        have HL1 : Hid (∀ X, C X → Calls Tryz.prog 125 #[.agg #[.int .i64 a, .int .i64 a, .int .i64 m]] X fun e w' => e = .returned (.int .i64 am) ∧ Below X.heap.size X w') := fun X _ => by rw [← ham2]; exact glen_any a a m X s1 (by omega)
        have HL3 : Hid (∀ X, C X → Calls Tryz.prog 125 #[.agg #[.int .i64 m, .int .i64 m, .int .i64 b]] X fun e w' => e = .returned (.int .i64 bm) ∧ Below X.heap.size X w') := fun X _ => by rw [← hbm]; exact glen_any m m b X s2 (by omega)
        have HC6 : Hid (C { V7 with drawn := V7.drawn + 1 }) := by rw [hC]; exact ⟨rfl, rfl, rfl, Nat.le_refl _, fun _ _ => rfl⟩
        have HCB := hide hcb
        obtain ⟨ls, hls⟩ : ∃ ls : Bool, decide ((am : Int) < (bm : Int)) = ls := ⟨_, rfl⟩
        have HLS := hide hls
        clear hC hcb hbm ham2 hls
        go_wp2
        have hG := HG.out
        have hrl := HRL.out
        have hrh := HRH.out
        have hl1 := HL1.out
        have hl3 := HL3.out
        refine w_lit (C := C) (by kernel_rfl) (by kernel_rfl) HC6.out ?_
        refine w_value (.agg #[.int .i64 a, .int .i64 a, .int .i64 m]) (by kernel_rfl) (fun w hw => x_ldG _ _ _ _ _ _ _ bl 0 a a m rfl w (hrl w hw).1 (hrl w hw).2.1 (hrl w hw).2.2) ?_
        simp only [Act.put, List.setIfInBounds_toArray, List.set_cons_succ, List.set_cons_zero]
        refine w_call hG 125 #[.agg #[.int .i64 a, .int .i64 a, .int .i64 m]] (.int .i64 am) (by kernel_rfl) (fun w => x_call1 _ _ _ _ _ _ _ _ _ _ rfl rfl (enters_of Tryz.func125 (by kernel_rfl) rfl) w) (fun w hw => hl1 w hw) ?_
        simp only [Act.put, List.setIfInBounds_toArray, List.set_cons_succ, List.set_cons_zero]
        refine w_value (.agg #[.int .i64 m, .int .i64 m, .int .i64 b]) (by kernel_rfl) (fun w hw => x_ldG _ _ _ _ _ _ _ bh 0 m m b rfl w (hrh w hw).1 (hrh w hw).2.1 (hrh w hw).2.2) ?_
        simp only [Act.put, List.setIfInBounds_toArray, List.set_cons_succ, List.set_cons_zero]
        refine w_call hG 125 #[.agg #[.int .i64 m, .int .i64 m, .int .i64 b]] (.int .i64 bm) (by kernel_rfl) (fun w => x_call1 _ _ _ _ _ _ _ _ _ _ rfl rfl (enters_of Tryz.func125 (by kernel_rfl) rfl) w) (fun w hw => hl3 w hw) ?_
        simp only [Act.put, List.setIfInBounds_toArray, List.set_cons_succ, List.set_cons_zero]
        refine w_value (.bool ls) (by kernel_rfl) (fun w hw => x_lssK _ _ _ _ _ _ _ _ am bm ls HLS.out rfl rfl w) ?_
        simp only [Act.put, List.setIfInBounds_toArray, List.set_cons_succ, List.set_cons_zero]
        refine w_value (.bool ls) (by kernel_rfl) (fun w hw => x_assign _ _ _ _ _ _ _ _ rfl w) ?_
        simp only [Act.put, List.setIfInBounds_toArray, List.set_cons_succ, List.set_cons_zero]
        refine w_nil ?_
        intro X hX
        have hXV := HCB.out X hX
        have HE8 := hide (HE7.out.keep hXV)
        have HK8 := hide (HK7.out.trans (Kp.of (o := ownP p bf bo bp (.slice (some ⟨gb, 0, none⟩) L gcap) vt) hXV))
        have HBL8 := hide (HBL7.out.below hXV HBL7.out.lt)
        have HBH8 := hide (HBH7.out.below hXV HBH7.out.lt)
        clear hG hrl hrh hl1 hl3 hXV hX HG HRL HRH HL1 HL3 HC6 HCB HE7 HK7 HBL7 HBH7
        cases ls with
        | true =>
          have hX9 : Below X.heap.size X { X with drawn := X.drawn + 1 } := ⟨rfl, rfl, rfl, Nat.le_refl _, fun _ _ => rfl⟩
          have HE9 := hide (HE8.out.keep hX9)
          have HK9 := hide (HK8.out.trans (Kp.of (o := ownP p bf bo bp (.slice (some ⟨gb, 0, none⟩) L gcap) vt) hX9))
          have HS9 := hide (HBL8.out.below hX9 HBL8.out.lt)
          have HT9 := hide (HBH8.out.below hX9 HBH8.out.lt)
          clear hX9 HE8 HK8 HBL8 HBH8
          go_wp2
          try rw [show Value.pointer (some ⟨p, 0, none⟩) = PT p from rfl]
          refine wp_region_noPanic (wp_region_held (S := fun X => X.cell? ⟨p, 3, none⟩ = some (.slice (some ⟨gb, 0, none⟩) L gcap) ∧ X.cell? ⟨bh, 0, none⟩ = some (.int .i64 m) ∧ X.cell? ⟨bh, 0 + 1, none⟩ = some (.int .i64 m) ∧ X.cell? ⟨bh, 0 + 2, none⟩ = some (.int .i64 b)) (by kernel_rfl) ?_)
          show wpAnyH _ _ _ _ _ 8 #[false, false, false, false, false, false, false, false] _ _
          generalize ({ X with drawn := X.drawn + 1 } : World) = Z at HE9 HK9 HS9 HT9 ⊢
          have hE := HE9.out
          have hS : Z.cell? ⟨p, 3, none⟩ = some (.slice (some ⟨gb, 0, none⟩) L gcap) ∧ Z.cell? ⟨bh, 0, none⟩ = some (.int .i64 m) ∧ Z.cell? ⟨bh, 0 + 1, none⟩ = some (.int .i64 m) ∧ Z.cell? ⟨bh, 0 + 2, none⟩ = some (.int .i64 b) := ⟨hE.c.2.2.2.1, HT9.out.cell 0, HT9.out.cell 1, HT9.out.cell 2⟩
          refine h_take 0 (PT p) rfl (by kernel_rfl) (by kernel_rfl) (by kernel_rfl) rfl (fun w hw => x_move _ _ _ _ _ _ _ _ rfl w) hS ?_
          simp only [Act.put, List.setIfInBounds_toArray, List.set_cons_succ, List.set_cons_zero]
          refine h_take 1 (PT p) rfl (by kernel_rfl) (by kernel_rfl) (by kernel_rfl) rfl (fun w hw => x_nilCheck _ _ _ _ _ _ _ _ rfl w) hS ?_
          simp only [Act.put, List.setIfInBounds_toArray, List.set_cons_succ, List.set_cons_zero]
          refine h_take 2 (.pointer (some ⟨p, 3, none⟩)) rfl (by kernel_rfl) (by kernel_rfl) (by kernel_rfl) rfl (fun w hw => x_akF3 _ _ _ _ _ _ _ p rfl w) hS ?_
          simp only [Act.put, List.setIfInBounds_toArray, List.set_cons_succ, List.set_cons_zero]
          refine h_take 3 (.slice (some ⟨gb, 0, none⟩) L gcap) rfl (by kernel_rfl) (by kernel_rfl) (by kernel_rfl) rfl (fun w hw => x_ldGs _ _ _ _ _ _ _ p 3 (.slice (some ⟨gb, 0, none⟩) L gcap) rfl w (hw.1)) hS ?_
          simp only [Act.put, List.setIfInBounds_toArray, List.set_cons_succ, List.set_cons_zero]
          refine h_take 4 (.int .i64 k) rfl (by kernel_rfl) (by kernel_rfl) (by kernel_rfl) rfl (fun w hw => x_move _ _ _ _ _ _ _ _ rfl w) hS ?_
          simp only [Act.put, List.setIfInBounds_toArray, List.set_cons_succ, List.set_cons_zero]
          refine h_take 5 (.agg #[.int .i64 m, .int .i64 m, .int .i64 b]) rfl (by kernel_rfl) (by kernel_rfl) (by kernel_rfl) rfl (fun w hw => x_ldG _ _ _ _ _ _ _ bh 0 m m b rfl w hw.2.1 hw.2.2.1 hw.2.2.2) hS ?_
          simp only [Act.put, List.setIfInBounds_toArray, List.set_cons_succ, List.set_cons_zero]
          refine h_take 6 (.pointer (some ⟨gb, k * 3, none⟩)) rfl (by kernel_rfl) (by kernel_rfl) (by kernel_rfl) rfl (fun w hw => x_gIdx _ _ _ _ _ _ _ _ gb k L gcap (hkL) rfl rfl w) hS ?_
          simp only [Act.put, List.setIfInBounds_toArray, List.set_cons_succ, List.set_cons_zero]
          have hk2 : k < gs2.length := by rw [HL2.out]; exact hkL
          have hgt := grp_turn hE.og hk2 m m b
          obtain ⟨cg9, hcg9⟩ := hE.og.blk (g := gb) rfl
          obtain ⟨q0, q1, q2, r0, r1, r2⟩ : ∃ q0 q1 q2, Z.cell? ⟨gb, k * 3, none⟩ = some q0 ∧ Z.cell? ⟨gb, k * 3 + 1, none⟩ = some q1 ∧ Z.cell? ⟨gb, k * 3 + 2, none⟩ = some q2 := by
            obtain ⟨g', c', e', -, -, -, hcell⟩ := hE.og.cell (by omega)
            injection e' with e' _ _
            injection e' with e'
            injection e' with e' _
            subst e'
            have hg := List.getElem?_eq_getElem hk2
            exact ⟨_, _, _, hcell k _ hg 0 (by decide), hcell k _ hg 1 (by decide), hcell k _ hg 2 (by decide)⟩
          have hE3 := hE.setG3 (by omega) hgt
          have t9 := HT9.out.not3 nhg (k * 3) (k * 3 + 1) (k * 3 + 2) (.int .i64 (m : Nat)) (.int .i64 (m : Nat)) (.int .i64 (b : Nat))
          have s9 := HS9.out.not3 nlg (k * 3) (k * 3 + 1) (k * 3 + 2) (.int .i64 (m : Nat)) (.int .i64 (m : Nat)) (.int .i64 (b : Nat))
          refine h_step 7 _ rfl (by kernel_rfl) rfl (x_stG _ _ _ _ _ _ _ _ gb (k * 3) m m b rfl rfl _ _ _ _ r0 r1 r2 (fun i => hcg9.frozen i)) ⟨hE3.c.2.2.2.1, t9.cell 0, t9.cell 1, t9.cell 2⟩ ?_
          simp only [Act.put, List.setIfInBounds_toArray, List.set_cons_succ, List.set_cons_zero]
          refine wpAnyH_done (by kernel_rfl) ?_ _
          refine NoPanic.normal ?_
          have oG : ownP p bf bo bp (.slice (some ⟨gb, 0, none⟩) L gcap) vt gb := .inr (.inr (.inr (.inr (.inl rfl))))
          have HK10 := hide (HK9.out.trans (((Kp.set (W := Z) gb (k * 3) (.int .i64 (m : Nat)) oG).trans (Kp.set gb (k * 3 + 1) (.int .i64 (m : Nat)) oG)).trans (Kp.set gb (k * 3 + 2) (.int .i64 (b : Nat)) oG)))
          have HE10 := hide hE3
          have HS10 := hide s9
          generalize ((Z.setCell ⟨gb, k * 3, none⟩ (.int .i64 (m : Nat))).setCell ⟨gb, k * 3 + 1, none⟩ (.int .i64 (m : Nat))).setCell ⟨gb, k * 3 + 2, none⟩ (.int .i64 (b : Nat)) = V10 at HE10 HK10 HS10 ⊢
          clear hS hE hgt hcg9 r0 r1 r2 hE3 t9 s9 HE9 HK9 HS9 HT9
          have xl := HS10.out
          have xl0 := xl.cell 0; have xl1 := xl.cell 1; have xl2 := xl.cell 2
          simp only [List.getElem?_toArray, List.getElem?_cons_zero, List.getElem?_cons_succ] at xl0 xl1 xl2
          have hl3 : (gs2.set k (m, m, b)).length = L := by rw [List.length_set]; exact HL2.out
          have hp1 := HP1.out
          have HAD := hide (add_any HE10.out a a m (by have h1 := HBM.out; have h2 := HAM.out; omega) (by omega) hn5 (by rw [hl3]; have h9 := HLL.out; omega) hp1.op hp1.po hp1.olt)
          rw [hl3] at HAD
          have hnx : splL pl (ts.take (j + 1)) (f, gs) = ((fun q => if a ≤ pl q ∧ pl q < m then L else f1 q), gs2.set k (m, m, b) ++ [(a, a, m)]) := by
            have hls := HLS.out
            have h1 := HBM.out
            have h2 := HAM.out
            rw [HNX.out]
            unfold spl1
            simp only [HX.out]
            rw [if_neg (by omega), if_pos (by simp at hls; omega), ← HG2.out, List.set_set, HLL.out]
          have HN := hide hnx
          clear xl hl3 hp1 hnx
          try unfold PT at HAD
          try unfold PT
          go_wp2_with fail
          refine HAD.out.mono ?_
          rintro e V11 ⟨rfl, vg', hE11, hk11⟩
          have HE11 := hide hE11
          have HK11 := hide (HK10.out.trans hk11)
          clear hE11 hk11 HAD xl0 xl1 xl2
          go_wp2
          refine ⟨⟨j + 1, vg', by go_num, hlt, ?_, HK11.out⟩, by simp [intOf]; omega⟩
          show PrtE _ _ _ _ _ _ _ _ _ _ _ _ _
          rw [HN.out]
          exact HE11.out
        | false =>
          have hX9 : Below X.heap.size X { X with drawn := X.drawn + 1 } := ⟨rfl, rfl, rfl, Nat.le_refl _, fun _ _ => rfl⟩
          have HE9 := hide (HE8.out.keep hX9)
          have HK9 := hide (HK8.out.trans (Kp.of (o := ownP p bf bo bp (.slice (some ⟨gb, 0, none⟩) L gcap) vt) hX9))
          have HS9 := hide (HBH8.out.below hX9 HBH8.out.lt)
          have HT9 := hide (HBL8.out.below hX9 HBL8.out.lt)
          clear hX9 HE8 HK8 HBL8 HBH8
          go_wp2
          try rw [show Value.pointer (some ⟨p, 0, none⟩) = PT p from rfl]
          refine wp_region_noPanic (wp_region_held (S := fun X => X.cell? ⟨p, 3, none⟩ = some (.slice (some ⟨gb, 0, none⟩) L gcap) ∧ X.cell? ⟨bl, 0, none⟩ = some (.int .i64 a) ∧ X.cell? ⟨bl, 0 + 1, none⟩ = some (.int .i64 a) ∧ X.cell? ⟨bl, 0 + 2, none⟩ = some (.int .i64 m)) (by kernel_rfl) ?_)
          show wpAnyH _ _ _ _ _ 8 #[false, false, false, false, false, false, false, false] _ _
          generalize ({ X with drawn := X.drawn + 1 } : World) = Z at HE9 HK9 HS9 HT9 ⊢
          have hE := HE9.out
          have hS : Z.cell? ⟨p, 3, none⟩ = some (.slice (some ⟨gb, 0, none⟩) L gcap) ∧ Z.cell? ⟨bl, 0, none⟩ = some (.int .i64 a) ∧ Z.cell? ⟨bl, 0 + 1, none⟩ = some (.int .i64 a) ∧ Z.cell? ⟨bl, 0 + 2, none⟩ = some (.int .i64 m) := ⟨hE.c.2.2.2.1, HT9.out.cell 0, HT9.out.cell 1, HT9.out.cell 2⟩
          refine h_take 0 (PT p) rfl (by kernel_rfl) (by kernel_rfl) (by kernel_rfl) rfl (fun w hw => x_move _ _ _ _ _ _ _ _ rfl w) hS ?_
          simp only [Act.put, List.setIfInBounds_toArray, List.set_cons_succ, List.set_cons_zero]
          refine h_take 1 (PT p) rfl (by kernel_rfl) (by kernel_rfl) (by kernel_rfl) rfl (fun w hw => x_nilCheck _ _ _ _ _ _ _ _ rfl w) hS ?_
          simp only [Act.put, List.setIfInBounds_toArray, List.set_cons_succ, List.set_cons_zero]
          refine h_take 2 (.pointer (some ⟨p, 3, none⟩)) rfl (by kernel_rfl) (by kernel_rfl) (by kernel_rfl) rfl (fun w hw => x_akF3 _ _ _ _ _ _ _ p rfl w) hS ?_
          simp only [Act.put, List.setIfInBounds_toArray, List.set_cons_succ, List.set_cons_zero]
          refine h_take 3 (.slice (some ⟨gb, 0, none⟩) L gcap) rfl (by kernel_rfl) (by kernel_rfl) (by kernel_rfl) rfl (fun w hw => x_ldGs _ _ _ _ _ _ _ p 3 (.slice (some ⟨gb, 0, none⟩) L gcap) rfl w (hw.1)) hS ?_
          simp only [Act.put, List.setIfInBounds_toArray, List.set_cons_succ, List.set_cons_zero]
          refine h_take 4 (.int .i64 k) rfl (by kernel_rfl) (by kernel_rfl) (by kernel_rfl) rfl (fun w hw => x_move _ _ _ _ _ _ _ _ rfl w) hS ?_
          simp only [Act.put, List.setIfInBounds_toArray, List.set_cons_succ, List.set_cons_zero]
          refine h_take 5 (.agg #[.int .i64 a, .int .i64 a, .int .i64 m]) rfl (by kernel_rfl) (by kernel_rfl) (by kernel_rfl) rfl (fun w hw => x_ldG _ _ _ _ _ _ _ bl 0 a a m rfl w hw.2.1 hw.2.2.1 hw.2.2.2) hS ?_
          simp only [Act.put, List.setIfInBounds_toArray, List.set_cons_succ, List.set_cons_zero]
          refine h_take 6 (.pointer (some ⟨gb, k * 3, none⟩)) rfl (by kernel_rfl) (by kernel_rfl) (by kernel_rfl) rfl (fun w hw => x_gIdx _ _ _ _ _ _ _ _ gb k L gcap (hkL) rfl rfl w) hS ?_
          simp only [Act.put, List.setIfInBounds_toArray, List.set_cons_succ, List.set_cons_zero]
          have hk2 : k < gs2.length := by rw [HL2.out]; exact hkL
          have hgt := grp_turn hE.og hk2 a a m
          obtain ⟨cg9, hcg9⟩ := hE.og.blk (g := gb) rfl
          obtain ⟨q0, q1, q2, r0, r1, r2⟩ : ∃ q0 q1 q2, Z.cell? ⟨gb, k * 3, none⟩ = some q0 ∧ Z.cell? ⟨gb, k * 3 + 1, none⟩ = some q1 ∧ Z.cell? ⟨gb, k * 3 + 2, none⟩ = some q2 := by
            obtain ⟨g', c', e', -, -, -, hcell⟩ := hE.og.cell (by omega)
            injection e' with e' _ _
            injection e' with e'
            injection e' with e' _
            subst e'
            have hg := List.getElem?_eq_getElem hk2
            exact ⟨_, _, _, hcell k _ hg 0 (by decide), hcell k _ hg 1 (by decide), hcell k _ hg 2 (by decide)⟩
          have hE3 := hE.setG3 (by omega) hgt
          have t9 := HT9.out.not3 nlg (k * 3) (k * 3 + 1) (k * 3 + 2) (.int .i64 (a : Nat)) (.int .i64 (a : Nat)) (.int .i64 (m : Nat))
          have s9 := HS9.out.not3 nhg (k * 3) (k * 3 + 1) (k * 3 + 2) (.int .i64 (a : Nat)) (.int .i64 (a : Nat)) (.int .i64 (m : Nat))
          refine h_step 7 _ rfl (by kernel_rfl) rfl (x_stG _ _ _ _ _ _ _ _ gb (k * 3) a a m rfl rfl _ _ _ _ r0 r1 r2 (fun i => hcg9.frozen i)) ⟨hE3.c.2.2.2.1, t9.cell 0, t9.cell 1, t9.cell 2⟩ ?_
          simp only [Act.put, List.setIfInBounds_toArray, List.set_cons_succ, List.set_cons_zero]
          refine wpAnyH_done (by kernel_rfl) ?_ _
          refine NoPanic.normal ?_
          have oG : ownP p bf bo bp (.slice (some ⟨gb, 0, none⟩) L gcap) vt gb := .inr (.inr (.inr (.inr (.inl rfl))))
          have HK10 := hide (HK9.out.trans (((Kp.set (W := Z) gb (k * 3) (.int .i64 (a : Nat)) oG).trans (Kp.set gb (k * 3 + 1) (.int .i64 (a : Nat)) oG)).trans (Kp.set gb (k * 3 + 2) (.int .i64 (m : Nat)) oG)))
          have HE10 := hide hE3
          have HS10 := hide s9
          generalize ((Z.setCell ⟨gb, k * 3, none⟩ (.int .i64 (a : Nat))).setCell ⟨gb, k * 3 + 1, none⟩ (.int .i64 (a : Nat))).setCell ⟨gb, k * 3 + 2, none⟩ (.int .i64 (m : Nat)) = V10 at HE10 HK10 HS10 ⊢
          clear hS hE hgt hcg9 r0 r1 r2 hE3 t9 s9 HE9 HK9 HS9 HT9
          have xl := HS10.out
          have xl0 := xl.cell 0; have xl1 := xl.cell 1; have xl2 := xl.cell 2
          simp only [List.getElem?_toArray, List.getElem?_cons_zero, List.getElem?_cons_succ] at xl0 xl1 xl2
          have hl3 : (gs2.set k (a, a, m)).length = L := by rw [List.length_set]; exact HL2.out
          have hp1 := HP1.out
          have HAD := hide (add_any HE10.out m m b (by have h1 := HBM.out; have h2 := HAM.out; omega) (by omega) hn5 (by rw [hl3]; have h9 := HLL.out; omega) hp1.op hp1.po hp1.olt)
          rw [hl3] at HAD
          have hnx : splL pl (ts.take (j + 1)) (f, gs) = ((fun q => if m ≤ pl q ∧ pl q < b then L else f1 q), gs2.set k (a, a, m) ++ [(m, m, b)]) := by
            have hls := HLS.out
            have h1 := HBM.out
            have h2 := HAM.out
            rw [HNX.out]
            unfold spl1
            simp only [HX.out]
            rw [if_neg (by omega), if_neg (by simp at hls; omega), ← HG2.out, List.set_set, HLL.out]
          have HN := hide hnx
          clear xl hl3 hp1 hnx
          try unfold PT at HAD
          try unfold PT
          go_wp2_with fail
          refine HAD.out.mono ?_
          rintro e V11 ⟨rfl, vg', hE11, hk11⟩
          have HE11 := hide hE11
          have HK11 := hide (HK10.out.trans hk11)
          clear hE11 hk11 HAD xl0 xl1 xl2
          go_wp2
          refine ⟨⟨j + 1, vg', by go_num, hlt, ?_, HK11.out⟩, by simp [intOf]; omega⟩
          show PrtE _ _ _ _ _ _ _ _ _ _ _ _ _
          rw [HN.out]
          exact HE11.out
    · have dj : decide ((j : Int) < (tl : Int)) = false := by simp; omega
      have dj2 : decide (j < tl) = false := decide_eq_false hlt
      obtain rfl : j = tl := by omega
      have hE := HE1.out
      rw [List.take_of_length_le (by rw [HTL.out]; exact Nat.le_refl _)] at hE
      have c4 : wr.cell? ⟨p, 4, none⟩ = some (.slice ta j tc) := by
        have := hE.c.2.2.2.2
        rw [HVT.out, HTL.out] at this; exact this
      have f4 := hE.blk.frozen 4
      have ho : OwnJ intS wr (.slice ta 0 tc) [] := by
        rcases hE.ot with ⟨e, e2⟩ | ⟨g, cap, cur, e, h2, h3, h4, h5, h6⟩
        · rw [HVT.out] at e
          injection e with e _ e3
          subst e e3
          exact .inl ⟨rfl, rfl⟩
        · rw [HVT.out] at e
          injection e with e _ e3
          subst e e3
          exact .inr ⟨g, tc, cur, rfl, h2, Nat.zero_le _, h4, h5, by simp [EncS.flat]⟩
      have ha : AppJ wr wr vt (.slice ta 0 tc) := ⟨rfl, rfl, rfl, Nat.le_refl _, fun _ _ _ => rfl, .inl (by rw [HVT.out]; cases ta <;> rfl)⟩
      have ht := hE.touch ha ho
      have HE2 := hide ht.1
      have HK2 := hide (HK1.out.trans ht.2)
      have htc0 : (tc : Int) ≤ 9223372036854775807 := by
        rcases hE.ot with ⟨e, e2⟩ | ⟨g, cap, cur, e, h2, h3, h4, h5, h6⟩
        · rw [HVT.out] at e
          injection e with _ _ e3
          omega
        · rw [HVT.out] at e
          injection e with _ _ e3
          unfold maxLen at h4
          omega
      clear hE ho ha ht
      go_wp2
      exact ⟨rfl, .tuple #[], by simp [results, Tryz.results94, go_sem], rfl, _, ⟨bf, bo, bp, _, _, HE2.out, rfl⟩, HK2.out⟩
end Go.Proofs.YtjcfnmjjkadaeaaGreatDoor
