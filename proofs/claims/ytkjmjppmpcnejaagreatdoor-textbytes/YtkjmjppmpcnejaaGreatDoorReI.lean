/- Rows of expressions that a call makes: flat, inOrder, Then. -/
import Derived.Test.YtkjmjppmpcnejaaGreatDoorMathOrd
namespace Go.Proofs.YtkjmjppmpcnejaaGreatDoor
set_option maxRecDepth 100000
set_option linter.unusedSimpArgs false
set_option linter.unusedVariables false
open Go.RowKit

def ptrs (ps : List (Nat × RE)) : List Value := ps.map fun p => PT p.1
theorem ptrs_one (ps : List (Nat × RE)) : ∀ u ∈ ptrs ps, u.oneCell' = true := by
  intro u hu
  obtain ⟨p, -, rfl⟩ := List.mem_map.1 hu
  rfl
theorem infoP : (Tryz.prog.info? 26).map (fun i => (i.zero, i.size, i.bytes)) = some (some (.pointer none), 1, 8) := by kernel_rfl
/-- A slice of these pointers. -/
def RowAt (w : World) (v : Value) (qs : List (Nat × RE)) : Prop :=
  (qs.length ≤ 4611686018427387904 ∧ capOk v) ∧ ∃ a cap, v = .slice a qs.length cap ∧ ∀ j p, qs[j]? = some p → ∃ b off, a = some ⟨b, off, none⟩ ∧ b < w.heap.size ∧ w.cell? ⟨b, off + j, none⟩ = some (PT p.1)
theorem ResRow.pairs {w : World} {v : Value} {l : List RE} (h : ResRow w v l) : ∃ qs : List (Nat × RE), qs.map Prod.snd = l ∧ (∀ p ∈ qs, ReAt w p.1 p.2) ∧ RowAt w v qs := by
  obtain ⟨bs, ⟨h0, a, cap, rfl, h1⟩, h2⟩ := h
  have hg : ∀ j p, (l.zipIdx.map fun q => (bs q.2, q.1))[j]? = some p → l[j]? = some p.2 ∧ p.1 = bs j := fun j p hp => by
    rw [List.getElem?_map, List.getElem?_zipIdx] at hp
    cases e : l[j]? with
    | none => rw [e] at hp; simp at hp
    | some r => rw [e] at hp; simp at hp; rw [← hp]; simp
  refine ⟨l.zipIdx.map fun q => (bs q.2, q.1), ?_, fun p hp => ?_, ⟨by simpa using h0.1, h0.2⟩, a, cap, by simp, fun j p hp => ?_⟩
  · rw [List.map_map]
    exact List.zipIdx_map_fst 0 l
  · obtain ⟨j, hj⟩ := List.getElem?_of_mem hp
    obtain ⟨e1, e2⟩ := hg j p hj
    rw [e2]; exact h2 j _ e1
  · obtain ⟨e1, e2⟩ := hg j p hp
    have hj : j < l.length := (List.getElem?_eq_some_iff.1 e1).1
    rw [e2]; exact h1 j hj
theorem RowAt.res {w : World} {v : Value} {qs : List (Nat × RE)} (h : RowAt w v qs) (hr : ∀ p ∈ qs, ReAt w p.1 p.2) : ResRow w v (qs.map Prod.snd) := by
  obtain ⟨h0, a, cap, rfl, h1⟩ := h
  refine ⟨fun i => (qs.getD i pD).1, ⟨⟨by simpa using h0.1, h0.2⟩, a, cap, by simp, fun k hk => ?_⟩, fun i k hk => ?_⟩
  · have hk' : k < qs.length := by simpa using hk
    have e : qs[k]? = some (qs.getD k pD) := by simp [List.getD_eq_getElem?_getD, hk']
    exact h1 k _ e
  · rw [List.getElem?_map] at hk
    cases e : qs[i]? with
    | none => rw [e] at hk; simp at hk
    | some p =>
      rw [e] at hk; simp at hk
      have := hr p (List.mem_of_getElem? e)
      rw [← hk]
      simpa [List.getD_eq_getElem?_getD, e] using this
theorem RowAt.below {w w' : World} {v : Value} {qs : List (Nat × RE)} (h : RowAt w v qs) (hb : Below w.heap.size w w') : RowAt w' v qs := by
  obtain ⟨h0, a, cap, rfl, h1⟩ := h
  refine ⟨h0, a, cap, rfl, fun j p hp => ?_⟩
  obtain ⟨b, off, e, hlt, hc⟩ := h1 j p hp
  refine ⟨b, off, e, Nat.lt_of_lt_of_le hlt hb.size, ?_⟩
  rw [← hc]; exact World.cell?_of_block (w := w) (hb.block b hlt)
theorem RowAt.news {w : World} {v : Value} {qs : List (Nat × RE)} (h : RowAt w v qs) (h0 : 0 < qs.length) : ∃ ad cap, v = .slice (some ad) qs.length cap ∧ ∀ j u, (ptrs qs)[j]? = some u → w.cell? (ad.add j) = some u := by
  obtain ⟨-, a, cap, rfl, h1⟩ := h
  obtain ⟨b, off, e, -, -⟩ := h1 0 qs[0] (List.getElem?_eq_getElem h0)
  subst e
  refine ⟨_, cap, rfl, fun j u hu => ?_⟩
  rw [ptrs, List.getElem?_map] at hu
  cases e : qs[j]? with
  | none => rw [e] at hu; cases hu
  | some p =>
    rw [e] at hu; simp at hu
    obtain ⟨b', off', e', -, hc⟩ := h1 j p e
    cases e'
    rw [Go.WideShapes.add_plain, hc, ← hu]
theorem ReAt.kidRow {w : World} {b : Nat} {r : RE} (h : ReAt w b r) : ∃ v qs, w.cell? ⟨b, 5, none⟩ = some v ∧ qs.map Prod.snd = r.kids ∧ (∀ p ∈ qs, ReAt w p.1 p.2) ∧ RowAt w v qs := by
  obtain ⟨v, hb, hrow⟩ := h.row
  obtain ⟨qs, h1, h2, h3⟩ := hrow.pairs
  exact ⟨v, qs, by rw [hb.cell]; rfl, h1, h2, h3⟩
/-- Pointers that the call owns. -/
def OwnP (W : World) (base : Nat) (v : Value) (ps : List (Nat × RE)) : Prop := W.ownsRow base 26 1 v ps.length (ptrs ps)
theorem OwnP.keep {W W' : World} {base : Nat} {v : Value} {ps : List (Nat × RE)} (h : OwnP W base v ps) (hb : Below W.heap.size W W') : OwnP W' base v ps := own_below h hb
theorem OwnP.row {W : World} {base : Nat} {v : Value} {ps : List (Nat × RE)} (h : OwnP W base v ps) (hl : ps.length ≤ 4611686018427387904) : RowAt W v ps := by
  rcases h.2 with ⟨rfl, hn⟩ | ⟨g, cap, cur, rfl, hb, hg, h1, h2, h3, h4⟩
  · have : ps = [] := List.eq_nil_of_length_eq_zero hn
    subst this
    exact ⟨⟨by simp, .mk (by simp)⟩, none, 0, rfl, fun j p hp => by simp at hp⟩
  · refine ⟨⟨hl, .mk h1⟩, _, cap, rfl, fun j p hp => ⟨g, 0, rfl, (Array.getElem?_eq_some_iff.1 hg).1, ?_⟩⟩
    have hblk : Blk W g cur 26 := hg
    have hj : j < ps.length := (List.getElem?_eq_some_iff.1 hp).1
    rw [hblk.cell, Nat.zero_add]
    have e : (cur.toList.take (ps.length * 1))[j]? = some (PT p.1) := by rw [h4, ptrs, List.getElem?_map, hp]; rfl
    rw [List.getElem?_take, if_pos (by omega)] at e
    simpa using e

def flatL (o : Nat) (l : List RE) : List RE := l.flatMap fun r => if r.op = o then r.kids else [r]
theorem flatL_take (o : Nat) (l : List RE) (k : Nat) (h : k < l.length) : flatL o (l.take (k + 1)) = flatL o (l.take k) ++ (if (l[k]).op = o then (l[k]).kids else [l[k]]) := by
  unfold flatL
  rw [List.take_succ_eq_append_getElem h, List.flatMap_append]; simp
theorem flatL_le (o : Nat) (l : List RE) (k : Nat) : (flatL o (l.take k)).length ≤ (flatL o l).length := by
  have : flatL o l = flatL o (l.take k) ++ flatL o (l.drop k) := by
    unfold flatL
    rw [← List.flatMap_append, List.take_append_drop]
  rw [this, List.length_append]; omega
theorem grown_none {w w' : World} (h : w.grownBy w' none) : Below w.heap.size w w' := ⟨h.os, h.tape, h.output, h.size, fun k hk => h.block k hk (by simp)⟩

set_option maxHeartbeats 1000000 in
theorem flat_any (o : Nat) (l : List RE) (v : Value) (w : World) (h : ResRow w v l) (hw : ∀ r ∈ l, r.op = o → 0 < r.kids.length) (hl : l.length ≤ 1099511627776) (hlen : (flatL o l).length ≤ 1099511627776) :
    Calls Tryz.prog 53 #[.int .i64 o, v] w fun e w' => ∃ v' ps, e = .returned v' ∧ ps.map Prod.snd = flatL o l ∧ OwnP w' w.heap.size v' ps ∧ (∀ p ∈ ps, ReAt w p.1 p.2) ∧ Below w.heap.size w w' := by
  have HR := hide h
  obtain ⟨hn, ad, cap, rfl, -⟩ := h.at
  clear h
  obtain ⟨i, hi, hz0, hz1, hz2⟩ := info_parts infoP
  obtain ⟨B, hB⟩ : ∃ B, B = w.heap.size := ⟨_, rfl⟩
  rw [← hB]
  have HB := hide hB
  clear hB
  go_enter Tryz.func53, Tryz.ntmps53
  go_wp2_with (refine wpList_make_own _ rfl _ _ _ rfl B _ i _ 1 Tryz.underlying56 hi hz0 hz1 .i64 .i64 _ l.length rfl rfl rfl (by rw [hz2]; omega) (by unfold maxLen; omega) (Nat.le_of_eq HB.out) ?_; intro w1 ho1 hg1)
  have hO0 : OwnP w1 B (.slice (some ⟨w.heap.size, 0, none⟩) 0 l.length) [] := ho1
  have hB0 : Below B w w1 := HB.out ▸ grown_none hg1
  clear ho1 hg1
  go_loopw [5, 13] (fun out c wr => ∃ (k : Nat) (ps : List (Nat × RE)), k ≤ l.length ∧ c = .int .i64 k ∧ Hid (ps.map Prod.snd = flatL o (l.take k)) ∧ Hid (OwnP wr B out ps) ∧ Hid (∀ p ∈ ps, ReAt w p.1 p.2) ∧ Hid (Below B w wr)) (fun _ c _ => l.length - (intOf c).toNat)
  case atStart => exact ⟨0, [], by omega, rfl, rfl, hO0, fun p hp => by simp at hp, hB0⟩
  case round =>
    clear hO0 hB0
    obtain ⟨k, ps, hk, rfl, HS, HO, HE, HW⟩ := hrel
    have hW := HB.out ▸ HW.out
    obtain ⟨-, ad', cap', e1, g1⟩ := (HR.out.below (by rw [← HB.out]; exact HW.out)).at
    obtain ⟨rfl, rfl⟩ : ad = ad' ∧ cap = cap' := by cases e1; exact ⟨rfl, rfl⟩
    obtain ⟨-, ad'', cap'', e2, g2⟩ := HR.out.at
    obtain ⟨rfl, rfl⟩ : ad = ad'' ∧ cap = cap'' := by cases e2; exact ⟨rfl, rfl⟩
    clear e1 e2 hW
    have hpl : ps.length = (flatL o (l.take k)).length := by rw [← HS.out]; simp
    have hle := flatL_le o l k
    by_cases hlt : k < l.length
    · have hkd : decide (k < l.length) = true := by simp [hlt]
      obtain ⟨b1, o1, p1, rfl, -, d1, r1⟩ := g1 k hlt
      obtain ⟨b2, o2, p2, e3, -, d2, r2⟩ := g2 k hlt
      cases e3
      have hpp : p1 = p2 := by
        have hc := World.cell?_of_block (a := ⟨b1, o1 + k, none⟩) (HW.out.block b1 (by rw [HB.out]; exact World.block_lt_of_cell? _ _ d2))
        rw [d1, d2] at hc
        simpa [PT] using hc
      subst hpp
      have HT := hide (flatL_take o l k hlt)
      have hmem : l[k] ∈ l := List.getElem_mem hlt
      have hwk := hw _ hmem
      have hle2 := flatL_le o l (k + 1)
      rw [HT.out, List.length_append, ← hpl] at hle2
      clear hpl hle
      generalize l[k] = r at *
      unfold PT at d1
      have HR1 := hide r1
      have HR2 := hide r2
      have c0 := r1.cell0
      obtain ⟨kv, qs, c5, hq1, hq2, hq3⟩ := r2.kidRow
      have hs1 := HW.out.size
      have c5' : wr.cell? ⟨p1, 5, none⟩ = some kv := by rw [← c5]; exact World.cell?_of_block (w := w) (HW.out.block p1 (by rw [HB.out]; exact r2.lt))
      have hBW : B ≤ wr.heap.size := by rw [HB.out]; exact hs1
      clear g1 g2 r1 r2 c5 d2
      go_wp2_with fail
      refine (settled_any p1 r _ HR1.out).mono ?_
      rintro e w2 ⟨rfl, rfl⟩
      unfold PT
      by_cases hop : r.op = o
      · have hopd : ((r.op : Int) == (o : Int)) = true := by simp [hop]
        have hq0 : 0 < qs.length := by rw [← List.length_map (f := Prod.snd), hq1]; exact hwk hop
        have hql : qs.length = r.kids.length := by rw [← hq1]; simp
        rw [if_pos hop, ← hql] at hle2
        clear hql
        obtain ⟨ad2, cap2, rfl, hnw⟩ := (hq3.below (by rw [← HB.out]; exact HW.out)).news hq0
        have HOP := hide hop
        clear hop
        go_wp2_with (refine wpList_append_lies _ rfl _ _ _ rfl B _ i _ 1 8 Tryz.underlying56 hi hz0 hz1 hz2 rfl (by omega) _ _ _ rfl HO.out _ qs.length _ (ptrs qs) rfl (by simp [ptrs]) hnw (ptrs_one qs) (by omega) (by unfold maxLen; omega) (by omega) hBW _ rfl ?_; intro g cap' w4 hown hgrow hat hlt4)
        refine ⟨⟨k + 1, ps ++ qs, by omega, by go_num, ?_, ?_, ?_, ?_⟩, by simp [intOf]; omega⟩
        · show (ps ++ qs).map Prod.snd = _
          rw [HT.out, if_pos HOP.out, List.map_append, hq1, HS.out]
        · show OwnP _ _ _ _
          unfold OwnP
          rw [List.length_append, show ptrs (ps ++ qs) = ptrs ps ++ ptrs qs from by simp [ptrs]]
          exact hown
        · show ∀ p ∈ ps ++ qs, _
          intro p hp
          rcases List.mem_append.1 hp with hp | hp
          · exact HE.out p hp
          · exact hq2 p hp
        · exact below_grown HW.out hgrow HO.out (Nat.le_of_eq HB.out)
      · have hopd : ((r.op : Int) == (o : Int)) = false := beq_eq_false_iff_ne.2 (by omega)
        rw [if_neg hop] at hle2
        simp only [List.length_cons, List.length_nil] at hle2
        have HOP := hide hop
        clear hop
        have HOa := hide (HO.out.keep ((Below.refl w2.heap.size w2).alloc (Nat.le_refl _) (.cells #[PT p1] 26)))
        have hnw := World.news_of_block (Blk.newAt (w := w2) rfl #[PT p1] 26)
        have hBa : Below B w (w2.alloc (.cells #[PT p1] 26)) := HW.out.alloc hBW _
        go_wp2_with (refine wpList_append_lies _ rfl _ _ _ rfl B _ i _ 1 8 Tryz.underlying56 hi hz0 hz1 hz2 rfl (by omega) _ _ _ rfl HOa.out _ 1 _ (ptrs [(p1, r)]) rfl rfl hnw (ptrs_one _) (by omega) (by unfold maxLen; omega) (by omega) (by simp; omega) _ rfl ?_; intro g cap' w4 hown hgrow hat hlt4)
        refine ⟨⟨k + 1, ps ++ [(p1, r)], by omega, by go_num, ?_, ?_, ?_, ?_⟩, by simp [intOf]; omega⟩
        · show (ps ++ [(p1, r)]).map Prod.snd = _
          rw [HT.out, if_neg HOP.out, List.map_append, HS.out]; rfl
        · show OwnP _ _ _ _
          unfold OwnP
          rw [List.length_append, show ptrs (ps ++ [(p1, r)]) = ptrs ps ++ ptrs [(p1, r)] from by simp [ptrs]]
          exact hown
        · show ∀ p ∈ ps ++ [(p1, r)], _
          intro p hp
          rcases List.mem_append.1 hp with hp | hp
          · exact HE.out p hp
          · simp at hp; subst hp; exact HR2.out
        · exact below_grown hBa hgrow HOa.out (Nat.le_of_eq HB.out)
    · obtain rfl : k = l.length := by omega
      rw [List.take_length] at HS
      clear g1 g2
      go_wp2
      go_ret
      exact ⟨_, ps, rfl, HS.out, HO.out, HE.out, HW.out⟩

/-- The settled form, of one expression over its kids. -/
structure Shp (o : Nat) (s : BitVec 256) (ks : List RE) : Prop where
  op : o ≤ 7
  set : o ≠ 2 → s = 0#256
  leaf : o = 0 ∨ o = 1 → ks = []
  cls : o = 2 → ks = [] ∧ s ≠ 0#256
  cat : o = 3 → 2 ≤ ks.length ∧ ∀ k ∈ ks, k.op ≠ 0 ∧ k.op ≠ 1 ∧ k.op ≠ 3
  or : o = 4 ∨ o = 6 → 2 ≤ ks.length ∧ (∀ k ∈ ks, k.op ≠ 0 ∧ k.op ≠ o) ∧ ks.Pairwise ltK ∧ (ks.filter fun k => k.op == 2).length ≤ 1
  star : o = 5 → ∃ k, ks = [k] ∧ k.op ≠ 0 ∧ k.op ≠ 1 ∧ k.op ≠ 5
  minus : o = 7 → ∃ a b, ks = [a, b] ∧ a.op ≠ 0 ∧ b.op ≠ 0 ∧ a ≠ b ∧ ¬ (a.op = 2 ∧ b.op = 2)
inductive Wf : RE → Prop where
  | mk (o : Nat) (s : BitVec 256) (ks : List RE) (hk : ∀ k ∈ ks, Wf k) (h : Shp o s ks) : Wf (.mk o s ks)
theorem Wf.shp {r : RE} (h : Wf r) : Shp r.op r.set r.kids := by cases h; assumption
theorem Wf.kid {r : RE} (h : Wf r) : ∀ k ∈ r.kids, Wf k := by cases h; assumption
theorem Wf.k {r : RE} (h : Wf r) : WfK r := by
  induction h with
  | mk o s ks hk h ih => exact .mk o s ks h.op h.cls h.set ih
theorem Wf.none {r : RE} (h : Wf r) (h0 : r.op = 0) : r = rNothing := by
  have hs := h.shp
  rw [r.eta, hs.set (by omega), hs.leaf (.inl h0), h0]; rfl
theorem Wf.eps {r : RE} (h : Wf r) (h0 : r.op = 1) : r = rEmpty := by
  have hs := h.shp
  rw [r.eta, hs.set (by omega), hs.leaf (.inr h0), h0]; rfl
theorem wf_nothing : Wf rNothing := .mk _ _ _ (by simp) ⟨by omega, by simp, by simp, by omega, by omega, by omega, by omega, by omega⟩
theorem wf_empty : Wf rEmpty := .mk _ _ _ (by simp) ⟨by omega, by simp, by simp, by omega, by omega, by omega, by omega, by omega⟩
theorem wf_one (s : BitVec 256) : Wf (rOne s) := by
  unfold rOne
  split
  · exact wf_nothing
  · rename_i h
    exact .mk _ _ _ (by simp) ⟨by omega, by simp, by simp, fun _ => ⟨rfl, h⟩, by omega, by omega, by omega, by omega⟩

def catK (r : RE) : List RE := if r.op = 1 then [] else if r.op = 3 then r.kids else [r]
def catL (l : List RE) : List RE := l.flatMap catK
def rThen (l : List RE) : RE := if l.any (fun r => r.op == 0) then rNothing else if catL l = [] then rEmpty else rJoin 3 (catL l)
theorem catL_take (l : List RE) (k : Nat) (h : k < l.length) : catL (l.take (k + 1)) = catL (l.take k) ++ catK l[k] := by
  unfold catL
  rw [List.take_succ_eq_append_getElem h, List.flatMap_append]; simp
theorem catL_le (l : List RE) (k : Nat) : (catL (l.take k)).length ≤ (catL l).length := by
  have : catL l = catL (l.take k) ++ catL (l.drop k) := by
    unfold catL
    rw [← List.flatMap_append, List.take_append_drop]
  rw [this, List.length_append]; omega

set_option maxHeartbeats 1000000 in
theorem then_any (l : List RE) (v : Value) (w : World) (h : ResRow w v l) (hw : ∀ r ∈ l, Wf r) (hl : l.length ≤ 1099511627776) (hlen : (catL l).length ≤ 1099511627776) :
    Calls Tryz.prog 27 #[v] w fun e w' => ∃ b, e = .returned (PT b) ∧ ReAt w' b (rThen l) ∧ Below w.heap.size w w' := by
  have HR := hide h
  obtain ⟨hn, ad, cap, rfl, -⟩ := h.at
  clear h
  obtain ⟨i, hi, hz0, hz1, hz2⟩ := info_parts infoP
  obtain ⟨B, hB⟩ : ∃ B, B = w.heap.size := ⟨_, rfl⟩
  rw [← hB]
  have HB := hide hB
  clear hB
  go_enter Tryz.func27, Tryz.ntmps27
  go_wp2_with (refine wpList_make_own _ rfl _ _ _ rfl B _ i _ 1 Tryz.underlying56 hi hz0 hz1 .i64 .i64 _ l.length rfl rfl rfl (by rw [hz2]; omega) (by unfold maxLen; omega) (Nat.le_of_eq HB.out) ?_; intro w1 ho1 hg1)
  have hO0 : OwnP w1 B (.slice (some ⟨w.heap.size, 0, none⟩) 0 l.length) [] := ho1
  have hB0 : Below B w w1 := HB.out ▸ grown_none hg1
  clear ho1 hg1
  go_loopw [3, 11] (fun out c wr => ∃ (k : Nat) (ps : List (Nat × RE)), k ≤ l.length ∧ c = .int .i64 k ∧ Hid ((l.take k).any (fun r => r.op == 0) = false) ∧ Hid (ps.map Prod.snd = catL (l.take k)) ∧ Hid (OwnP wr B out ps) ∧ Hid (∀ p ∈ ps, ReAt w p.1 p.2) ∧ Hid (Below B w wr)) (fun _ c _ => l.length - (intOf c).toNat)
  case atStart => exact ⟨0, [], by omega, rfl, rfl, rfl, hO0, fun p hp => by simp at hp, hB0⟩
  case round =>
    clear hO0 hB0
    obtain ⟨k, ps, hk, rfl, HN, HS, HO, HE, HW⟩ := hrel
    have hW := HB.out ▸ HW.out
    obtain ⟨-, ad', cap', e1, g1⟩ := (HR.out.below (by rw [← HB.out]; exact HW.out)).at
    obtain ⟨rfl, rfl⟩ : ad = ad' ∧ cap = cap' := by cases e1; exact ⟨rfl, rfl⟩
    obtain ⟨-, ad'', cap'', e2, g2⟩ := HR.out.at
    obtain ⟨rfl, rfl⟩ : ad = ad'' ∧ cap = cap'' := by cases e2; exact ⟨rfl, rfl⟩
    clear e1 e2 hW
    have hpl : ps.length = (catL (l.take k)).length := by rw [← HS.out]; simp
    have hle := catL_le l k
    by_cases hlt : k < l.length
    · have hkd : decide (k < l.length) = true := by simp [hlt]
      obtain ⟨b1, o1, p1, rfl, -, d1, r1⟩ := g1 k hlt
      obtain ⟨b2, o2, p2, e3, -, d2, r2⟩ := g2 k hlt
      cases e3
      have hpp : p1 = p2 := by
        have hc := World.cell?_of_block (a := ⟨b1, o1 + k, none⟩) (HW.out.block b1 (by rw [HB.out]; exact World.block_lt_of_cell? _ _ d2))
        rw [d1, d2] at hc
        simpa [PT] using hc
      subst hpp
      have HT := hide (catL_take l k hlt)
      have HN2 := hide (show (l.take (k + 1)).any (fun r => r.op == 0) = (l[k].op == 0) from by rw [List.take_succ_eq_append_getElem hlt, List.any_append, HN.out]; simp)
      have HA := hide (show (l[k].op == 0) = true → l.any (fun r => r.op == 0) = true from fun h => List.any_eq_true.2 ⟨l[k], List.getElem_mem hlt, h⟩)
      have hmem : l[k] ∈ l := List.getElem_mem hlt
      have hwk := hw _ hmem
      have hle2 := catL_le l (k + 1)
      rw [HT.out, List.length_append, ← hpl] at hle2
      clear hpl hle
      generalize l[k] = r at *
      unfold PT at d1
      have HR1 := hide r1
      have HR2 := hide r2
      have c0 := r1.cell0
      obtain ⟨kv, qs, c5, hq1, hq2, hq3⟩ := r2.kidRow
      have hs1 := HW.out.size
      have c5' : wr.cell? ⟨p1, 5, none⟩ = some kv := by rw [← c5]; exact World.cell?_of_block (w := w) (HW.out.block p1 (by rw [HB.out]; exact r2.lt))
      have hBW : B ≤ wr.heap.size := by rw [HB.out]; exact hs1
      clear g1 g2 r1 r2 c5 d2
      go_wp2_with fail
      refine (settled_any p1 r _ HR1.out).mono ?_
      rintro e w2 ⟨rfl, rfl⟩
      unfold PT
      by_cases hop0 : r.op = 0
      · have ho0 : ((r.op : Int) == 0) = true := by simp [hop0]
        have HX := hide (show r = rNothing from hwk.none hop0)
        have HAA := hide (HA.out (by simp [hop0]))
        clear hop0
        go_wp2
        go_ret
        refine ⟨p1, rfl, ?_, HW.out⟩
        rw [rThen, if_pos HAA.out, ← HX.out]
        exact HR1.out
      · have HNF : Hid ((l.take (k + 1)).any (fun r => r.op == 0) = false) := HN2.out.trans (by simp [hop0])
        by_cases hop1 : r.op = 1
        · have ho0 : ((r.op : Int) == 0) = false := beq_eq_false_iff_ne.2 (by omega)
          have ho1 : ((r.op : Int) == 1) = true := by simp [hop1]
          have HK1 := hide (show catK r = [] from by unfold catK; rw [if_pos hop1])
          clear hop1
          go_wp2
          refine ⟨⟨k + 1, ps, by omega, by go_num, HNF, ?_, HO, HE, HW⟩, by simp [intOf]; omega⟩
          show ps.map Prod.snd = _
          rw [HT.out, HK1.out, List.append_nil, HS.out]
        · by_cases hop : r.op = 3
          · have ho0 : ((r.op : Int) == 0) = false := beq_eq_false_iff_ne.2 (by omega)
            have ho1 : ((r.op : Int) == 1) = false := beq_eq_false_iff_ne.2 (by omega)
            have ho3 : ((r.op : Int) == 3) = true := by simp [hop]
            have hq0 : 0 < qs.length := by rw [← List.length_map (f := Prod.snd), hq1]; have := (hwk.shp.cat hop).1; omega
            have hql : qs.length = r.kids.length := by rw [← hq1]; simp
            rw [show catK r = r.kids from by unfold catK; rw [if_neg (by omega), if_pos hop], ← hql] at hle2
            clear hql
            obtain ⟨ad2, cap2, rfl, hnw⟩ := (hq3.below (by rw [← HB.out]; exact HW.out)).news hq0
            have HOP := hide hop
            clear hop
            go_wp2_with (refine wpList_append_lies _ rfl _ _ _ rfl B _ i _ 1 8 Tryz.underlying56 hi hz0 hz1 hz2 rfl (by omega) _ _ _ rfl HO.out _ qs.length _ (ptrs qs) rfl (by simp [ptrs]) hnw (ptrs_one qs) (by omega) (by unfold maxLen; omega) (by omega) hBW _ rfl ?_; intro g cap' w4 hown hgrow hat hlt4)
            refine ⟨⟨k + 1, ps ++ qs, by omega, by go_num, HNF, ?_, ?_, ?_, ?_⟩, by simp [intOf]; omega⟩
            · show (ps ++ qs).map Prod.snd = _
              rw [HT.out, show catK r = r.kids from by unfold catK; rw [if_neg (by have := HOP.out; omega), if_pos HOP.out], List.map_append, hq1, HS.out]
            · show OwnP _ _ _ _
              unfold OwnP
              rw [List.length_append, show ptrs (ps ++ qs) = ptrs ps ++ ptrs qs from by simp [ptrs]]
              exact hown
            · show ∀ p ∈ ps ++ qs, _
              intro p hp
              rcases List.mem_append.1 hp with hp | hp
              · exact HE.out p hp
              · exact hq2 p hp
            · exact below_grown HW.out hgrow HO.out (Nat.le_of_eq HB.out)
          · have ho0 : ((r.op : Int) == 0) = false := beq_eq_false_iff_ne.2 (by omega)
            have ho1 : ((r.op : Int) == 1) = false := beq_eq_false_iff_ne.2 (by omega)
            have ho3 : ((r.op : Int) == 3) = false := beq_eq_false_iff_ne.2 (by omega)
            rw [show catK r = [r] from by unfold catK; rw [if_neg hop1, if_neg hop]] at hle2
            simp only [List.length_cons, List.length_nil] at hle2
            have HOP := hide hop
            have HOP1 := hide hop1
            clear hop hop1
            have HOa := hide (HO.out.keep ((Below.refl w2.heap.size w2).alloc (Nat.le_refl _) (.cells #[PT p1] 26)))
            have hnw := World.news_of_block (Blk.newAt (w := w2) rfl #[PT p1] 26)
            have hBa : Below B w (w2.alloc (.cells #[PT p1] 26)) := HW.out.alloc hBW _
            go_wp2_with (refine wpList_append_lies _ rfl _ _ _ rfl B _ i _ 1 8 Tryz.underlying56 hi hz0 hz1 hz2 rfl (by omega) _ _ _ rfl HOa.out _ 1 _ (ptrs [(p1, r)]) rfl rfl hnw (ptrs_one _) (by omega) (by unfold maxLen; omega) (by omega) (by simp; omega) _ rfl ?_; intro g cap' w4 hown hgrow hat hlt4)
            refine ⟨⟨k + 1, ps ++ [(p1, r)], by omega, by go_num, HNF, ?_, ?_, ?_, ?_⟩, by simp [intOf]; omega⟩
            · show (ps ++ [(p1, r)]).map Prod.snd = _
              rw [HT.out, show catK r = [r] from by unfold catK; rw [if_neg HOP1.out, if_neg HOP.out], List.map_append, HS.out]; rfl
            · show OwnP _ _ _ _
              unfold OwnP
              rw [List.length_append, show ptrs (ps ++ [(p1, r)]) = ptrs ps ++ ptrs [(p1, r)] from by simp [ptrs]]
              exact hown
            · show ∀ p ∈ ps ++ [(p1, r)], _
              intro p hp
              rcases List.mem_append.1 hp with hp | hp
              · exact HE.out p hp
              · simp at hp; subst hp; exact HR2.out
            · exact below_grown hBa hgrow HOa.out (Nat.le_of_eq HB.out)
    · obtain rfl : k = l.length := by omega
      rw [List.take_length] at HS HN
      clear g1 g2
      have hrow := (HO.out.row (by rw [List.take_length] at hpl; omega)).res (fun p hp => (HE.out p hp).keep (by rw [← HB.out]; exact HW.out))
      rw [HS.out] at hrow
      have HRO := hide hrow
      obtain ⟨_, adv, capv, hu, -⟩ := hrow.at
      rw [hu] at HRO HO
      rw [hu]
      clear hrow hu hpl
      have hBW : B ≤ wr.heap.size := by rw [HB.out]; exact HW.out.size
      by_cases hem : (catL l).length = 0
      · have hemd : (((catL l).length : Int) == 0) = true := by simp [hem]
        have HEM := hide (show catL l = [] from List.eq_nil_of_length_eq_zero hem)
        clear hem
        go_wp2_with fail
        refine (empty_re _).mono ?_
        rintro e w5 ⟨b, rfl, h1, h2⟩
        go_wp2
        go_ret
        refine ⟨b, rfl, ?_, HW.out.trans (h2.mono hBW)⟩
        rw [rThen, if_neg (by rw [HN.out]; simp), if_pos HEM.out]
        exact h1
      · have hemd : (((catL l).length : Int) == 0) = false := beq_eq_false_iff_ne.2 (by omega)
        have HEM := hide (show ¬ catL l = [] from fun e => hem (by rw [e]; rfl))
        clear hem
        go_wp2_with fail
        refine (join_any 3 (catL l) _ _ (by omega) (by omega) HRO.out).mono ?_
        rintro e w5 ⟨b, rfl, h1, h2⟩
        go_wp2
        go_ret
        refine ⟨b, rfl, ?_, HW.out.trans (h2.mono hBW)⟩
        rw [rThen, if_neg (by rw [HN.out]; simp), if_neg HEM.out]
        exact h1
end Go.Proofs.YtkjmjppmpcnejaaGreatDoor
