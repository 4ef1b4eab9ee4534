/- Texts of this claim put together: ReI, ReJ, ReK. -/
import Derived.Test.YtjcfnmjjkadaeaaGreatDoorJoinMathOrd
/- Rows of expressions that a call makes: flat, inOrder, Then. -/
namespace Go.Proofs.YtjcfnmjjkadaeaaGreatDoor
set_option maxRecDepth 100000
set_option linter.unusedSimpArgs false
set_option linter.unusedVariables false
open Go.RowKit

def ptrs (ps : List (Nat × RE)) : List Value := ps.map fun p => PT p.1
theorem ptrs_one (ps : List (Nat × RE)) : ∀ u ∈ ptrs ps, u.oneCell' = true := by
  intro u hu
  obtain ⟨p, -, rfl⟩ := List.mem_map.1 hu
  rfl
theorem infoP : (Tryz.prog.info? 30).map (fun i => (i.zero, i.size, i.bytes)) = some (some (.pointer none), 1, 8) := by kernel_rfl
/-- A slice of these pointers. -/
def RowAt [Forb] (w : World) (v : Value) (qs : List (Nat × RE)) : Prop :=
  (qs.length ≤ 4611686018427387904 ∧ KidOk w v) ∧ ∃ a cap, v = .slice a qs.length cap ∧ ∀ j p, qs[j]? = some p → ∃ b off, a = some ⟨b, off, none⟩ ∧ b < w.heap.size ∧ w.cell? ⟨b, off + j, none⟩ = some (PT p.1)
theorem ResRow.pairs [Forb] {w : World} {v : Value} {l : List RE} (h : ResRow w v l) : ∃ qs : List (Nat × RE), qs.map Prod.snd = l ∧ (∀ p ∈ qs, ReAt w p.1 p.2) ∧ RowAt w v qs := by
  obtain ⟨bs, ⟨h0, a, cap, rfl, h1⟩, h2⟩ := h
  have hg : ∀ j p, (l.zipIdx.map fun q => (bs q.2, q.1))[j]? = some p → l[j]? = some p.2 ∧ p.1 = bs j := fun j p hp => by
    rw [List.getElem?_map, List.getElem?_zipIdx] at hp
    cases e : l[j]? with
    | none => rw [e] at hp; simp at hp
    | some r => rw [e] at hp; simp at hp; rw [← hp]; simp
  refine ⟨l.zipIdx.map fun q => (bs q.2, q.1), ?_, fun p hp => ?_, ⟨by simpa using h0.1, h0.2⟩, a, cap, by simp, fun j p hp => ?_⟩
  · rw [List.map_map]
    exact List.zipIdx_map_fst 0 l
  · obtain ⟨j, hj⟩ := List.getElem?_of_mem hp
    obtain ⟨e1, e2⟩ := hg j p hj
    rw [e2]; exact h2 j _ e1
  · obtain ⟨e1, e2⟩ := hg j p hp
    have hj : j < l.length := (List.getElem?_eq_some_iff.1 e1).1
    rw [e2]; exact h1 j hj
theorem RowAt.res [Forb] {w : World} {v : Value} {qs : List (Nat × RE)} (h : RowAt w v qs) (hr : ∀ p ∈ qs, ReAt w p.1 p.2) : ResRow w v (qs.map Prod.snd) := by
  obtain ⟨h0, a, cap, rfl, h1⟩ := h
  refine ⟨fun i => (qs.getD i pD).1, ⟨⟨by simpa using h0.1, h0.2⟩, a, cap, by simp, fun k hk => ?_⟩, fun i k hk => ?_⟩
  · have hk' : k < qs.length := by simpa using hk
    have e : qs[k]? = some (qs.getD k pD) := by simp [List.getD_eq_getElem?_getD, hk']
    exact h1 k _ e
  · rw [List.getElem?_map] at hk
    cases e : qs[i]? with
    | none => rw [e] at hk; simp at hk
    | some p =>
      rw [e] at hk; simp at hk
      have := hr p (List.mem_of_getElem? e)
      rw [← hk]
      simpa [List.getD_eq_getElem?_getD, e] using this
theorem RowAt.below [Forb] {w w' : World} {v : Value} {qs : List (Nat × RE)} (h : RowAt w v qs) (hb : Below w.heap.size w w') : RowAt w' v qs := by
  obtain ⟨h0, a, cap, rfl, h1⟩ := h
  refine ⟨⟨h0.1, h0.2.keep hb.size⟩, a, cap, rfl, fun j p hp => ?_⟩
  obtain ⟨b, off, e, hlt, hc⟩ := h1 j p hp
  refine ⟨b, off, e, Nat.lt_of_lt_of_le hlt hb.size, ?_⟩
  rw [← hc]; exact World.cell?_of_block (w := w) (hb.block b hlt)
theorem RowAt.news [Forb] {w : World} {v : Value} {qs : List (Nat × RE)} (h : RowAt w v qs) (h0 : 0 < qs.length) : ∃ ad cap, v = .slice (some ad) qs.length cap ∧ ∀ j u, (ptrs qs)[j]? = some u → w.cell? (ad.add j) = some u := by
  obtain ⟨-, a, cap, rfl, h1⟩ := h
  obtain ⟨b, off, e, -, -⟩ := h1 0 qs[0] (List.getElem?_eq_getElem h0)
  subst e
  refine ⟨_, cap, rfl, fun j u hu => ?_⟩
  rw [ptrs, List.getElem?_map] at hu
  cases e : qs[j]? with
  | none => rw [e] at hu; cases hu
  | some p =>
    rw [e] at hu; simp at hu
    obtain ⟨b', off', e', -, hc⟩ := h1 j p e
    cases e'
    rw [Go.WideShapes.add_plain, hc, ← hu]
theorem ReAt.kidRow [Forb] {w : World} {b : Nat} {r : RE} (h : ReAt w b r) : ∃ v qs, w.cell? ⟨b, 5, none⟩ = some v ∧ qs.map Prod.snd = r.kids ∧ (∀ p ∈ qs, ReAt w p.1 p.2) ∧ RowAt w v qs := by
  obtain ⟨v, hb, hrow⟩ := h.row
  obtain ⟨qs, h1, h2, h3⟩ := hrow.pairs
  exact ⟨v, qs, by rw [hb.cell]; rfl, h1, h2, h3⟩
/-- Pointers that the call owns. -/
def OwnP (W : World) (base : Nat) (v : Value) (ps : List (Nat × RE)) : Prop := W.ownsRow base 30 1 v ps.length (ptrs ps)
theorem OwnP.keep {W W' : World} {base : Nat} {v : Value} {ps : List (Nat × RE)} (h : OwnP W base v ps) (hb : Below W.heap.size W W') : OwnP W' base v ps := own_below h hb
theorem OwnP.row [Forb] {W : World} {base : Nat} {v : Value} {ps : List (Nat × RE)} (h : OwnP W base v ps) (hf : FL base) (hs : base ≤ W.heap.size) (hl : ps.length ≤ 4611686018427387904) : RowAt W v ps := by
  rcases h.2 with ⟨rfl, hn⟩ | ⟨g, cap, cur, rfl, hb, hg, h1, h2, h3, h4⟩
  · have : ps = [] := List.eq_nil_of_length_eq_zero hn
    subst this
    exact ⟨⟨by simp, .zero (hf.mono hs)⟩, none, 0, rfl, fun j p hp => by simp at hp⟩
  · refine ⟨⟨hl, .new h1 (hf.mono hs) hf hb⟩, _, cap, rfl, fun j p hp => ⟨g, 0, rfl, (Array.getElem?_eq_some_iff.1 hg).1, ?_⟩⟩
    have hblk : Blk W g cur 30 := hg
    have hj : j < ps.length := (List.getElem?_eq_some_iff.1 hp).1
    rw [hblk.cell, Nat.zero_add]
    have e : (cur.toList.take (ps.length * 1))[j]? = some (PT p.1) := by rw [h4, ptrs, List.getElem?_map, hp]; rfl
    rw [List.getElem?_take, if_pos (by omega)] at e
    simpa using e

def flatL (o : Nat) (l : List RE) : List RE := l.flatMap fun r => if r.op = o then r.kids else [r]
theorem flatL_take (o : Nat) (l : List RE) (k : Nat) (h : k < l.length) : flatL o (l.take (k + 1)) = flatL o (l.take k) ++ (if (l[k]).op = o then (l[k]).kids else [l[k]]) := by
  unfold flatL
  rw [List.take_succ_eq_append_getElem h, List.flatMap_append]; simp
theorem flatL_le (o : Nat) (l : List RE) (k : Nat) : (flatL o (l.take k)).length ≤ (flatL o l).length := by
  have : flatL o l = flatL o (l.take k) ++ flatL o (l.drop k) := by
    unfold flatL
    rw [← List.flatMap_append, List.take_append_drop]
  rw [this, List.length_append]; omega
theorem grown_none {w w' : World} (h : w.grownBy w' none) : Below w.heap.size w w' := ⟨h.os, h.tape, h.output, h.size, fun k hk => h.block k hk (by simp)⟩

set_option maxHeartbeats 1000000 in
theorem flat_any [Forb] (o : Nat) (l : List RE) (v : Value) (w : World) (h : ResRow w v l) (hw : ∀ r ∈ l, r.op = o → 0 < r.kids.length) (hl : l.length ≤ 1099511627776) (hlen : (flatL o l).length ≤ 1099511627776) :
    Calls Tryz.prog 64 #[.int .i64 o, v] w fun e w' => ∃ v' ps, e = .returned v' ∧ ps.map Prod.snd = flatL o l ∧ OwnP w' w.heap.size v' ps ∧ (∀ p ∈ ps, ReAt w p.1 p.2) ∧ Below w.heap.size w w' := by
  have HR := hide h
  obtain ⟨hn, ad, cap, rfl, -⟩ := h.at
  clear h
  obtain ⟨i, hi, hz0, hz1, hz2⟩ := info_parts infoP
  obtain ⟨B, hB⟩ : ∃ B, B = w.heap.size := ⟨_, rfl⟩
  rw [← hB]
  have HB := hide hB
  clear hB
  go_enter Tryz.func64, Tryz.ntmps64
  go_wp2_with (refine wpList_make_own _ rfl _ _ _ rfl B _ i _ 1 Tryz.underlying59 hi hz0 hz1 .i64 .i64 _ l.length rfl rfl rfl (by rw [hz2]; omega) (by unfold maxLen; omega) (Nat.le_of_eq HB.out) ?_; intro w1 ho1 hg1)
  have hO0 : OwnP w1 B (.slice (some ⟨w.heap.size, 0, none⟩) 0 l.length) [] := ho1
  have hB0 : Below B w w1 := HB.out ▸ grown_none hg1
  clear ho1 hg1
  go_loopw [5, 13] (fun out c wr => ∃ (k : Nat) (ps : List (Nat × RE)), k ≤ l.length ∧ c = .int .i64 k ∧ Hid (ps.map Prod.snd = flatL o (l.take k)) ∧ Hid (OwnP wr B out ps) ∧ Hid (∀ p ∈ ps, ReAt w p.1 p.2) ∧ Hid (Below B w wr)) (fun _ c _ => l.length - (intOf c).toNat)
  case atStart => exact ⟨0, [], by omega, rfl, rfl, hO0, fun p hp => by simp at hp, hB0⟩
  case round =>
    clear hO0 hB0
    obtain ⟨k, ps, hk, rfl, HS, HO, HE, HW⟩ := hrel
    have hW := HB.out ▸ HW.out
    obtain ⟨-, ad', cap', e1, g1⟩ := (HR.out.below (by rw [← HB.out]; exact HW.out)).at
    obtain ⟨rfl, rfl⟩ : ad = ad' ∧ cap = cap' := by cases e1; exact ⟨rfl, rfl⟩
    obtain ⟨-, ad'', cap'', e2, g2⟩ := HR.out.at
    obtain ⟨rfl, rfl⟩ : ad = ad'' ∧ cap = cap'' := by cases e2; exact ⟨rfl, rfl⟩
    clear e1 e2 hW
    have hpl : ps.length = (flatL o (l.take k)).length := by rw [← HS.out]; simp
    have hle := flatL_le o l k
    by_cases hlt : k < l.length
    · have hkd : decide (k < l.length) = true := by simp [hlt]
      obtain ⟨b1, o1, p1, rfl, -, d1, r1⟩ := g1 k hlt
      obtain ⟨b2, o2, p2, e3, -, d2, r2⟩ := g2 k hlt
      cases e3
      have hpp : p1 = p2 := by
        have hc := World.cell?_of_block (a := ⟨b1, o1 + k, none⟩) (HW.out.block b1 (by rw [HB.out]; exact World.block_lt_of_cell? _ _ d2))
        rw [d1, d2] at hc
        simpa [PT] using hc
      subst hpp
      have HT := hide (flatL_take o l k hlt)
      have hmem : l[k] ∈ l := List.getElem_mem hlt
      have hwk := hw _ hmem
      have hle2 := flatL_le o l (k + 1)
      rw [HT.out, List.length_append, ← hpl] at hle2
      clear hpl hle
      generalize l[k] = r at *
      unfold PT at d1
      have HR1 := hide r1
      have HR2 := hide r2
      have c0 := r1.cell0
      obtain ⟨kv, qs, c5, hq1, hq2, hq3⟩ := r2.kidRow
      have hs1 := HW.out.size
      have c5' : wr.cell? ⟨p1, 5, none⟩ = some kv := by rw [← c5]; exact World.cell?_of_block (w := w) (HW.out.block p1 (by rw [HB.out]; exact r2.lt))
      have hBW : B ≤ wr.heap.size := by rw [HB.out]; exact hs1
      clear g1 g2 r1 r2 c5 d2
      go_wp2_with fail
      refine (settled_any p1 r _ HR1.out).mono ?_
      rintro e w2 ⟨rfl, rfl⟩
      unfold PT
      by_cases hop : r.op = o
      · have hopd : ((r.op : Int) == (o : Int)) = true := by simp [hop]
        have hq0 : 0 < qs.length := by rw [← List.length_map (f := Prod.snd), hq1]; exact hwk hop
        have hql : qs.length = r.kids.length := by rw [← hq1]; simp
        rw [if_pos hop, ← hql] at hle2
        clear hql
        obtain ⟨ad2, cap2, rfl, hnw⟩ := (hq3.below (by rw [← HB.out]; exact HW.out)).news hq0
        have HOP := hide hop
        clear hop
        go_wp2_with (refine wpList_append_lies _ rfl _ _ _ rfl B _ i _ 1 8 Tryz.underlying59 hi hz0 hz1 hz2 rfl (by omega) _ _ _ rfl HO.out _ qs.length _ (ptrs qs) rfl (by simp [ptrs]) hnw (ptrs_one qs) (by omega) (by unfold maxLen; omega) (by omega) hBW _ rfl ?_; intro g cap' w4 hown hgrow hat hlt4)
        refine ⟨⟨k + 1, ps ++ qs, by omega, by go_num, ?_, ?_, ?_, ?_⟩, by simp [intOf]; omega⟩
        · show (ps ++ qs).map Prod.snd = _
          rw [HT.out, if_pos HOP.out, List.map_append, hq1, HS.out]
        · show OwnP _ _ _ _
          unfold OwnP
          rw [List.length_append, show ptrs (ps ++ qs) = ptrs ps ++ ptrs qs from by simp [ptrs]]
          exact hown
        · show ∀ p ∈ ps ++ qs, _
          intro p hp
          rcases List.mem_append.1 hp with hp | hp
          · exact HE.out p hp
          · exact hq2 p hp
        · exact below_grown HW.out hgrow HO.out (Nat.le_of_eq HB.out)
      · have hopd : ((r.op : Int) == (o : Int)) = false := beq_eq_false_iff_ne.2 (by omega)
        rw [if_neg hop] at hle2
        simp only [List.length_cons, List.length_nil] at hle2
        have HOP := hide hop
        clear hop
        have HOa := hide (HO.out.keep ((Below.refl w2.heap.size w2).alloc (Nat.le_refl _) (.cells #[PT p1] 30)))
        have hnw := World.news_of_block (Blk.newAt (w := w2) rfl #[PT p1] 30)
        have hBa : Below B w (w2.alloc (.cells #[PT p1] 30)) := HW.out.alloc hBW _
        go_wp2_with (refine wpList_append_lies _ rfl _ _ _ rfl B _ i _ 1 8 Tryz.underlying59 hi hz0 hz1 hz2 rfl (by omega) _ _ _ rfl HOa.out _ 1 _ (ptrs [(p1, r)]) rfl rfl hnw (ptrs_one _) (by omega) (by unfold maxLen; omega) (by omega) (by simp; omega) _ rfl ?_; intro g cap' w4 hown hgrow hat hlt4)
        refine ⟨⟨k + 1, ps ++ [(p1, r)], by omega, by go_num, ?_, ?_, ?_, ?_⟩, by simp [intOf]; omega⟩
        · show (ps ++ [(p1, r)]).map Prod.snd = _
          rw [HT.out, if_neg HOP.out, List.map_append, HS.out]; rfl
        · show OwnP _ _ _ _
          unfold OwnP
          rw [List.length_append, show ptrs (ps ++ [(p1, r)]) = ptrs ps ++ ptrs [(p1, r)] from by simp [ptrs]]
          exact hown
        · show ∀ p ∈ ps ++ [(p1, r)], _
          intro p hp
          rcases List.mem_append.1 hp with hp | hp
          · exact HE.out p hp
          · simp at hp; subst hp; exact HR2.out
        · exact below_grown hBa hgrow HOa.out (Nat.le_of_eq HB.out)
    · obtain rfl : k = l.length := by omega
      rw [List.take_length] at HS
      clear g1 g2
      go_wp2
      go_ret
      exact ⟨_, ps, rfl, HS.out, HO.out, HE.out, HW.out⟩

/-- The settled form, of one expression over its kids. -/
structure Shp (o : Nat) (s : BitVec 256) (ks : List RE) : Prop where
  op : o ≤ 7
  set : o ≠ 2 → s = 0#256
  leaf : o = 0 ∨ o = 1 → ks = []
  cls : o = 2 → ks = [] ∧ s ≠ 0#256
  cat : o = 3 → 2 ≤ ks.length ∧ ∀ k ∈ ks, k.op ≠ 0 ∧ k.op ≠ 1 ∧ k.op ≠ 3
  or : o = 4 ∨ o = 6 → 2 ≤ ks.length ∧ (∀ k ∈ ks, k.op ≠ 0 ∧ k.op ≠ o) ∧ ks.Pairwise ltK ∧ (ks.filter fun k => k.op == 2).length ≤ 1
  star : o = 5 → ∃ k, ks = [k] ∧ k.op ≠ 0 ∧ k.op ≠ 1 ∧ k.op ≠ 5
  minus : o = 7 → ∃ a b, ks = [a, b] ∧ a.op ≠ 0 ∧ b.op ≠ 0 ∧ a ≠ b ∧ ¬ (a.op = 2 ∧ b.op = 2)
inductive Wf : RE → Prop where
  | mk (o : Nat) (s : BitVec 256) (ks : List RE) (hk : ∀ k ∈ ks, Wf k) (h : Shp o s ks) : Wf (.mk o s ks)
theorem Wf.shp {r : RE} (h : Wf r) : Shp r.op r.set r.kids := by cases h; assumption
theorem Wf.kid {r : RE} (h : Wf r) : ∀ k ∈ r.kids, Wf k := by cases h; assumption
theorem Wf.k {r : RE} (h : Wf r) : WfK r := by
  induction h with
  | mk o s ks hk h ih => exact .mk o s ks h.op h.cls h.set ih
theorem Wf.none {r : RE} (h : Wf r) (h0 : r.op = 0) : r = rNothing := by
  have hs := h.shp
  rw [r.eta, hs.set (by omega), hs.leaf (.inl h0), h0]; rfl
theorem Wf.eps {r : RE} (h : Wf r) (h0 : r.op = 1) : r = rEmpty := by
  have hs := h.shp
  rw [r.eta, hs.set (by omega), hs.leaf (.inr h0), h0]; rfl
theorem wf_nothing : Wf rNothing := .mk _ _ _ (by simp) ⟨by omega, by simp, by simp, by omega, by omega, by omega, by omega, by omega⟩
theorem wf_empty : Wf rEmpty := .mk _ _ _ (by simp) ⟨by omega, by simp, by simp, by omega, by omega, by omega, by omega, by omega⟩
theorem wf_one (s : BitVec 256) : Wf (rOne s) := by
  unfold rOne
  split
  · exact wf_nothing
  · rename_i h
    exact .mk _ _ _ (by simp) ⟨by omega, by simp, by simp, fun _ => ⟨rfl, h⟩, by omega, by omega, by omega, by omega⟩

def catK (r : RE) : List RE := if r.op = 1 then [] else if r.op = 3 then r.kids else [r]
def catL (l : List RE) : List RE := l.flatMap catK
def rThen (l : List RE) : RE := if l.any (fun r => r.op == 0) then rNothing else if catL l = [] then rEmpty else rJoin 3 (catL l)
theorem catL_take (l : List RE) (k : Nat) (h : k < l.length) : catL (l.take (k + 1)) = catL (l.take k) ++ catK l[k] := by
  unfold catL
  rw [List.take_succ_eq_append_getElem h, List.flatMap_append]; simp
theorem catL_le (l : List RE) (k : Nat) : (catL (l.take k)).length ≤ (catL l).length := by
  have : catL l = catL (l.take k) ++ catL (l.drop k) := by
    unfold catL
    rw [← List.flatMap_append, List.take_append_drop]
  rw [this, List.length_append]; omega

set_option maxHeartbeats 1000000 in
theorem then_any [Forb] (l : List RE) (v : Value) (w : World) (h : ResRow w v l) (hw : ∀ r ∈ l, Wf r) (hl : l.length ≤ 1099511627776) (hlen : (catL l).length ≤ 1099511627776) :
    Calls Tryz.prog 51 #[v] w fun e w' => ∃ b, e = .returned (PT b) ∧ ReAt w' b (rThen l) ∧ Below w.heap.size w w' := by
  have HR := hide h
  obtain ⟨hn, ad, cap, rfl, -⟩ := h.at
  clear h
  obtain ⟨i, hi, hz0, hz1, hz2⟩ := info_parts infoP
  obtain ⟨B, hB⟩ : ∃ B, B = w.heap.size := ⟨_, rfl⟩
  rw [← hB]
  have HB := hide hB
  clear hB
  go_enter Tryz.func51, Tryz.ntmps51
  go_wp2_with (refine wpList_make_own _ rfl _ _ _ rfl B _ i _ 1 Tryz.underlying59 hi hz0 hz1 .i64 .i64 _ l.length rfl rfl rfl (by rw [hz2]; omega) (by unfold maxLen; omega) (Nat.le_of_eq HB.out) ?_; intro w1 ho1 hg1)
  have hO0 : OwnP w1 B (.slice (some ⟨w.heap.size, 0, none⟩) 0 l.length) [] := ho1
  have hB0 : Below B w w1 := HB.out ▸ grown_none hg1
  clear ho1 hg1
  go_loopw [3, 11] (fun out c wr => ∃ (k : Nat) (ps : List (Nat × RE)), k ≤ l.length ∧ c = .int .i64 k ∧ Hid ((l.take k).any (fun r => r.op == 0) = false) ∧ Hid (ps.map Prod.snd = catL (l.take k)) ∧ Hid (OwnP wr B out ps) ∧ Hid (∀ p ∈ ps, ReAt w p.1 p.2) ∧ Hid (Below B w wr)) (fun _ c _ => l.length - (intOf c).toNat)
  case atStart => exact ⟨0, [], by omega, rfl, rfl, rfl, hO0, fun p hp => by simp at hp, hB0⟩
  case round =>
    clear hO0 hB0
    obtain ⟨k, ps, hk, rfl, HN, HS, HO, HE, HW⟩ := hrel
    have hW := HB.out ▸ HW.out
    obtain ⟨-, ad', cap', e1, g1⟩ := (HR.out.below (by rw [← HB.out]; exact HW.out)).at
    obtain ⟨rfl, rfl⟩ : ad = ad' ∧ cap = cap' := by cases e1; exact ⟨rfl, rfl⟩
    obtain ⟨-, ad'', cap'', e2, g2⟩ := HR.out.at
    obtain ⟨rfl, rfl⟩ : ad = ad'' ∧ cap = cap'' := by cases e2; exact ⟨rfl, rfl⟩
    clear e1 e2 hW
    have hpl : ps.length = (catL (l.take k)).length := by rw [← HS.out]; simp
    have hle := catL_le l k
    by_cases hlt : k < l.length
    · have hkd : decide (k < l.length) = true := by simp [hlt]
      obtain ⟨b1, o1, p1, rfl, -, d1, r1⟩ := g1 k hlt
      obtain ⟨b2, o2, p2, e3, -, d2, r2⟩ := g2 k hlt
      cases e3
      have hpp : p1 = p2 := by
        have hc := World.cell?_of_block (a := ⟨b1, o1 + k, none⟩) (HW.out.block b1 (by rw [HB.out]; exact World.block_lt_of_cell? _ _ d2))
        rw [d1, d2] at hc
        simpa [PT] using hc
      subst hpp
      have HT := hide (catL_take l k hlt)
      have HN2 := hide (show (l.take (k + 1)).any (fun r => r.op == 0) = (l[k].op == 0) from by rw [List.take_succ_eq_append_getElem hlt, List.any_append, HN.out]; simp)
      have HA := hide (show (l[k].op == 0) = true → l.any (fun r => r.op == 0) = true from fun h => List.any_eq_true.2 ⟨l[k], List.getElem_mem hlt, h⟩)
      have hmem : l[k] ∈ l := List.getElem_mem hlt
      have hwk := hw _ hmem
      have hle2 := catL_le l (k + 1)
      rw [HT.out, List.length_append, ← hpl] at hle2
      clear hpl hle
      generalize l[k] = r at *
      unfold PT at d1
      have HR1 := hide r1
      have HR2 := hide r2
      have c0 := r1.cell0
      obtain ⟨kv, qs, c5, hq1, hq2, hq3⟩ := r2.kidRow
      have hs1 := HW.out.size
      have c5' : wr.cell? ⟨p1, 5, none⟩ = some kv := by rw [← c5]; exact World.cell?_of_block (w := w) (HW.out.block p1 (by rw [HB.out]; exact r2.lt))
      have hBW : B ≤ wr.heap.size := by rw [HB.out]; exact hs1
      clear g1 g2 r1 r2 c5 d2
      go_wp2_with fail
      refine (settled_any p1 r _ HR1.out).mono ?_
      rintro e w2 ⟨rfl, rfl⟩
      unfold PT
      by_cases hop0 : r.op = 0
      · have ho0 : ((r.op : Int) == 0) = true := by simp [hop0]
        have HX := hide (show r = rNothing from hwk.none hop0)
        have HAA := hide (HA.out (by simp [hop0]))
        clear hop0
        go_wp2
        go_ret
        refine ⟨p1, rfl, ?_, HW.out⟩
        rw [rThen, if_pos HAA.out, ← HX.out]
        exact HR1.out
      · have HNF : Hid ((l.take (k + 1)).any (fun r => r.op == 0) = false) := HN2.out.trans (by simp [hop0])
        by_cases hop1 : r.op = 1
        · have ho0 : ((r.op : Int) == 0) = false := beq_eq_false_iff_ne.2 (by omega)
          have ho1 : ((r.op : Int) == 1) = true := by simp [hop1]
          have HK1 := hide (show catK r = [] from by unfold catK; rw [if_pos hop1])
          clear hop1
          go_wp2
          refine ⟨⟨k + 1, ps, by omega, by go_num, HNF, ?_, HO, HE, HW⟩, by simp [intOf]; omega⟩
          show ps.map Prod.snd = _
          rw [HT.out, HK1.out, List.append_nil, HS.out]
        · by_cases hop : r.op = 3
          · have ho0 : ((r.op : Int) == 0) = false := beq_eq_false_iff_ne.2 (by omega)
            have ho1 : ((r.op : Int) == 1) = false := beq_eq_false_iff_ne.2 (by omega)
            have ho3 : ((r.op : Int) == 3) = true := by simp [hop]
            have hq0 : 0 < qs.length := by rw [← List.length_map (f := Prod.snd), hq1]; have := (hwk.shp.cat hop).1; omega
            have hql : qs.length = r.kids.length := by rw [← hq1]; simp
            rw [show catK r = r.kids from by unfold catK; rw [if_neg (by omega), if_pos hop], ← hql] at hle2
            clear hql
            obtain ⟨ad2, cap2, rfl, hnw⟩ := (hq3.below (by rw [← HB.out]; exact HW.out)).news hq0
            have HOP := hide hop
            clear hop
            go_wp2_with (refine wpList_append_lies _ rfl _ _ _ rfl B _ i _ 1 8 Tryz.underlying59 hi hz0 hz1 hz2 rfl (by omega) _ _ _ rfl HO.out _ qs.length _ (ptrs qs) rfl (by simp [ptrs]) hnw (ptrs_one qs) (by omega) (by unfold maxLen; omega) (by omega) hBW _ rfl ?_; intro g cap' w4 hown hgrow hat hlt4)
            refine ⟨⟨k + 1, ps ++ qs, by omega, by go_num, HNF, ?_, ?_, ?_, ?_⟩, by simp [intOf]; omega⟩
            · show (ps ++ qs).map Prod.snd = _
              rw [HT.out, show catK r = r.kids from by unfold catK; rw [if_neg (by have := HOP.out; omega), if_pos HOP.out], List.map_append, hq1, HS.out]
            · show OwnP _ _ _ _
              unfold OwnP
              rw [List.length_append, show ptrs (ps ++ qs) = ptrs ps ++ ptrs qs from by simp [ptrs]]
              exact hown
            · show ∀ p ∈ ps ++ qs, _
              intro p hp
              rcases List.mem_append.1 hp with hp | hp
              · exact HE.out p hp
              · exact hq2 p hp
            · exact below_grown HW.out hgrow HO.out (Nat.le_of_eq HB.out)
          · have ho0 : ((r.op : Int) == 0) = false := beq_eq_false_iff_ne.2 (by omega)
            have ho1 : ((r.op : Int) == 1) = false := beq_eq_false_iff_ne.2 (by omega)
            have ho3 : ((r.op : Int) == 3) = false := beq_eq_false_iff_ne.2 (by omega)
            rw [show catK r = [r] from by unfold catK; rw [if_neg hop1, if_neg hop]] at hle2
            simp only [List.length_cons, List.length_nil] at hle2
            have HOP := hide hop
            have HOP1 := hide hop1
            clear hop hop1
            have HOa := hide (HO.out.keep ((Below.refl w2.heap.size w2).alloc (Nat.le_refl _) (.cells #[PT p1] 30)))
            have hnw := World.news_of_block (Blk.newAt (w := w2) rfl #[PT p1] 30)
            have hBa : Below B w (w2.alloc (.cells #[PT p1] 30)) := HW.out.alloc hBW _
            go_wp2_with (refine wpList_append_lies _ rfl _ _ _ rfl B _ i _ 1 8 Tryz.underlying59 hi hz0 hz1 hz2 rfl (by omega) _ _ _ rfl HOa.out _ 1 _ (ptrs [(p1, r)]) rfl rfl hnw (ptrs_one _) (by omega) (by unfold maxLen; omega) (by omega) (by simp; omega) _ rfl ?_; intro g cap' w4 hown hgrow hat hlt4)
            refine ⟨⟨k + 1, ps ++ [(p1, r)], by omega, by go_num, HNF, ?_, ?_, ?_, ?_⟩, by simp [intOf]; omega⟩
            · show (ps ++ [(p1, r)]).map Prod.snd = _
              rw [HT.out, show catK r = [r] from by unfold catK; rw [if_neg HOP1.out, if_neg HOP.out], List.map_append, HS.out]; rfl
            · show OwnP _ _ _ _
              unfold OwnP
              rw [List.length_append, show ptrs (ps ++ [(p1, r)]) = ptrs ps ++ ptrs [(p1, r)] from by simp [ptrs]]
              exact hown
            · show ∀ p ∈ ps ++ [(p1, r)], _
              intro p hp
              rcases List.mem_append.1 hp with hp | hp
              · exact HE.out p hp
              · simp at hp; subst hp; exact HR2.out
            · exact below_grown hBa hgrow HOa.out (Nat.le_of_eq HB.out)
    · obtain rfl : k = l.length := by omega
      rw [List.take_length] at HS HN
      clear g1 g2
      have hrow := (HO.out.row (by rw [HB.out]; exact HR.out.fl) (by rw [HB.out]; exact HW.out.size) (by rw [List.take_length] at hpl; omega)).res (fun p hp => (HE.out p hp).keep (by rw [← HB.out]; exact HW.out))
      rw [HS.out] at hrow
      have HRO := hide hrow
      obtain ⟨_, adv, capv, hu, -⟩ := hrow.at
      rw [hu] at HRO HO
      rw [hu]
      clear hrow hu hpl
      have hBW : B ≤ wr.heap.size := by rw [HB.out]; exact HW.out.size
      by_cases hem : (catL l).length = 0
      · have hemd : (((catL l).length : Int) == 0) = true := by simp [hem]
        have HEM := hide (show catL l = [] from List.eq_nil_of_length_eq_zero hem)
        clear hem
        go_wp2_with fail
        refine (empty_re _ HRO.out.fl).mono ?_
        rintro e w5 ⟨b, rfl, h1, h2⟩
        go_wp2
        go_ret
        refine ⟨b, rfl, ?_, HW.out.trans (h2.mono hBW)⟩
        rw [rThen, if_neg (by rw [HN.out]; simp), if_pos HEM.out]
        exact h1
      · have hemd : (((catL l).length : Int) == 0) = false := beq_eq_false_iff_ne.2 (by omega)
        have HEM := hide (show ¬ catL l = [] from fun e => hem (by rw [e]; rfl))
        clear hem
        go_wp2_with fail
        refine (join_any 3 (catL l) _ _ (by omega) (by omega) HRO.out).mono ?_
        rintro e w5 ⟨b, rfl, h1, h2⟩
        go_wp2
        go_ret
        refine ⟨b, rfl, ?_, HW.out.trans (h2.mono hBW)⟩
        rw [rThen, if_neg (by rw [HN.out]; simp), if_neg HEM.out]
        exact h1
end Go.Proofs.YtjcfnmjjkadaeaaGreatDoor
/- inOrder, Any. -/
namespace Go.Proofs.YtjcfnmjjkadaeaaGreatDoor
set_option maxRecDepth 100000
set_option linter.unusedSimpArgs false
set_option linter.unusedVariables false
open Go.RowKit

theorem inOrder_any [Forb] (blk cap : Nat) (ps : List (Nat × RE)) (w : World) (hT : TabAt w) (hne : blk ≠ 0) (hl : ps.length ≤ 1099511627777) (h0 : ps ≠ []) (hcap : ps.length ≤ cap) (hP : PtrsIn w blk ps) (hfl : FL w.heap.size) (hno : ¬ Forb.no blk) :
    Calls Tryz.prog 68 #[.slice (some ⟨blk, 0, none⟩) ps.length cap] w fun e w' => ∃ v', e = .returned v' ∧ ResRow w' v' (ordL (ps.map Prod.snd)) ∧ w'.os = w.os ∧ w'.tape = w.tape ∧ w'.output = w.output ∧ w.heap.size ≤ w'.heap.size ∧ ∀ k, k < w.heap.size → k ≠ blk → w'.heap[k]? = w.heap[k]? := by
  go_enter Tryz.func68, Tryz.ntmps68
  go_wp2_with fail
  refine (sortRe_any blk cap ps w hT hne (by omega) h0 hP).mono ?_
  rintro e w1 ⟨rfl, ps', hp, hs, hP', e1, e2, e3, hsz, hk⟩
  have hlen := hp.length_eq
  have h0' : ps' ≠ [] := fun e => h0 (by rw [e] at hp; exact hp.nil_eq.symm)
  have hT1 : TabAt w1 := fun j hj => by
    have hc := hT j hj
    rw [← hc]
    exact World.cell?_of_block (w := w) (hk _ (World.block_lt_of_cell? _ _ hc) (Ne.symm hne))
  have hcon := compact_any blk cap ps' w1 hT1 hne (by omega) h0' (by omega) hP'
  rw [hlen] at hcon
  have HP := hide hp
  have HS := hide hs
  have HP' := hide hP'
  have HK := hide hk
  have HL := hide hlen
  clear hp hs hP' hk hlen hT1
  go_wp2_with fail
  refine hcon.mono ?_
  rintro e w2 ⟨rfl, f, hW, hf⟩
  have HW := hide hW
  have HF := hide hf
  have E := hide (show w1.os = w.os ∧ w1.tape = w.tape ∧ w1.output = w.output from ⟨e1, e2, e3⟩)
  clear hcon hW hf e1 e2 e3
  go_wp2
  go_ret
  have hW := HW.out
  have hf := HF.out
  have hlen := HL.out
  refine ⟨_, rfl, ?_, hW.os.trans E.out.1, hW.tape.trans E.out.2.1, hW.output.trans E.out.2.2, Nat.le_trans hsz hW.size, fun k hk hn => (hW.other k (by omega) hn).trans (HK.out k hk hn)⟩
  have hord := cpt_ord HP.out HS.out (fun p hp => (hP.elem p hp).2) h0'
  rw [hlen] at hord
  rw [← hord]
  have hcl := cpt_len ps' ps.length
  have hrow : RowAt w2 (.slice (some ⟨blk, 0, none⟩) (cpt ps' ps.length).length cap) (cpt ps' ps.length) := by
    refine ⟨⟨by omega, .of (by omega) (hfl.mono (Nat.le_trans hsz hW.size)) (fun ad e _ => by injection e with e; subst e; exact hno)⟩, _, cap, rfl, fun j p hp => ⟨blk, 0, rfl, by have := HP'.out.lt; have := hW.size; omega, ?_⟩⟩
    have hj : j < (cpt ps' ps.length).length := (List.getElem?_eq_some_iff.1 hp).1
    rw [Nat.zero_add, hW.cell j (by omega), hf j p hp]
  refine hrow.res fun p hp => ?_
  have hm := cpt_mem ps' ps.length (by omega) p hp
  exact hW.re HP'.out.lt (HP'.out.elem p hm).1

theorem wipe_old [Forb] {w W : World} {g b : Nat} {r : RE} (h : ReAt w b r) (hb : Below w.heap.size w W) (hg : w.heap.size ≤ g) : ReAt (wipe W g) b r :=
  h.via (by rw [wipe_size]; exact hb.size) fun a ha => by
    have hl : a.block < w.heap.size := by
      cases e : w.cell? a with
      | none => rw [e] at ha; cases ha
      | some v => exact World.block_lt_of_cell? _ _ e
    rw [wipe_other (by omega)]
    exact hb.block _ hl
theorem wipe_leaf [Forb] {W : World} {g b : Nat} {r : RE} {c : Array Value} (h : ReAt W b r) (hk : r.kids = []) (hg : Blk W g c 30) : ReAt (wipe W g) b r := by
  obtain ⟨v, hb, hrow⟩ := h.row
  have hne : b ≠ g := by
    rintro rfl
    have h1 := hb.of_cells.symm.trans hg.of_cells
    injection h1 with h1; injection h1 with _ h2
    exact absurd h2 (by decide)
  have hfl : FL (wipe W g).heap.size := by rw [wipe_size]; exact h.fl
  rw [r.eta] at hb ⊢
  rw [hk] at hrow hb ⊢
  obtain ⟨-, a, cap, rfl, -⟩ := hrow.at
  refine ReAt.ofRow (v := .slice a ([] : List RE).length cap) ((wipe_other hne).trans hb) ⟨fun _ => 0, ⟨⟨by simp, .zero hfl⟩, a, cap, rfl, fun k hk => by simp at hk⟩, fun i k hk => by simp at hk⟩

/-- What Any gathers. -/
def orKeep (l : List RE) : List RE := l.filter fun r => !(r.op == 0) && !(r.op == 2)
def orSet (l : List RE) : BitVec 256 := l.foldl (fun s r => if r.op = 2 then s ||| r.set else s) 0#256
theorem orKeep_take (l : List RE) (k : Nat) (h : k < l.length) : orKeep (l.take (k + 1)) = orKeep (l.take k) ++ (if l[k].op = 0 ∨ l[k].op = 2 then [] else [l[k]]) := by
  unfold orKeep
  rw [List.take_succ_eq_append_getElem h, List.filter_append]
  congr 1
  by_cases h0 : l[k].op = 0 <;> by_cases h2 : l[k].op = 2 <;> simp [h0, h2]
theorem orSet_take (l : List RE) (k : Nat) (h : k < l.length) : orSet (l.take (k + 1)) = if l[k].op = 2 then orSet (l.take k) ||| l[k].set else orSet (l.take k) := by
  unfold orSet
  rw [List.take_succ_eq_append_getElem h, List.foldl_append]; rfl
theorem orKeep_le (l : List RE) : (orKeep l).length ≤ l.length := List.length_filter_le _ _
def rAny (l : List RE) : RE :=
  let ks := orKeep (flatL 4 l) ++ (if orSet (flatL 4 l) = 0#256 then [] else [rOne (orSet (flatL 4 l))])
  if ks = [] then rNothing else rJoin 4 (ordL ks)

def put4 (W : World) (b : Nat) (s : BitVec 256) : World := (((W.setCell ⟨b, 0, none⟩ (.int .u64 (wd s 0))).setCell ⟨b, 1, none⟩ (.int .u64 (wd s 1))).setCell ⟨b, 2, none⟩ (.int .u64 (wd s 2))).setCell ⟨b, 3, none⟩ (.int .u64 (wd s 3))
theorem x_storeSet (ρ : Operand → Value) (d : Option Tmp) (x y : Operand) (t : TypeId) (pos : String) (af : Array Edge) (g : Option (Nat × Bool)) (b : Nat) (s u : BitVec 256) (hx : ρ x = PT b) (hy : ρ y = SV s) (w : World) (hB : Blk w b (WS u) 89) :
    (execOp ρ { dst := d, op := .store 89 x y, type := t, pos := pos, after := af, guard := g }).run Tryz.prog w = .ok .skip (put4 w b s) := by
  have c0 := hB.cell 0; have c1 := hB.cell 1; have c2 := hB.cell 2; have c3 := hB.cell 3
  have f0 := hB.frozen 0; have f1 := hB.frozen 1; have f2 := hB.frozen 2; have f3 := hB.frozen 3
  simp only [List.getElem?_toArray, List.getElem?_cons_zero, List.getElem?_cons_succ] at c0 c1 c2 c3
  simp [go_sem, hx, hy, c0, c1, c2, c3, f0, f1, f2, f3, PT, put4]
theorem put4_blk {W : World} {b : Nat} {u : BitVec 256} (h : Blk W b (WS u) 89) (s : BitVec 256) : Blk (put4 W b s) b (WS s) 89 := by
  have h4 := (((h.set 0 (.int .u64 (wd s 0))).set 1 (.int .u64 (wd s 1))).set 2 (.int .u64 (wd s 2))).set 3 (.int .u64 (wd s 3))
  unfold put4
  simpa using h4
theorem put4_other {W : World} {b k : Nat} (h : k ≠ b) (s : BitVec 256) : (put4 W b s).heap[k]? = W.heap[k]? := by
  unfold put4
  rw [Below.heap_setCell _ _ _ _ h, Below.heap_setCell _ _ _ _ h, Below.heap_setCell _ _ _ _ h, Below.heap_setCell _ _ _ _ h]
theorem put4_below {B b : Nat} {w W : World} (h : Below B w W) (hb : B ≤ b) (s : BitVec 256) : Below B w (put4 W b s) :=
  (((h.setCell hb _).setCell hb _).setCell hb _).setCell hb _
theorem OwnP.apart {W : World} {base b : Nat} {v : Value} {ps : List (Nat × RE)} {c : Array Value} (h : OwnP W base v ps) (hb : Blk W b c 89) : v.ownBlock ≠ some b := fun e => by
  rcases h.2 with ⟨rfl, -⟩ | ⟨g, cap, cur, rfl, -, hg, -⟩
  · cases e
  · simp [Value.ownBlock] at e; subst e
    have h1 := hg.symm.trans hb.of_cells
    injection h1 with h1; injection h1 with _ h2
    exact absurd h2 (by decide)
theorem OwnP.other {W W' : World} {base : Nat} {v : Value} {ps : List (Nat × RE)} (h : OwnP W base v ps) (hk : ∀ g, v.ownBlock = some g → W'.heap[g]? = W.heap[g]?) : OwnP W' base v ps := by
  refine ⟨h.1, ?_⟩
  rcases h.2 with h2 | ⟨g, cap, cur, rfl, hb, hg, h4⟩
  · exact .inl h2
  · exact .inr ⟨g, cap, cur, rfl, hb, (hk g rfl).trans hg, h4⟩
/-- An own row, as inOrder wants it. -/
theorem OwnP.ptrs [Forb] {w W : World} {base : Nat} {v : Value} {ps : List (Nat × RE)} (h : OwnP W base v ps) (h0 : ps ≠ []) : ∃ g cap c, v = .slice (some ⟨g, 0, none⟩) ps.length cap ∧ base ≤ g ∧ ps.length ≤ cap ∧ Blk W g c 30 ∧ ((∀ p ∈ ps, ReAt (wipe W g) p.1 p.2 ∧ WfK p.2) → PtrsIn W g ps) := by
  have hl := List.length_pos_iff.2 h0
  rcases h.2 with ⟨-, hn⟩ | ⟨g, cap, cur, rfl, hb, hg, h1, h2, h3, h4⟩
  · omega
  · have hblk : Blk W g cur 30 := hg
    refine ⟨g, cap, cur, rfl, hb, h1, hblk, fun he => ⟨hblk.lt, fun j p hp => ⟨?_, hblk.frozen _⟩, he⟩⟩
    have hj : j < ps.length := (List.getElem?_eq_some_iff.1 hp).1
    rw [hblk.cell]
    have e : (cur.toList.take (ps.length * 1))[j]? = some (PT p.1) := by rw [h4, Go.Proofs.YtjcfnmjjkadaeaaGreatDoor.ptrs, List.getElem?_map, hp]; rfl
    rw [List.getElem?_take, if_pos (by omega)] at e
    simpa using e

theorem OwnP.leaf [Forb] {W W' : World} {base b : Nat} {v : Value} {ps : List (Nat × RE)} {r : RE} (h : OwnP W base v ps) (hg : W.grownBy W' v.ownBlock) (hr : ReAt W b r) (hk : r.kids = []) : ReAt W' b r := by
  obtain ⟨u, hb, hrow⟩ := hr.row
  have hne : v.ownBlock ≠ some b := fun e => by
    rcases h.2 with ⟨rfl, -⟩ | ⟨g, cap, cur, rfl, -, hg, -⟩
    · cases e
    · simp [Value.ownBlock] at e; subst e
      have h1 := hg.symm.trans hb.of_cells
      injection h1 with h1; injection h1 with _ h2
      exact absurd h2 (by decide)
  rw [r.eta] at hb ⊢
  rw [hk] at hrow hb ⊢
  obtain ⟨-, a, cap, rfl, -⟩ := hrow.at
  exact ReAt.ofRow (v := .slice a ([] : List RE).length cap) ((hg.block b hb.lt (fun e => hne e.symm)).trans hb) ⟨fun _ => 0, ⟨⟨by simp, .zero (hrow.fl.mono hg.size)⟩, a, cap, rfl, fun k hk => by simp at hk⟩, fun i k hk => by simp at hk⟩
theorem rOne_kids (s : BitVec 256) : (rOne s).kids = [] := by unfold rOne; split <;> rfl

/-- What Any keeps in its loop. -/
structure AnyW [Forb] (w w1 : World) (B1 CB : Nat) (out : Value) (ps : List (Nat × RE)) (s : BitVec 256) (W : World) : Prop where
  own : OwnP W B1 out ps
  elem : ∀ p ∈ ps, ReAt w p.1 p.2
  box : Blk W CB (WS s) 89
  below : Below B1 w1 W
theorem AnyW.append [Forb] {w w1 W W' : World} {B1 CB : Nat} {out v' : Value} {ps qs : List (Nat × RE)} {s : BitVec 256} (h : AnyW w w1 B1 CB out ps s W) (hB : B1 = w1.heap.size) (hq : ∀ p ∈ qs, ReAt w p.1 p.2)
    (hown : W'.ownsRow B1 30 1 v' (ps.length + qs.length) (ptrs ps ++ ptrs qs)) (hg : W.grownBy W' out.ownBlock) : AnyW w w1 B1 CB v' (ps ++ qs) s W' := by
  refine ⟨?_, fun p hp => ?_, ?_, below_grown h.below hg h.own (Nat.le_of_eq hB)⟩
  · unfold OwnP
    rw [List.length_append, show ptrs (ps ++ qs) = ptrs ps ++ ptrs qs from by simp [ptrs]]
    exact hown
  · rcases List.mem_append.1 hp with hp | hp
    · exact h.elem p hp
    · exact hq p hp
  · exact (hg.block CB h.box.lt (fun e => h.own.apart h.box e.symm)).trans h.box
theorem AnyW.step [Forb] {w w1 W W' : World} {B1 CB : Nat} {out : Value} {ps : List (Nat × RE)} {s : BitVec 256} (h : AnyW w w1 B1 CB out ps s W) (hB : B1 = w1.heap.size) (hb : Below W.heap.size W W') : AnyW w w1 B1 CB out ps s W' :=
  ⟨h.own.keep hb, h.elem, h.box.below hb h.box.lt, h.below.trans (hb.mono (by rw [hB]; exact h.below.size))⟩
theorem AnyW.store [Forb] {w w1 W : World} {B1 CB : Nat} {out : Value} {ps : List (Nat × RE)} {s : BitVec 256} (h : AnyW w w1 B1 CB out ps s W) (hC : B1 ≤ CB) (t : BitVec 256) : AnyW w w1 B1 CB out ps t (put4 W CB t) :=
  ⟨h.own.other fun g hg => put4_other (fun e => h.own.apart h.box (by rw [← e]; exact hg)) t, h.elem, put4_blk h.box t, put4_below h.below hC t⟩

set_option maxHeartbeats 2000000 in
theorem any_re [Forb] (l : List RE) (v : Value) (w : World) (h : ResRow w v l) (hw : ∀ r ∈ l, Wf r) (hl : l.length ≤ 1099511627776) (hlen : (flatL 4 l).length ≤ 1099511627776) (hT : TabAt w) :
    Calls Tryz.prog 33 #[v] w fun e w' => ∃ b, e = .returned (PT b) ∧ ReAt w' b (rAny l) ∧ Below w.heap.size w w' := by
  obtain ⟨i, hi, hz0, hz1, hz2⟩ := info_parts infoP
  have hG : 0 < w.heap.size := World.block_lt_of_cell? _ _ (hT 0 (by omega))
  have HT := hide hT
  have HR := hide h
  clear hT h
  obtain ⟨fl, hfl⟩ : ∃ fl, fl = flatL 4 l := ⟨_, rfl⟩
  have hwf : ∀ r ∈ fl, Wf r := fun r hr => by
    rw [hfl] at hr
    obtain ⟨q, hq, hr⟩ := List.mem_flatMap.1 hr
    split at hr
    · exact (hw q hq).kid r hr
    · simp at hr; subst hr; exact hw _ hq
  obtain ⟨res, hres⟩ : ∃ res, res = rAny l := ⟨_, rfl⟩
  rw [← hres]
  unfold rAny at hres
  simp only [← hfl] at hres
  have HRES := hide hres
  clear hres
  rw [← hfl] at hlen
  obtain ⟨-, ad0, cap0, rfl, -⟩ := HR.out.at
  go_enter Tryz.func33, Tryz.ntmps33
  go_wp2_with fail
  refine (flat_any 4 l _ w HR.out (fun r hr e => by have := ((hw r hr).shp.or (.inl e)).1; omega) hl (by rw [← hfl]; exact hlen)).mono ?_
  rintro e w1 ⟨vf, ps0, rfl, hps, hO, hE, hb⟩
  rw [← hfl] at hps
  have hpl : ps0.length = fl.length := by rw [← hps]; simp
  have hrow1 := (hO.row HR.out.fl hb.size (by omega)).res (fun p hp => (hE p hp).keep hb)
  rw [hps] at hrow1
  obtain ⟨-, adf, capf, rfl, -⟩ := hrow1.at
  have HROW := hide hrow1
  have HPR := hide (hO.row HR.out.fl hb.size (by omega))
  have HPS := hide hps
  have HE0 := hide hE
  have HB := hide hb
  obtain ⟨B1, hB1⟩ : ∃ B1, B1 = w1.heap.size := ⟨_, rfl⟩
  have HB1 := hide hB1
  have hwB : w.heap.size ≤ B1 := by rw [hB1]; exact hb.size
  clear hO hE hb hrow1 hps hB1 hfl
  go_wp2_with (refine wpList_make_own _ rfl _ _ _ rfl B1 _ i _ 1 Tryz.underlying59 hi hz0 hz1 .i64 .i64 _ fl.length rfl rfl rfl (by rw [hz2]; omega) (by unfold maxLen; omega) (Nat.le_of_eq HB1.out) ?_; intro w2 ho1 hg1)
  obtain ⟨CB, hCB⟩ : ∃ CB, CB = w2.heap.size := ⟨_, rfl⟩
  rw [← hCB]
  have hBC : B1 ≤ CB := by rw [hCB, HB1.out]; exact hg1.size
  have hA0 : AnyW w w1 B1 CB (.slice (some ⟨w1.heap.size, 0, none⟩) 0 fl.length) [] 0#256 (w2.alloc (.cells #[.int .u64 0, .int .u64 0, .int .u64 0, .int .u64 0] 89)) := by
    have ho : OwnP w2 B1 (.slice (some ⟨w1.heap.size, 0, none⟩) 0 fl.length) [] := ho1
    have hbb : Below B1 w1 w2 := HB1.out ▸ grown_none hg1
    refine ⟨ho.keep ((Below.refl _ _).alloc (Nat.le_refl _) _), fun p hp => by simp at hp, ?_, hbb.alloc (by omega) _⟩
    have := Blk.newAt (w := w2) hCB (WS (0#256)) 89
    rw [← WS_zero] at this ⊢
    exact this
  clear ho1 hg1 hCB
  go_loopw [3, 14] (fun out c wr => ∃ (k : Nat) (ps : List (Nat × RE)), k ≤ fl.length ∧ c = .int .i64 k ∧ Hid (ps.map Prod.snd = orKeep (fl.take k)) ∧ Hid (AnyW w w1 B1 CB out ps (orSet (fl.take k)) wr)) (fun _ c _ => fl.length - (intOf c).toNat)
  case atStart => exact ⟨0, [], by omega, rfl, rfl, hA0⟩
  case round =>
    clear hA0
    obtain ⟨k, ps, hk, rfl, HS, HA⟩ := hrel
    have hple : ps.length ≤ k := by
      have e : ps.length = (orKeep (fl.take k)).length := by rw [← HS.out]; simp
      have := orKeep_le (fl.take k)
      simp at this; omega
    have hBW : B1 ≤ wr.heap.size := by rw [HB1.out]; exact HA.out.below.size
    by_cases hlt : k < fl.length
    · have hkd : decide (k < fl.length) = true := by simp [hlt]
      have hk0 : k < ps0.length := by omega
      obtain ⟨-, a', c', e1, g1⟩ := HPR.out.below (show Below w1.heap.size w1 wr from HB1.out ▸ HA.out.below)
      obtain ⟨rfl, rfl⟩ : adf = a' ∧ capf = c' := by injection e1 with ea el ec; exact ⟨ea, ec⟩
      obtain ⟨b1, o1, rfl, -, d1⟩ := g1 k _ (List.getElem?_eq_getElem hk0)
      have hre := HE0.out _ (List.getElem_mem hk0)
      have hflk : fl[k] = (ps0[k]).2 := by
        have h1 : (ps0.map Prod.snd)[k]? = some fl[k] := by rw [HPS.out]; exact List.getElem?_eq_getElem hlt
        rw [List.getElem?_map, List.getElem?_eq_getElem hk0] at h1
        simpa using h1.symm
      rw [← hflk] at hre
      have HTK := hide (orKeep_take fl k hlt)
      have HTS := hide (orSet_take fl k hlt)
      have hwk := hwf _ (List.getElem_mem hlt)
      generalize hp1 : (ps0[k]).1 = p1 at d1 hre
      generalize fl[k] = r at HTK HTS hre hwk
      have hbw : Below w.heap.size w wr := HB.out.trans (HA.out.below.mono hwB)
      have HR1 := hide (hre.keep hbw)
      have HR0 := hide hre
      have c0 := HR1.out.cell0
      unfold PT at d1
      clear e1 g1 hre hbw hflk hp1
      by_cases hop0 : r.op = 0
      · have ho0 : ((r.op : Int) == 0) = true := by simp [hop0]
        have HK := hide (show orKeep (fl.take (k + 1)) = orKeep (fl.take k) from by rw [HTK.out, if_pos (.inl hop0), List.append_nil])
        have HSS := hide (show orSet (fl.take (k + 1)) = orSet (fl.take k) from by rw [HTS.out, if_neg (by omega)])
        clear hop0
        go_wp2
        exact ⟨⟨k + 1, ps, by omega, by go_num, HS.out.trans HK.out.symm, (show AnyW _ _ _ _ _ _ _ _ from by rw [HSS.out]; exact HA.out)⟩, by simp [intOf]; omega⟩
      · by_cases hop2 : r.op = 2
        · have ho0 : ((r.op : Int) == 0) = false := beq_eq_false_iff_ne.2 (by omega)
          have ho2 : ((r.op : Int) == 2) = true := by simp [hop2]
          have HK := hide (show orKeep (fl.take (k + 1)) = orKeep (fl.take k) from by rw [HTK.out, if_pos (.inr hop2), List.append_nil])
          have HSS := hide (show orSet (fl.take (k + 1)) = orSet (fl.take k) ||| r.set from by rw [HTS.out, if_pos hop2])
          clear hop0 hop2
          generalize orSet (fl.take k) = cs at *
          go_wp2
          rw [show Value.pointer (some ⟨p1, 0, none⟩) = PT p1 from rfl, show Value.pointer (some ⟨CB, 0, none⟩) = PT CB from rfl]
          obtain ⟨S, hSd⟩ : ∃ S : World → Prop, S = fun W => Below B1 w1 W := ⟨_, rfl⟩
          have hSb : ∀ W, S W → Below B1 w1 W := fun W h => by rw [hSd] at h; exact h
          have hbS : ∀ W, Below B1 w1 W → S W := fun W h => by rw [hSd]; exact h
          have hSr : ∀ W, S W → ReAt W p1 r := fun W h => HR0.out.keep (HB.out.trans ((hSb W h).mono hwB))
          have hA1 : AnyW w w1 B1 CB u3 ps cs { wr with drawn := wr.drawn + 1 } := ⟨HA.out.own, HA.out.elem, HA.out.box, ⟨HA.out.below.os, HA.out.below.tape, HA.out.below.output, HA.out.below.size, HA.out.below.block⟩⟩
          have hS := hbS _ hA1.below
          clear hSd
          refine wp_region_noPanic (wp_region_held (S := S) (by kernel_rfl) ?_)
          show wpAnyH _ _ _ _ _ 7 #[false, false, false, false, false, false, false] _ _
          generalize ({ wr with drawn := wr.drawn + 1 } : World) = W at hA1 hS ⊢
          refine h_take 1 (PT p1) rfl (by kernel_rfl) (by kernel_rfl) (by kernel_rfl) rfl (fun w hw => x_move _ _ _ _ _ _ _ _ rfl w) hS ?_
          simp only [Act.put, List.setIfInBounds_toArray, List.set_cons_succ, List.set_cons_zero]
          refine h_take 2 (PT p1) rfl (by kernel_rfl) (by kernel_rfl) (by kernel_rfl) rfl (fun w hw => x_nilCheck _ _ _ _ _ _ _ _ rfl w) hS ?_
          simp only [Act.put, List.setIfInBounds_toArray, List.set_cons_succ, List.set_cons_zero]
          refine h_take 3 (.pointer (some ⟨p1, 1, none⟩)) rfl (by kernel_rfl) (by kernel_rfl) (by kernel_rfl) rfl (fun w hw => x_field1 _ _ _ _ _ _ _ _ rfl w) hS ?_
          simp only [Act.put, List.setIfInBounds_toArray, List.set_cons_succ, List.set_cons_zero]
          refine h_take 4 (SV r.set) rfl (by kernel_rfl) (by kernel_rfl) (by kernel_rfl) rfl (fun w hw => x_loadAt _ _ _ _ _ _ _ _ _ _ rfl w (hSr w hw).cellS) hS ?_
          simp only [Act.put, List.setIfInBounds_toArray, List.set_cons_succ, List.set_cons_zero]
          refine h_alloc 0 (SV cs) W rfl (by kernel_rfl) rfl (x_loadSet _ _ _ _ _ _ _ _ cs rfl W hA1.box) hS ?_
          simp only [Act.put, List.setIfInBounds_toArray, List.set_cons_succ, List.set_cons_zero]
          refine h_callE 5 65 #[SV cs, SV r.set] (fun v w' => v = SV (cs ||| r.set) ∧ Below W.heap.size W w') rfl (by kernel_rfl) rfl (x_call2 _ _ _ _ _ _ _ _ _ _ _ _ _ rfl rfl rfl (enters_of Tryz.func65 (by kernel_rfl) rfl) _) ((or_any cs r.set _).mono fun e w' h => ⟨_, h.1, rfl, h.2⟩) (fun v w' h => hbS _ (hA1.step HB1.out h.2).below) ?_
          rintro v3 W3 ⟨rfl, hb3⟩
          simp only [Act.put, List.setIfInBounds_toArray, List.set_cons_succ, List.set_cons_zero]
          have hA3 := hA1.step HB1.out hb3
          have hA4 := hA3.store hBC (cs ||| r.set)
          refine h_step 6 (put4 W3 CB (cs ||| r.set)) rfl (by kernel_rfl) rfl (x_storeSet _ _ _ _ _ _ _ _ CB _ cs rfl rfl _ hA3.box) (hbS _ hA4.below) ?_
          simp only [Act.put, List.setIfInBounds_toArray, List.set_cons_succ, List.set_cons_zero]
          refine wpAnyH_done (by kernel_rfl) ?_ _
          refine NoPanic.normal ?_
          have HA4 := hide hA4
          clear hA1 hA3 hA4 hS hSb hbS hSr hb3
          unfold PT
          go_wp2
          exact ⟨⟨k + 1, ps, by omega, by go_num, HS.out.trans HK.out.symm, (show AnyW _ _ _ _ _ _ _ _ from by rw [HSS.out]; exact HA4.out)⟩, by simp [intOf]; omega⟩
        · have ho0 : ((r.op : Int) == 0) = false := beq_eq_false_iff_ne.2 (by omega)
          have ho2 : ((r.op : Int) == 2) = false := beq_eq_false_iff_ne.2 (by omega)
          have HK := hide (show orKeep (fl.take (k + 1)) = orKeep (fl.take k) ++ [r] from by rw [HTK.out, if_neg (by omega)])
          have HSS := hide (show orSet (fl.take (k + 1)) = orSet (fl.take k) from by rw [HTS.out, if_neg (by omega)])
          clear hop0 hop2
          have HA2 := hide (HA.out.step HB1.out ((Below.refl wr.heap.size wr).alloc (Nat.le_refl _) (.cells #[PT p1] 30)))
          have hnw := World.news_of_block (Blk.newAt (w := wr) rfl #[PT p1] 30)
          go_wp2_with (refine wpList_append_lies _ rfl _ _ _ rfl B1 _ i _ 1 8 Tryz.underlying59 hi hz0 hz1 hz2 rfl (by omega) _ _ _ rfl HA2.out.own _ 1 _ (ptrs [(p1, r)]) rfl rfl hnw (ptrs_one _) (by omega) (by unfold maxLen; omega) (by omega) (by simp; omega) _ rfl ?_; intro g cap' w4 hown hgrow hat hlt4)
          refine ⟨⟨k + 1, ps ++ [(p1, r)], by omega, by go_num, ?_, ?_⟩, by simp [intOf]; omega⟩
          · show (ps ++ [(p1, r)]).map Prod.snd = _
            rw [HK.out, List.map_append, HS.out]; rfl
          · show AnyW _ _ _ _ _ _ _ _
            rw [HSS.out]
            exact HA2.out.append HB1.out (fun p hp => by simp at hp; subst hp; exact HR0.out) hown hgrow
    · obtain rfl : k = fl.length := by omega
      rw [List.take_length] at HS HA
      have hcon : Below w.heap.size w wr := HB.out.trans (HA.out.below.mono hwB)
      have c := HA.out.box
      have HCON := hide hcon
      have HEW : Hid (∀ p ∈ ps, WfK p.2) := fun p hp => (hwf p.2 (by
        have : p.2 ∈ ps.map Prod.snd := List.mem_map.2 ⟨p, hp, rfl⟩
        rw [HS.out] at this
        exact (List.mem_filter.1 this).1)).k
      generalize hcs : orSet fl = cs at *
      have c0 := c.cell 0; have c1 := c.cell 1; have c2 := c.cell 2; have c3 := c.cell 3
      simp only [List.getElem?_toArray, List.getElem?_cons_zero, List.getElem?_cons_succ] at c0 c1 c2 c3
      clear hcon c
      go_wp2_with fail
      refine (empty_any cs _).mono ?_
      rintro e w5 ⟨rfl, hb5⟩
      have HA5 := hide (HA.out.step HB1.out hb5)
      have HC5 := hide (HCON.out.trans (hb5.mono HCON.out.size))
      clear hb5 HA HCON c0 c1 c2 c3
      by_cases he : cs = 0#256
      · rw [show (cs == 0#256) = true from by simp [he]]
        have HRE := hide (show res = if orKeep fl = [] then rNothing else rJoin 4 (ordL (orKeep fl)) from by have := HRES.out; rw [if_pos he, List.append_nil] at this; exact this)
        clear he HRES
        obtain ⟨ado, lno, capo, hu⟩ : ∃ a n c, u3 = .slice a n c := by
          rcases HA5.out.own.2 with ⟨rfl, -⟩ | ⟨g, cap, cur, rfl, -⟩ <;> exact ⟨_, _, _, rfl⟩
        have hln : lno = ps.length := by
          rcases HA5.out.own.2 with ⟨e, hn⟩ | ⟨g, cap, cur, e, -⟩
          · rw [hu] at e; injection e with _ e _; rw [e, hn]
          · rw [hu] at e; injection e
        subst hu hln
        by_cases h0 : ps.length = 0
        · have h0d : ((ps.length : Int) == 0) = true := by simp [h0]
          have HE0 : Hid (orKeep fl = []) := by
            show orKeep fl = []
            rw [← HS.out, List.eq_nil_of_length_eq_zero h0]; rfl
          clear h0
          go_wp2_with fail
          refine (nothing_any _ (HR.out.fl.mono HC5.out.size)).mono ?_
          rintro e w6 ⟨b, rfl, h1, h2⟩
          go_wp2
          go_ret
          refine ⟨b, rfl, ?_, HC5.out.trans (h2.mono HC5.out.size)⟩
          rw [HRE.out, if_pos HE0.out]; exact h1
        · have h0d : ((ps.length : Int) == 0) = false := beq_eq_false_iff_ne.2 (by omega)
          have h0' : ps ≠ [] := fun e => h0 (by rw [e]; rfl)
          have HE0 : Hid (¬ orKeep fl = []) := fun e => h0' (by have := HS.out; rw [e] at this; exact List.map_eq_nil_iff.1 this)
          obtain ⟨g, cap', c, hv, hg, hcap, hblk, hmk⟩ := HA5.out.own.ptrs (w := w) h0'
          injection hv with hv1 _ hv3
          subst hv1 hv3
          have hP := hmk fun p hp => ⟨wipe_old (HA5.out.elem p hp) HC5.out (by omega), HEW.out p hp⟩
          have hino := inOrder_any g capo ps w5 (HT.out.agree (Agree.of_all (K := fun _ => True) HC5.out) trivial) (by omega) (by omega) h0' hcap hP (HR.out.fl.mono HC5.out.size) (HR.out.fl.new (by omega))
          clear hmk h0
          go_wp2_with fail
          refine hino.mono ?_
          rintro e w6 ⟨v', rfl, hr6, e1, e2, e3, hs6, hk6⟩
          have HC6 := hide (show Below w.heap.size w w6 from ⟨e1.trans HC5.out.os, e2.trans HC5.out.tape, e3.trans HC5.out.output, Nat.le_trans HC5.out.size hs6, fun k hk => (hk6 k (by have := HC5.out.size; omega) (by omega)).trans (HC5.out.block k hk)⟩)
          rw [HS.out] at hr6
          have HR6 := hide hr6
          clear hr6 e1 e2 e3 hs6 hk6 hino hP
          go_wp2_with fail
          refine (join_any 4 _ _ _ (by omega) (by omega) HR6.out).mono ?_
          rintro e w7 ⟨b, rfl, h1, h2⟩
          go_wp2
          go_ret
          refine ⟨b, rfl, ?_, HC6.out.trans (h2.mono HC6.out.size)⟩
          rw [HRE.out, if_neg HE0.out]; exact h1
      · rw [show (cs == 0#256) = false from by simp [he]]
        have HRE := hide (show res = rJoin 4 (ordL (orKeep fl ++ [rOne cs])) from by have := HRES.out; rw [if_neg he, if_neg (by simp)] at this; exact this)
        have HCE := hide he
        clear he HRES
        have c := HA5.out.box
        have c0 := c.cell 0; have c1 := c.cell 1; have c2 := c.cell 2; have c3 := c.cell 3
        simp only [List.getElem?_toArray, List.getElem?_cons_zero, List.getElem?_cons_succ] at c0 c1 c2 c3
        clear c
        go_wp2_with fail
        refine (one_any cs _ (HR.out.fl.mono HC5.out.size)).mono ?_
        rintro e w6 ⟨ob, rfl, h6, hb6⟩
        have HA6 := hide (HA5.out.step HB1.out hb6)
        have HC6 := hide (HC5.out.trans (hb6.mono HC5.out.size))
        have H6 := hide h6
        clear h6 hb6 HA5 HC5 c0 c1 c2 c3
        have HA7 := hide (HA6.out.step HB1.out ((Below.refl w6.heap.size w6).alloc (Nat.le_refl _) (.cells #[PT ob] 30)))
        have HC7 := hide (HC6.out.alloc HC6.out.size (.cells #[PT ob] 30))
        have H7 := hide (H6.out.keep ((Below.refl w6.heap.size w6).alloc (Nat.le_refl _) (.cells #[PT ob] 30)))
        have hnw := World.news_of_block (Blk.newAt (w := w6) rfl #[PT ob] 30)
        have hB6 : B1 ≤ w6.heap.size := by rw [HB1.out]; exact HA6.out.below.size
        have hne1 : ((ps.length : Int) + 1 == 0) = false := beq_eq_false_iff_ne.2 (by omega)
        unfold PT
        go_wp2_with (refine wpList_append_lies _ rfl _ _ _ rfl B1 _ i _ 1 8 Tryz.underlying59 hi hz0 hz1 hz2 rfl (by omega) _ _ _ rfl HA7.out.own _ 1 _ (ptrs [(ob, rOne cs)]) rfl rfl hnw (ptrs_one _) (by omega) (by unfold maxLen; omega) (by omega) (by simp; omega) _ rfl ?_; intro g cap' w8 hown hgrow hat hlt8)
        have hO8 : OwnP w8 B1 (.slice (some ⟨g, 0, none⟩) (ps.length + 1) cap') (ps ++ [(ob, rOne cs)]) := by
          unfold OwnP
          rw [List.length_append, show ptrs (ps ++ [(ob, rOne cs)]) = ptrs ps ++ ptrs [(ob, rOne cs)] from by simp [ptrs]]
          exact hown
        have hC8 : Below w.heap.size w w8 := by
          have hb8 := below_grown HA7.out.below hgrow HA7.out.own (Nat.le_of_eq HB1.out)
          exact HB.out.trans (hb8.mono hwB)
        have hr8 : ReAt w8 ob (rOne cs) := HA7.out.own.leaf hgrow H7.out (rOne_kids cs)
        obtain ⟨g', cap'', c, hv, hg, hcap, hblk, hmk⟩ := hO8.ptrs (w := w) (by simp)
        have hgg : g = g' ∧ cap' = cap'' := by
          injection hv with h1 h2 h3
          injection h1 with h1
          injection h1 with h1
          exact ⟨h1, h3⟩
        obtain ⟨rfl, rfl⟩ := hgg
        clear hv
        have hP := hmk fun p hp => by
          rcases List.mem_append.1 hp with hp | hp
          · exact ⟨wipe_old (HA7.out.elem p hp) hC8 (by omega), HEW.out p hp⟩
          · simp at hp; subst hp
            exact ⟨wipe_leaf hr8 (rOne_kids cs) hblk, (wf_one cs).k⟩
        have hino := inOrder_any g cap' (ps ++ [(ob, rOne cs)]) w8 (HT.out.agree (Agree.of_all (K := fun _ => True) hC8) trivial) (by omega) (by simp; omega) (by simp) hcap hP (HR.out.fl.mono hC8.size) (HR.out.fl.new (by omega))
        rw [List.length_append] at hino
        have HC8 := hide hC8
        clear hmk hO8 hC8 hr8 hown hgrow hat hne1 hcap hblk hnw HA6 HC6 H6 HA7 HC7 H7 hlt8
        refine hino.mono ?_
        rintro e w9 ⟨v', rfl, hr9, e1, e2, e3, hs9, hk9⟩
        have HC9 := hide (show Below w.heap.size w w9 from ⟨e1.trans HC8.out.os, e2.trans HC8.out.tape, e3.trans HC8.out.output, Nat.le_trans HC8.out.size hs9, fun k hk => (hk9 k (by have := HC8.out.size; omega) (by omega)).trans (HC8.out.block k hk)⟩)
        rw [List.map_append, HS.out] at hr9
        have HR9 := hide hr9
        clear hr9 e1 e2 e3 hs9 hk9 hino hP
        go_wp2_with fail
        refine (join_any 4 _ _ _ (by omega) (by omega) HR9.out).mono ?_
        rintro e w10 ⟨b, rfl, h1, h2⟩
        go_wp2
        go_ret
        refine ⟨b, rfl, ?_, HC9.out.trans (h2.mono HC9.out.size)⟩
        rw [HRE.out]; exact h1
end Go.Proofs.YtjcfnmjjkadaeaaGreatDoor
/- Many, But. -/
namespace Go.Proofs.YtjcfnmjjkadaeaaGreatDoor
set_option maxRecDepth 100000
set_option linter.unusedSimpArgs false
set_option linter.unusedVariables false
open Go.RowKit

def rMany (r : RE) : RE := if r.op = 0 ∨ r.op = 1 then rEmpty else if r.op = 5 then r else .mk 5 0#256 [r]
theorem resRow_one [Forb] {w : World} {b : Nat} {r : RE} {g : Nat} (hg : Blk w g #[PT b] 30) (h : ReAt w b r) (hno : ¬ Forb.no g) : ResRow w (.slice (some ⟨g, 0, none⟩) 1 1) [r] :=
  ⟨fun _ => b, ⟨⟨by simp, .of (Nat.le_refl _) h.fl (fun ad e _ => by injection e with e; subst e; exact hno)⟩, _, 1, rfl, fun k hk => ⟨g, 0, rfl, hg.lt, by
    have hk2 : k = 0 := by simp at hk; omega
    subst hk2
    exact hg.cell 0⟩⟩, fun i k hk => by
    have : i = 0 := by have := (List.getElem?_eq_some_iff.1 hk).1; simp at this; omega
    subst this; simp at hk; subst hk; exact h⟩
theorem resRow_two [Forb] {w : World} {a b : Nat} {r o : RE} {g : Nat} (hg : Blk w g #[PT a, PT b] 30) (h : ReAt w a r) (h' : ReAt w b o) (hno : ¬ Forb.no g) : ResRow w (.slice (some ⟨g, 0, none⟩) 2 2) [r, o] :=
  ⟨fun i => if i = 0 then a else b, ⟨⟨by simp, .of (Nat.le_refl _) h.fl (fun ad e _ => by injection e with e; subst e; exact hno)⟩, _, 2, rfl, fun k hk => ⟨g, 0, rfl, hg.lt, by
    have hk2 : k = 0 ∨ k = 1 := by simp at hk; omega
    rcases hk2 with rfl | rfl
    · exact hg.cell 0
    · exact hg.cell 1⟩⟩, fun i k hk => by
    have hi : i = 0 ∨ i = 1 := by have := (List.getElem?_eq_some_iff.1 hk).1; simp at this; omega
    rcases hi with rfl | rfl
    · simp at hk; subst hk; exact h
    · simp at hk; subst hk; exact h'⟩
set_option maxHeartbeats 1000000 in
theorem many_any [Forb] (b : Nat) (r : RE) (w : World) (h : ReAt w b r) :
    Calls Tryz.prog 36 #[PT b] w fun e w' => ∃ b', e = .returned (PT b') ∧ ReAt w' b' (rMany r) ∧ Below w.heap.size w w' := by
  have c0 := h.cell0
  obtain ⟨res, hres⟩ : ∃ res, res = rMany r := ⟨_, rfl⟩
  rw [← hres]
  unfold rMany at hres
  have HRES := hide hres
  have HR := hide h
  clear hres h
  go_enter Tryz.func36, Tryz.ntmps36
  go_wp2_with fail
  refine (settled_any b r w HR.out).mono ?_
  rintro e w1 ⟨rfl, rfl⟩
  unfold PT
  by_cases h0 : r.op = 0
  · have e0 : ((r.op : Int) == 0) = true := by simp [h0]
    have HX := hide (show res = rEmpty from by have := HRES.out; rw [if_pos (.inl h0)] at this; exact this)
    clear h0
    go_wp2_with fail
    refine (empty_re _ HR.out.fl).mono ?_
    rintro e w2 ⟨b', rfl, h1, h2⟩
    go_wp2
    go_ret
    exact ⟨b', rfl, by rw [HX.out]; exact h1, h2⟩
  · have e0 : ((r.op : Int) == 0) = false := beq_eq_false_iff_ne.2 (by omega)
    by_cases h1 : r.op = 1
    · have e1 : ((r.op : Int) == 1) = true := by simp [h1]
      have HX := hide (show res = rEmpty from by have := HRES.out; rw [if_pos (.inr h1)] at this; exact this)
      clear h0 h1
      go_wp2_with fail
      refine (empty_re _ HR.out.fl).mono ?_
      rintro e w2 ⟨b', rfl, h1, h2⟩
      go_wp2
      go_ret
      exact ⟨b', rfl, by rw [HX.out]; exact h1, h2⟩
    · have e1 : ((r.op : Int) == 1) = false := beq_eq_false_iff_ne.2 (by omega)
      by_cases h5 : r.op = 5
      · have e5 : ((r.op : Int) == 5) = true := by simp [h5]
        have HX := hide (show res = r from by have := HRES.out; rw [if_neg (by omega), if_pos h5] at this; exact this)
        clear h0 h1 h5
        go_wp2
        go_ret
        exact ⟨b, rfl, by rw [HX.out]; exact HR.out, Below.refl _ _⟩
      · have e5 : ((r.op : Int) == 5) = false := beq_eq_false_iff_ne.2 (by omega)
        have HX := hide (show res = .mk 5 0#256 [r] from by have := HRES.out; rw [if_neg (by omega), if_neg h5] at this; exact this)
        clear h0 h1 h5
        go_wp2_with fail
        have hb := (Below.refl w1.heap.size w1).alloc (Nat.le_refl _) (.cells #[PT b] 30)
        refine (made_any 5 0#256 [r] _ _ (by omega) (by omega) (resRow_one (Blk.newAt rfl #[PT b] 30) (HR.out.keep hb) (HR.out.fl.new (Nat.le_refl _)))).mono ?_
        rintro e w2 ⟨b', rfl, h1, h2⟩
        go_wp2
        go_ret
        exact ⟨b', rfl, by rw [HX.out]; exact h1, hb.trans (h2.mono (by simp))⟩

def rBut (a b : RE) : RE := if a.op = 0 ∨ b.op = 0 then a else if a.op = 2 ∧ b.op = 2 then rOne (a.set &&& ~~~b.set) else if lexN a.key b.key = 0 then rNothing else .mk 7 0#256 [a, b]
set_option maxHeartbeats 1000000 in
theorem but_any [Forb] (b b' : Nat) (r o : RE) (w : World) (h : ReAt w b r) (h' : ReAt w b' o) (hr : WfK r) (ho : WfK o) (hT : TabAt w) :
    Calls Tryz.prog 53 #[PT b, PT b'] w fun e w' => ∃ c, e = .returned (PT c) ∧ ReAt w' c (rBut r o) ∧ Below w.heap.size w w' := by
  have c0 := h.cell0
  have d0 := h'.cell0
  obtain ⟨res, hres⟩ : ∃ res, res = rBut r o := ⟨_, rfl⟩
  rw [← hres]
  unfold rBut at hres
  have HRES := hide hres
  have HR := hide h
  have HO := hide h'
  have HT := hide hT
  clear hres h h' hT
  go_enter Tryz.func53, Tryz.ntmps53
  go_wp2_with fail
  refine (settled_any b r w HR.out).mono ?_
  rintro e w1 ⟨rfl, rfl⟩
  go_wp2_with fail
  refine (settled_any b' o _ HO.out).mono ?_
  rintro e w1 ⟨rfl, rfl⟩
  unfold PT
  by_cases h0 : r.op = 0
  · have e0 : ((r.op : Int) == 0) = true := by simp [h0]
    have HX := hide (show res = r from by have := HRES.out; rw [if_pos (.inl h0)] at this; exact this)
    clear h0
    go_wp2
    go_ret
    exact ⟨b, rfl, by rw [HX.out]; exact HR.out, Below.refl _ _⟩
  · have e0 : ((r.op : Int) == 0) = false := beq_eq_false_iff_ne.2 (by omega)
    by_cases k0 : o.op = 0
    · have f0 : ((o.op : Int) == 0) = true := by simp [k0]
      have HX := hide (show res = r from by have := HRES.out; rw [if_pos (.inr k0)] at this; exact this)
      clear h0 k0
      go_wp2
      go_ret
      exact ⟨b, rfl, by rw [HX.out]; exact HR.out, Below.refl _ _⟩
    · have f0 : ((o.op : Int) == 0) = false := beq_eq_false_iff_ne.2 (by omega)
      have HX := hide (show res = if r.op = 2 ∧ o.op = 2 then rOne (r.set &&& ~~~o.set) else if lexN r.key o.key = 0 then rNothing else .mk 7 0#256 [r, o] from by have := HRES.out; rw [if_neg (by omega)] at this; exact this)
      clear h0 k0 HRES
      by_cases h22 : r.op = 2 ∧ o.op = 2
      · have e2 : ((r.op : Int) == 2) = true := by simp [h22.1]
        have f2 : ((o.op : Int) == 2) = true := by simp [h22.2]
        have HY := hide (show res = rOne (r.set &&& ~~~o.set) from by have := HX.out; rw [if_pos h22] at this; exact this)
        clear h22 HX
        go_wp2
        rw [show Value.pointer (some ⟨b, 0, none⟩) = PT b from rfl, show Value.pointer (some ⟨b', 0, none⟩) = PT b' from rfl]
        obtain ⟨S, hSd⟩ : ∃ S : World → Prop, S = fun W => Below w1.heap.size w1 W := ⟨_, rfl⟩
        have hSb : ∀ W, S W → Below w1.heap.size w1 W := fun W h => by rw [hSd] at h; exact h
        have hbS : ∀ W, Below w1.heap.size w1 W → S W := fun W h => by rw [hSd]; exact h
        have hS : S { w1 with drawn := w1.drawn + 1 } := hbS _ ⟨rfl, rfl, rfl, Nat.le_refl _, fun _ _ => rfl⟩
        clear hSd
        refine wp_region_noPanic (wp_region_held (S := S) (by kernel_rfl) ?_)
        show wpAnyH _ _ _ _ _ 11 #[false, false, false, false, false, false, false, false, false, false, false] _ _
        generalize ({ w1 with drawn := w1.drawn + 1 } : World) = W at hS ⊢
        refine h_take 0 (PT b) rfl (by kernel_rfl) (by kernel_rfl) (by kernel_rfl) rfl (fun w hw => x_move _ _ _ _ _ _ _ _ rfl w) hS ?_
        simp only [Act.put, List.setIfInBounds_toArray, List.set_cons_succ, List.set_cons_zero]
        refine h_take 1 (PT b) rfl (by kernel_rfl) (by kernel_rfl) (by kernel_rfl) rfl (fun w hw => x_nilCheck _ _ _ _ _ _ _ _ rfl w) hS ?_
        simp only [Act.put, List.setIfInBounds_toArray, List.set_cons_succ, List.set_cons_zero]
        refine h_take 2 (.pointer (some ⟨b, 1, none⟩)) rfl (by kernel_rfl) (by kernel_rfl) (by kernel_rfl) rfl (fun w hw => x_field1 _ _ _ _ _ _ _ _ rfl w) hS ?_
        simp only [Act.put, List.setIfInBounds_toArray, List.set_cons_succ, List.set_cons_zero]
        refine h_take 3 (SV r.set) rfl (by kernel_rfl) (by kernel_rfl) (by kernel_rfl) rfl (fun w hw => x_loadAt _ _ _ _ _ _ _ _ _ _ rfl w (HR.out.keep (hSb w hw)).cellS) hS ?_
        simp only [Act.put, List.setIfInBounds_toArray, List.set_cons_succ, List.set_cons_zero]
        refine h_take 4 (PT b') rfl (by kernel_rfl) (by kernel_rfl) (by kernel_rfl) rfl (fun w hw => x_move _ _ _ _ _ _ _ _ rfl w) hS ?_
        simp only [Act.put, List.setIfInBounds_toArray, List.set_cons_succ, List.set_cons_zero]
        refine h_take 5 (PT b') rfl (by kernel_rfl) (by kernel_rfl) (by kernel_rfl) rfl (fun w hw => x_nilCheck _ _ _ _ _ _ _ _ rfl w) hS ?_
        simp only [Act.put, List.setIfInBounds_toArray, List.set_cons_succ, List.set_cons_zero]
        refine h_take 6 (.pointer (some ⟨b', 1, none⟩)) rfl (by kernel_rfl) (by kernel_rfl) (by kernel_rfl) rfl (fun w hw => x_field1 _ _ _ _ _ _ _ _ rfl w) hS ?_
        simp only [Act.put, List.setIfInBounds_toArray, List.set_cons_succ, List.set_cons_zero]
        refine h_take 7 (SV o.set) rfl (by kernel_rfl) (by kernel_rfl) (by kernel_rfl) rfl (fun w hw => x_loadAt _ _ _ _ _ _ _ _ _ _ rfl w (HO.out.keep (hSb w hw)).cellS) hS ?_
        simp only [Act.put, List.setIfInBounds_toArray, List.set_cons_succ, List.set_cons_zero]
        refine h_callE 8 86 #[SV r.set, SV o.set] (fun v w' => v = SV (r.set &&& ~~~o.set) ∧ Below w1.heap.size w1 w') rfl (by kernel_rfl) rfl (x_call2 _ _ _ _ _ _ _ _ _ _ _ _ _ rfl rfl rfl (enters_of Tryz.func86 (by kernel_rfl) rfl) _) ((minus_any r.set o.set _).mono fun e w' h => ⟨_, h.1, rfl, (hSb _ hS).trans (h.2.mono (hSb _ hS).size)⟩) (fun v w' h => hbS _ h.2) ?_
        rintro v3 W3 ⟨rfl, hb3⟩
        simp only [Act.put, List.setIfInBounds_toArray, List.set_cons_succ, List.set_cons_zero]
        refine h_callE 9 49 #[SV (r.set &&& ~~~o.set)] (fun v w' => ∃ c, v = PT c ∧ ReAt w' c (rOne (r.set &&& ~~~o.set)) ∧ Below w1.heap.size w1 w') rfl (by kernel_rfl) rfl (x_call1 _ _ _ _ _ _ _ _ _ _ rfl rfl (enters_of Tryz.func49 (by kernel_rfl) rfl) _) ((one_any _ _ (HR.out.fl.mono hb3.size)).mono fun e w' ⟨c, h1, h2, h3⟩ => ⟨_, h1, c, rfl, h2, hb3.trans (h3.mono hb3.size)⟩) (fun v w' ⟨c, _, _, h⟩ => hbS _ h) ?_
        rintro v4 W4 ⟨c, rfl, h4, hb4⟩
        simp only [Act.put, List.setIfInBounds_toArray, List.set_cons_succ, List.set_cons_zero]
        have hS4 := hbS _ hb4
        refine h_take 10 (PT c) rfl (by kernel_rfl) (by kernel_rfl) (by kernel_rfl) rfl (fun w hw => x_assign _ _ _ _ _ _ _ _ rfl w) hS4 ?_
        simp only [Act.put, List.setIfInBounds_toArray, List.set_cons_succ, List.set_cons_zero]
        refine wpAnyH_done (by kernel_rfl) ?_ _
        refine NoPanic.normal ?_
        have H4 := hide h4
        have HB4 := hide hb4
        clear hS hSb hbS hb3 h4 hb4 hS4
        go_wp2
        go_ret
        exact ⟨c, rfl, by rw [HY.out]; exact H4.out, HB4.out⟩
      · have HY := hide (show res = if lexN r.key o.key = 0 then rNothing else .mk 7 0#256 [r, o] from by have := HX.out; rw [if_neg h22] at this; exact this)
        have hsame := same_re r o b b' w1 hr ho HR.out HO.out HT.out
        have hgo : ∀ (P : Prop), (((r.op : Int) == 2) = true → ((o.op : Int) == 2) = false → P) → (((r.op : Int) == 2) = false → P) → P := fun P h1 h2 => by
          by_cases e : r.op = 2
          · exact h1 (by simp [e]) (beq_eq_false_iff_ne.2 (by omega))
          · exact h2 (beq_eq_false_iff_ne.2 (by omega))
        clear h22 HX
        refine hgo _ (fun e2 f2 => ?_) (fun e2 => ?_)
        · go_wp2_with fail
          refine hsame.mono ?_
          rintro e w2 ⟨rfl, hm⟩
          have HM := hide hm
          clear hm hsame hgo
          by_cases hz : lexN r.key o.key = 0
          · rw [show (lexN r.key o.key == 0) = true from by simp [hz]]
            have HZ := hide (show res = rNothing from by have := HY.out; rw [if_pos hz] at this; exact this)
            clear hz HY
            go_wp2_with fail
            refine (nothing_any _ (HR.out.fl.mono HM.out.below.size)).mono ?_
            rintro e w3 ⟨c, rfl, h1, h2⟩
            go_wp2
            go_ret
            exact ⟨c, rfl, by rw [HZ.out]; exact h1, HM.out.below.trans (h2.mono HM.out.below.size)⟩
          · rw [show (lexN r.key o.key == 0) = false from beq_eq_false_iff_ne.2 hz]
            have HZ := hide (show res = .mk 7 0#256 [r, o] from by have := HY.out; rw [if_neg hz] at this; exact this)
            clear hz HY
            go_wp2_with fail
            have hb := (Below.refl w2.heap.size w2).alloc (Nat.le_refl _) (.cells #[PT b, PT b'] 30)
            refine (made_any 7 0#256 [r, o] _ _ (by omega) (by simp) (resRow_two (Blk.newAt rfl #[PT b, PT b'] 30) ((HR.out.keep HM.out.below).keep hb) ((HO.out.keep HM.out.below).keep hb) ((HR.out.fl.mono HM.out.below.size).new (Nat.le_refl _)))).mono ?_
            rintro e w3 ⟨c, rfl, h1, h2⟩
            go_wp2
            go_ret
            exact ⟨c, rfl, by rw [HZ.out]; exact h1, HM.out.below.trans ((hb.trans (h2.mono (by simp))).mono HM.out.below.size)⟩
        · go_wp2_with fail
          refine hsame.mono ?_
          rintro e w2 ⟨rfl, hm⟩
          have HM := hide hm
          clear hm hsame hgo
          by_cases hz : lexN r.key o.key = 0
          · rw [show (lexN r.key o.key == 0) = true from by simp [hz]]
            have HZ := hide (show res = rNothing from by have := HY.out; rw [if_pos hz] at this; exact this)
            clear hz HY
            go_wp2_with fail
            refine (nothing_any _ (HR.out.fl.mono HM.out.below.size)).mono ?_
            rintro e w3 ⟨c, rfl, h1, h2⟩
            go_wp2
            go_ret
            exact ⟨c, rfl, by rw [HZ.out]; exact h1, HM.out.below.trans (h2.mono HM.out.below.size)⟩
          · rw [show (lexN r.key o.key == 0) = false from beq_eq_false_iff_ne.2 hz]
            have HZ := hide (show res = .mk 7 0#256 [r, o] from by have := HY.out; rw [if_neg hz] at this; exact this)
            clear hz HY
            go_wp2_with fail
            have hb := (Below.refl w2.heap.size w2).alloc (Nat.le_refl _) (.cells #[PT b, PT b'] 30)
            refine (made_any 7 0#256 [r, o] _ _ (by omega) (by simp) (resRow_two (Blk.newAt rfl #[PT b, PT b'] 30) ((HR.out.keep HM.out.below).keep hb) ((HO.out.keep HM.out.below).keep hb) ((HR.out.fl.mono HM.out.below.size).new (Nat.le_refl _)))).mono ?_
            rintro e w3 ⟨c, rfl, h1, h2⟩
            go_wp2
            go_ret
            exact ⟨c, rfl, by rw [HZ.out]; exact h1, HM.out.below.trans ((hb.trans (h2.mono (by simp))).mono HM.out.below.size)⟩
end Go.Proofs.YtjcfnmjjkadaeaaGreatDoor
