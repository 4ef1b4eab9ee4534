/- Texts of this claim put together: SetRow, DvG, MathLang, MathLang2, MathDv3, DvF, LawHead5. -/
import Derived.Test.YthemadegffhmfaaDoorJoinOpenS
import Derived.Deep.AppendLies
import Derived.Test.YthemadegffhmfaaDoorJoinDvE
/- Rows of sets of one's own: append. -/
namespace Go.Proofs.YthemadegffhmfaaDoor
set_option maxRecDepth 100000
set_option linter.unusedSimpArgs false
set_option linter.unusedVariables false
open Go.RowKit

def enc4 (s : BitVec 256) : List Value := [.int .u64 (wd s 0), .int .u64 (wd s 1), .int .u64 (wd s 2), .int .u64 (wd s 3)]
def flat4 (l : List (BitVec 256)) : List Value := l.flatMap enc4
theorem flat4_length (l : List (BitVec 256)) : (flat4 l).length = l.length * 4 := by
  induction l with
  | nil => rfl
  | cons x r ih => simp [flat4, enc4] at ih ⊢; omega
theorem flat4_append (a b : List (BitVec 256)) : flat4 (a ++ b) = flat4 a ++ flat4 b := by simp [flat4]
theorem flat4_get (l : List (BitVec 256)) : ∀ (k : Nat), k < l.length → ∀ j, j < 4 → (flat4 l)[k * 4 + j]? = some (.int .u64 (wd (l.getD k 0) j)) := by
  induction l with
  | nil => intro k hk; simp at hk
  | cons x r ih =>
    intro k hk j hj
    rw [show flat4 (x :: r) = enc4 x ++ flat4 r from by simp [flat4]]
    cases k with
    | zero =>
      rw [List.getElem?_append_left (by simp [enc4]; omega)]
      simp
      match j, hj with
      | 0, _ => rfl
      | 1, _ => rfl
      | 2, _ => rfl
      | 3, _ => rfl
    | succ k =>
      rw [List.getElem?_append_right (by simp [enc4]; omega), show (k + 1) * 4 + j - (enc4 x).length = k * 4 + j from by simp [enc4]; omega, ih k (by simpa using hk) j hj]
      simp
theorem flat4_one : ∀ (l : List (BitVec 256)), ∀ u ∈ flat4 l, u.oneCell' = true := by
  intro l u hu
  obtain ⟨s, -, hs⟩ := List.mem_flatMap.1 hu
  simp [enc4] at hs
  rcases hs with rfl | rfl | rfl | rfl <;> rfl
/-- A row of sets of its own. -/
def Own4 (W : World) (base : Nat) (v : Value) (l : List (BitVec 256)) : Prop := W.ownsRow base 39 4 v l.length (flat4 l)
theorem Own4.nil (W : World) (base : Nat) : Own4 W base (.slice none 0 0) [] := ⟨rfl, .inl ⟨rfl, rfl⟩⟩
theorem Own4.keep {W W' : World} {base : Nat} {v : Value} {l : List (BitVec 256)} (h : Own4 W base v l) (hb : Below W.heap.size W W') : Own4 W' base v l := own_below h hb
theorem Own4.lower {W : World} {base base' : Nat} {v : Value} {l : List (BitVec 256)} (h : Own4 W base v l) (hb : base' ≤ base) : Own4 W base' v l := by
  refine ⟨h.1, ?_⟩
  rcases h.2 with h2 | ⟨g, cap, cur, h1, h2, h3⟩
  · exact .inl h2
  · exact .inr ⟨g, cap, cur, h1, Nat.le_trans hb h2, h3⟩
theorem Own4.slice {W : World} {base : Nat} {v : Value} {l : List (BitVec 256)} (h : Own4 W base v l) : ∃ a cap, v = .slice a l.length cap ∧ l.length ≤ cap := by
  rcases h.2 with ⟨rfl, h0⟩ | ⟨g, cap, cur, h1, h2, h3, h4, -⟩
  · rw [h0]; exact ⟨none, 0, rfl, by omega⟩
  · exact ⟨_, _, h1, h4⟩
theorem Own4.row {W : World} {base : Nat} {v : Value} {l : List (BitVec 256)} (h : Own4 W base v l) (hl : l.length ≤ 9223372036854775807) : SetsRow W v l := by
  rcases h.2 with ⟨rfl, e⟩ | ⟨g, cap, cur, rfl, hb, hg, h1, h2, h3, h4⟩
  · exact ⟨hl, none, 0, by rw [e], fun k hk => by omega⟩
  · refine ⟨hl, _, cap, rfl, fun k hk => ⟨g, 0, rfl, (Array.getElem?_eq_some_iff.1 hg).1, fun j hj => ?_⟩⟩
    have hblk : Blk W g cur 39 := hg
    rw [hblk.cell, Nat.zero_add, ← flat4_get l k hk j hj, ← h4, List.getElem?_take, if_pos (by omega)]
    simp
theorem own4_new {W : World} {g : Nat} {base : Nat} (s : BitVec 256) (hg : Blk W g (WS s) 39) (hb : base ≤ g) : Own4 W base (.slice (some ⟨g, 0, none⟩) 1 1) [s] :=
  ⟨by simp [flat4, enc4], .inr ⟨g, 1, WS s, rfl, hb, hg, by simp, by unfold maxLen; omega, rfl, by simp [flat4, enc4, WS]⟩⟩
theorem own4_empty {W : World} {g : Nat} {base : Nat} (hg : Blk W g #[] 39) (hb : base ≤ g) : Own4 W base (.slice (some ⟨g, 0, none⟩) 0 0) [] :=
  ⟨rfl, .inr ⟨g, 0, #[], rfl, hb, hg, by simp, by unfold maxLen; omega, rfl, rfl⟩⟩
theorem info4 : (Tryd.prog.info? 39).map (fun i => (i.zero, i.size, i.bytes)) = some (some (.agg #[.int .u64 0, .int .u64 0, .int .u64 0, .int .u64 0]), 4, 32) := by kernel_rfl
/-- What lies in a row of sets, cell by cell. -/
theorem SetsRow.cells {w : World} {v : Value} {l : List (BitVec 256)} (h : SetsRow w v l) (h0 : 0 < l.length) : ∃ b off cap, v = .slice (some ⟨b, off, none⟩) l.length cap ∧ ∀ j u, (flat4 l)[j]? = some u → w.cell? ((⟨b, off, none⟩ : Addr).add j) = some u := by
  obtain ⟨h1, a, cap, rfl, h2⟩ := h
  obtain ⟨b, off, rfl, -, -⟩ := h2 0 h0
  refine ⟨b, off, cap, rfl, fun j u hu => ?_⟩
  have hj : j < l.length * 4 := by rw [← flat4_length]; exact (List.getElem?_eq_some_iff.1 hu).1
  obtain ⟨b', off', e, -, hc⟩ := h2 (j / 4) (by omega)
  injection e with e; injection e with e1 e2
  subst e1 e2
  have h3 := hc (j % 4) (by omega)
  have h4 := flat4_get l (j / 4) (by omega) (j % 4) (by omega)
  rw [show j / 4 * 4 + j % 4 = j from by omega, hu] at h4
  rw [Go.WideShapes.add_plain, show off + j = off + j / 4 * 4 + j % 4 from by omega, h3]
  exact h4.symm
/-- append of sets. -/
theorem run_append4 {W : World} {base : Nat} {v u : Value} {xs ys : List (BitVec 256)} (h : Own4 W base v xs) (hu : SetsRow W u ys) (ty : TypeId) (hl : xs.length + ys.length ≤ 1099511627776) (hbase : base ≤ W.heap.size) :
    ∃ v' W', (Builtin.append_ #[44, 44] ty #[v, u]).run Tryd.prog W = .ok v' W' ∧ Own4 W' base v' (xs ++ ys) ∧ ∀ w0 N, N ≤ base → N ≤ w0.heap.size → Below N w0 W → Below N w0 W' := by
  obtain ⟨i, hi, hz0, hz1, hz2⟩ := info_parts info4
  rcases Nat.eq_zero_or_pos ys.length with h0 | h0
  · obtain rfl : ys = [] := List.length_eq_zero_iff.1 h0
    obtain ⟨a, cap, rfl, hcap⟩ := h.slice
    obtain ⟨-, ua, uc, rfl, -⟩ := hu
    have hs : Src Tryd.prog i.size 44 (.slice ua ([] : List (BitVec 256)).length uc) 0 [] W := by
      cases ua with
      | none => exact Src.ofNil (w := W) Tryd.underlying44 uc
      | some a => exact Src.ofSlice (w := W) Tryd.underlying44 a 0 uc [] (by simp) (by simp) (by simp)
    exact ⟨_, W, run_append_nothing W _ _ _ 39 i Tryd.underlying44 hi a xs.length cap hcap _ hs, by rw [List.append_nil]; exact h, fun _ _ _ _ h => h⟩
  · obtain ⟨b, off, c, rfl, hc⟩ := hu.cells h0
    obtain ⟨g, cap, w', hr, h2, h3, -, -⟩ := run_append_lies (P := Tryd.prog) W 44 ty base 39 i _ 4 32 Tryd.underlying44 hi hz0 hz1 hz2 rfl (by omega) v xs.length (flat4 xs) h ⟨b, off, none⟩ ys.length c (flat4 ys) (flat4_length ys) hc (flat4_one ys) h0 (by unfold maxLen; omega) (by omega) hbase _ rfl
    refine ⟨_, w', hr, ?_, fun w0 N hN hN0 hb => below_grown hb h3 (h.lower hN) hN0⟩
    unfold Own4
    rw [List.length_append, flat4_append]
    exact h2
end Go.Proofs.YthemadegffhmfaaDoor
/- package deriv: the sets of an expression. -/
namespace Go.Proofs.YthemadegffhmfaaDoor
set_option maxRecDepth 100000
set_option linter.unusedSimpArgs false
set_option linter.unusedVariables false
open Go.RowKit

/-- How many kids are asked: all, or those in which a first byte can lie. -/
def pickN (f : Bool) (o : Nat) (ks : List RE) : Nat := if f = true ∧ o = 3 then leadN ks else ks.length
def RE.sts (f : Bool) : RE → List (BitVec 256)
  | .mk o s ks => if o = 2 then [s] else ((ks.map fun k => k.sts f).take (pickN f o ks)).flatten
theorem RE.sts_mk (f : Bool) (o : Nat) (s : BitVec 256) (ks : List RE) : (RE.mk o s ks).sts f = if o = 2 then [s] else ((ks.map (RE.sts f)).take (pickN f o ks)).flatten := by rw [RE.sts]
def stsN (f : Bool) (l : List RE) (k : Nat) : List (BitVec 256) := ((l.map (RE.sts f)).take k).flatten
theorem stsN_succ (f : Bool) (l : List RE) (k : Nat) (h : k < l.length) : stsN f l (k + 1) = stsN f l k ++ (l[k]).sts f := by
  unfold stsN
  rw [List.take_succ_eq_append_getElem (by simpa using h), List.flatten_append, List.getElem_map]
  simp
theorem stsN_all (f : Bool) (l : List RE) : stsN f l l.length = (l.map (RE.sts f)).flatten := by
  unfold stsN
  rw [List.take_of_length_le (by simp)]
theorem pickN_le (f : Bool) (o : Nat) (ks : List RE) : pickN f o ks ≤ ks.length := by
  unfold pickN
  split
  · exact leadN_le ks
  · exact Nat.le_refl _
theorem flatten_le (f : Bool) : ∀ (l : List RE) (k : Nat), (∀ r ∈ l, (r.sts f).length ≤ r.cnt) → (((l.map (RE.sts f)).take k).flatten).length ≤ cntL l
  | [], k, _ => by simp
  | x :: l, 0, _ => by simp
  | x :: l, k + 1, h => by
    have ih := flatten_le f l k (fun r hr => h r (by simp [hr]))
    have h0 := h x (by simp)
    rw [List.map_cons, List.take_succ_cons, List.flatten_cons, List.length_append, cntL_cons]
    omega
theorem sts_le (f : Bool) (r : RE) : (r.sts f).length ≤ r.cnt := by
  induction r using RE.ind with
  | h o s ks ih =>
    rw [RE.sts_mk, RE.cnt_mk]
    split
    · simp
    · have := flatten_le f ks (pickN f o ks) ih
      omega

set_option maxHeartbeats 1000000 in
theorem appendSets_any (f : Bool) (fid : FuncId) (ent : ∀ args w, (callFunc fid args).run Tryd.prog w = .ok (.enter fid args) w)
    (hpick : ∀ r p W, ReAt W p r → ∃ v, ResRow W v (r.kids.take (pickN f r.op r.kids)) ∧ ∀ W', Below W.heap.size W W' → Calls Tryd.prog fid #[PT p] W' fun e w' => e = .returned v ∧ w' = W') (r : RE) :
    ∀ (p : Nat) (v : Value) (xs : List (BitVec 256)) (w0 w : World) (N : Nat), ReAt w0 p r → N = w0.heap.size → Below N w0 w → Own4 w N v xs → xs.length + (r.sts f).length ≤ 1099511627776 →
    Calls Tryd.prog 47 #[v, PT p, .func (.func fid) #[] #[]] w fun e w' => ∃ v', e = .returned v' ∧ Own4 w' N v' (xs ++ r.sts f) ∧ Below N w0 w' := by
  induction r using RE.ind with
  | h o s ks ih =>
    intro p v xs w0 w N h0 hN hb hown hl
    have h := h0.keep (hN ▸ hb)
    obtain ⟨v1, hrow, hcall⟩ := hpick _ p w0 h0
    have HP := hide (hcall w (hN ▸ hb))
    have HROW := hide hrow
    have HIH := hide ih
    have H0 := hide h0
    have HN := hide hN
    have HB := hide hb
    have HO := hide hown
    have c0 := h.cell0
    have HS := hide h.cellS
    obtain ⟨av, cv, rfl, -⟩ := hown.slice
    simp only [RE.op, RE.set, RE.kids] at c0 HS HROW
    have hNs : N ≤ w.heap.size := by rw [hN]; exact hb.size
    have HNS := hide hNs
    clear ih h0 hN hb hown hNs hrow hcall
    unfold PT at HP ⊢
    go_enter Tryd.func47, Tryd.ntmps47
    by_cases h2 : o = 2
    · have d2 : ((o : Int) == 2) = true := by simp [h2]
      have s0 := HS.out 0 (by omega); have s1 := HS.out 1 (by omega); have s2 := HS.out 2 (by omega); have s3 := HS.out 3 (by omega)
      simp only [Nat.add_zero, Nat.reduceAdd] at s0 s1 s2 s3
      have he : (RE.mk o s ks).sts f = [s] := by rw [RE.sts_mk, if_pos h2]
      rw [he] at hl ⊢
      have hb3 := (Below.refl w.heap.size w).alloc (Nat.le_refl _) (.cells (WS s) 39)
      have hnew : SetsRow (w.alloc (.cells (WS s) 39)) (.slice (some ⟨w.heap.size, 0, none⟩) 1 1) [s] := (own4_new (base := 0) s (Blk.newAt rfl _ _) (by omega)).row (by simp)
      obtain ⟨v', W', hr, ho', hb'⟩ := run_append4 (HO.out.keep hb3) hnew 44 hl (by have := HNS.out; simp; omega)
      have HO' := hide ho'
      have HB' := hide (hb' w0 N (Nat.le_refl _) (by rw [HN.out]; exact Nat.le_refl _) (HB.out.alloc HNS.out _))
      obtain ⟨a', c', rfl, -⟩ := ho'.slice
      simp only [List.length_append, List.length_cons, List.length_nil, Nat.zero_add] at hr HO'
      unfold WS at hr
      clear h2 he hb3 hnew ho' hb' HP hl
      go_wp2_with (refine wpList_append_run rfl _ _ _ rfl _ _ _ rfl rfl hr ?_)
      go_ret
      exact ⟨_, rfl, HO'.out, HB'.out⟩
    · have d2 : ((o : Int) == 2) = false := beq_eq_false_iff_ne.2 (by omega)
      obtain ⟨m, hm⟩ : ∃ m, m = pickN f o ks := ⟨_, rfl⟩
      have hmk : m ≤ ks.length := by rw [hm]; exact pickN_le f o ks
      have he : (RE.mk o s ks).sts f = stsN f (ks.take m) (ks.take m).length := by
        rw [RE.sts_mk, if_neg h2, stsN_all, hm, List.map_take]
      rw [← hm] at HROW
      have htl : (ks.take m).length = m := by simp [hmk]
      rw [htl] at he
      have HMEM := hide (show ∀ x ∈ ks.take m, x ∈ ks from fun x hx => List.mem_of_mem_take hx)
      generalize ks.take m = l at *
      have HTL := hide htl
      have HE := hide he
      have HL := hide hl
      clear hm h2 he htl hl
      go_wp2_with fail
      refine HP.out.mono ?_
      rintro e w1 ⟨rfl, rfl⟩
      obtain ⟨hm40, ad, cap, rfl, -⟩ := HROW.out.at
      rw [HTL.out] at HROW hm40 ⊢
      clear HP
      go_wp2
      go_loopw [0, 28] (fun out c wr => ∃ (k : Nat), k ≤ m ∧ c = .int .i64 k ∧ Hid (Own4 wr N out (xs ++ stsN f l k)) ∧ Hid (Below N w0 wr)) (fun _ c _ => m - (intOf c).toNat)
      case atStart => exact ⟨0, by omega, rfl, (by show Own4 _ _ _ _; rw [show stsN f l 0 = [] from rfl, List.append_nil]; exact HO.out), HB.out⟩
      case round =>
        obtain ⟨k, hk, rfl, HO2, HB2⟩ := hrel
        by_cases hlt : k < m
        · have hkd : decide (k < m) = true := by simp [hlt]
          have hkl : k < l.length := by rw [HTL.out]; exact hlt
          obtain ⟨-, a1, c1, e1, g1⟩ := HROW.out.at
          rw [HTL.out] at e1
          obtain ⟨rfl, rfl⟩ : ad = a1 ∧ cap = c1 := by injection e1 with x1 x2 x3; exact ⟨x1, x3⟩
          obtain ⟨b1, o1, bk, rfl, hb1, d0, r1⟩ := g1 k hkl
          have d1 : wr.cell? ⟨b1, o1 + k, none⟩ = some (PT bk) := by rw [← d0]; exact World.cell?_of_block (w := w0) (HB2.out.block b1 (by rw [HN.out]; exact hb1))
          have HSU := hide (stsN_succ f l k hkl)
          have hle : (xs ++ stsN f l k).length + ((l[k]).sts f).length ≤ 1099511627776 := by
            have h1 := HL.out
            rw [HE.out] at h1
            obtain ⟨t, ht⟩ : ∃ t, stsN f l m = stsN f l (k + 1) ++ t := by
              refine ⟨(((l.map (RE.sts f)).take m).drop (k + 1)).flatten, ?_⟩
              unfold stsN
              rw [← List.flatten_append]
              congr 1
              rw [show (l.map (RE.sts f)).take (k + 1) = ((l.map (RE.sts f)).take m).take (k + 1) from by rw [List.take_take]; congr 1; omega, List.take_append_drop]
            rw [ht, List.length_append, HSU.out, List.length_append] at h1
            rw [List.length_append]
            omega
          obtain ⟨xk, hxk⟩ : ∃ xk, xk = xs ++ stsN f l k := ⟨_, rfl⟩
          rw [← hxk] at HO2 hle
          have HXK := hide hxk
          clear hxk
          obtain ⟨ao, co, ho, -⟩ := HO2.out.slice
          subst ho
          have HC := hide (HIH.out l[k] (HMEM.out _ (List.getElem_mem hkl)) bk _ xk w0 wr N r1 HN.out HB2.out HO2.out hle)
          have hk63 : k < 9223372036854775807 := by omega
          generalize l[k] = x at *
          clear g1 e1 d0 r1 hle
          unfold PT at d1 HC
          go_wp2_with fail
          refine HC.out.mono ?_
          rintro e w2 ⟨v2, rfl, ho2, hb2⟩
          obtain ⟨a2, c2, rfl, -⟩ := ho2.slice
          rw [List.length_append] at ho2 ⊢
          have HO3 := hide ho2
          have HB3 := hide hb2
          clear ho2 hb2 HC
          go_wp2
          refine ⟨⟨k + 1, by omega, by go_num, ?_, HB3.out⟩, by simp [intOf]; omega⟩
          show Own4 _ _ _ _
          rw [HSU.out, ← List.append_assoc, ← HXK.out]
          exact HO3.out
        · obtain rfl : k = m := by omega
          rw [← HE.out] at HO2
          obtain ⟨xz, hxz⟩ : ∃ xz, xz = xs ++ (RE.mk o s ks).sts f := ⟨_, rfl⟩
          rw [← hxz] at HO2
          have HXZ := hide hxz
          clear hxz
          obtain ⟨ao, co, ho, -⟩ := HO2.out.slice
          subst ho
          go_wp2
          go_ret
          rw [← HXZ.out]
          exact ⟨_, rfl, HO2.out, HB2.out⟩

theorem allKids_pick (r : RE) (p : Nat) (W : World) (h : ReAt W p r) : ∃ v, ResRow W v (r.kids.take (pickN false r.op r.kids)) ∧ ∀ W', Below W.heap.size W W' → Calls Tryd.prog 48 #[PT p] W' fun e w' => e = .returned v ∧ w' = W' := by
  obtain ⟨v, c5, hrow⟩ := cellK h
  refine ⟨v, ?_, fun W' hb => ?_⟩
  · rw [show pickN false r.op r.kids = r.kids.length from by simp [pickN], List.take_length]
    exact hrow
  · have c5' : W'.cell? ⟨p, 5, none⟩ = some v := by rw [← c5]; exact World.cell?_of_block (w := W) (hb.block p h.lt)
    obtain ⟨-, ad, cap, rfl, -⟩ := hrow.at
    clear c5 hrow
    unfold PT
    go_enter Tryd.func48, Tryd.ntmps48
    go_wp2
    go_ret
    exact ⟨rfl, rfl⟩
theorem Sets_any (r : RE) (p : Nat) (w : World) (h : ReAt w p r) (hl : (r.sts false).length ≤ 1099511627776) :
    Calls Tryd.prog 22 #[PT p] w fun e w' => ∃ v', e = .returned v' ∧ Own4 w' w.heap.size v' (r.sts false) ∧ Below w.heap.size w w' := by
  have HC := hide (appendSets_any false 48 (enters_of Tryd.func48 (by kernel_rfl) rfl) allKids_pick r p (.slice none 0 0) [] w w w.heap.size h rfl (Below.refl _ _) (.nil _ _) (by simpa using hl))
  rw [List.nil_append] at HC
  clear h hl
  go_enter Tryd.func22, Tryd.ntmps22
  go_wp2_with fail
  refine HC.out.mono ?_
  rintro e w1 ⟨v, rfl, ho, hb⟩
  obtain ⟨a, c, rfl, -⟩ := ho.slice
  have HO := hide ho
  have HB := hide hb
  clear ho hb HC
  go_wp2
  go_ret
  exact ⟨_, rfl, HO.out, HB.out⟩
theorem appendSets_nil (fid : FuncId) (w : World) : Calls Tryd.prog 47 #[.slice none 0 0, .pointer none, .func (.func fid) #[] #[]] w fun e w' => e = .returned (.slice none 0 0) ∧ w' = w := by
  go_enter Tryd.func47, Tryd.ntmps47
  go_wp2
  go_ret
  exact ⟨rfl, rfl⟩
theorem Sets_nil (w : World) : Calls Tryd.prog 22 #[.pointer none] w fun e w' => e = .returned (.slice none 0 0) ∧ w' = w := by
  go_enter Tryd.func22, Tryd.ntmps22
  go_wp2_with fail
  refine (appendSets_nil _ w).mono ?_
  rintro e w1 ⟨rfl, rfl⟩
  go_wp2
  go_ret
  exact ⟨rfl, rfl⟩
end Go.Proofs.YthemadegffhmfaaDoor
/- The texts of an expression; what each of the calls makes has the texts that it should have. -/
namespace Go.Proofs.YthemadegffhmfaaDoor
set_option maxRecDepth 100000
set_option linter.unusedSimpArgs false
set_option linter.unusedVariables false

abbrev Lg := List Nat → Prop
def By (t : List Nat) : Prop := ∀ x ∈ t, x < 256
theorem By.left {u v : List Nat} (h : By (u ++ v)) : By u := fun x hx => h x (List.mem_append.2 (.inl hx))
theorem By.right {u v : List Nat} (h : By (u ++ v)) : By v := fun x hx => h x (List.mem_append.2 (.inr hx))
def catG : List Lg → Lg
  | [], t => t = []
  | l :: ls, t => ∃ u v, t = u ++ v ∧ l u ∧ catG ls v
inductive starG (l : Lg) : Lg where
  | nil : starG l []
  | cons (u v : List Nat) : u ≠ [] → l u → starG l v → starG l (u ++ v)
def opG (o : Nat) (s : BitVec 256) (ls : List Lg) : Lg := fun t =>
  if o = 1 then t = [] else if o = 2 then ∃ x, t = [x] ∧ s.getLsbD x = true else if o = 3 then catG ls t else if o = 4 then ∃ l ∈ ls, l t
  else if o = 5 then t = [] ∨ ∃ l, ls = [l] ∧ starG l t else if o = 6 then ∀ l ∈ ls, l t else if o = 7 then ∃ a b, ls = [a, b] ∧ a t ∧ ¬ b t else False
def RE.lang : RE → Lg
  | .mk o s ks => opG o s (ks.map fun k => k.lang)
theorem RE.lang_mk (o : Nat) (s : BitVec 256) (ks : List RE) : (RE.mk o s ks).lang = opG o s (ks.map RE.lang) := by rw [RE.lang]
theorem RE.lang_op (r : RE) : r.lang = opG r.op r.set (r.kids.map RE.lang) := by cases r; exact RE.lang_mk _ _ _

theorem catG_append (a b : List Lg) (t : List Nat) : catG (a ++ b) t ↔ ∃ u v, t = u ++ v ∧ catG a u ∧ catG b v := by
  induction a generalizing t with
  | nil =>
    constructor
    · intro h; exact ⟨[], t, rfl, rfl, h⟩
    · rintro ⟨u, v, rfl, h1, h2⟩
      have h1 : u = [] := h1
      subst h1; exact h2
  | cons l a ih =>
    constructor
    · rintro ⟨u, v, rfl, h1, h2⟩
      obtain ⟨x, y, rfl, h3, h4⟩ := (ih v).1 h2
      exact ⟨u ++ x, y, by rw [List.append_assoc], ⟨u, x, rfl, h1, h3⟩, h4⟩
    · rintro ⟨u, v, rfl, ⟨x, y, rfl, h1, h2⟩, h3⟩
      exact ⟨x, y ++ v, by rw [List.append_assoc], h1, (ih _).2 ⟨y, v, rfl, h2, h3⟩⟩
theorem catG_one (l : Lg) (t : List Nat) : catG [l] t ↔ l t := by
  constructor
  · rintro ⟨u, v, rfl, h1, h2⟩
    have h2 : v = [] := h2
    subst h2; rwa [List.append_nil]
  · intro h; exact ⟨t, [], by simp, h, rfl⟩
theorem catG_congr {α : Type} (f g : α → Lg) (l : List α) (h : ∀ x ∈ l, ∀ t, By t → (f x t ↔ g x t)) : ∀ t, By t → (catG (l.map f) t ↔ catG (l.map g) t) := by
  induction l with
  | nil => intro t _; exact Iff.rfl
  | cons x l ih =>
    intro t ht
    have ih := ih fun y hy => h y (by simp [hy])
    constructor
    · rintro ⟨u, v, rfl, h1, h2⟩
      exact ⟨u, v, rfl, (h x (by simp) u ht.left).1 h1, (ih v ht.right).1 h2⟩
    · rintro ⟨u, v, rfl, h1, h2⟩
      exact ⟨u, v, rfl, (h x (by simp) u ht.left).2 h1, (ih v ht.right).2 h2⟩
theorem star_mono {l m : Lg} (h : ∀ t, By t → l t → m t) {t : List Nat} (ht : By t) (hs : starG l t) : starG m t := by
  induction hs with
  | nil => exact .nil
  | cons u v hu h1 h2 ih => exact .cons u v hu (h u ht.left h1) (ih ht.right)
theorem star_append {l : Lg} {u v : List Nat} (hu : starG l u) (hv : starG l v) : starG l (u ++ v) := by
  induction hu with
  | nil => exact hv
  | cons x y hx h1 h2 ih => rw [List.append_assoc]; exact .cons x (y ++ v) hx h1 ih
theorem star_star {l m : Lg} (h : ∀ t, m t → starG l t) {t : List Nat} (hs : starG m t) : starG l t := by
  induction hs with
  | nil => exact .nil
  | cons u v hu h1 h2 ih => exact star_append (h u h1) ih
theorem star_one {l : Lg} {t : List Nat} (h : l t) : starG l t := by
  cases t with
  | nil => exact .nil
  | cons x t => have := starG.cons (l := l) (x :: t) [] (by simp) h .nil; rwa [List.append_nil] at this
theorem star_none {l : Lg} (h : ∀ t, l t → t = []) {t : List Nat} (hs : starG l t) : t = [] := by
  cases hs with
  | nil => rfl
  | cons u v hu h1 h2 => exact absurd (h u h1) hu

/-! What the ops mean -/
theorem lang0 {r : RE} (h : r.op = 0) (t : List Nat) : ¬ r.lang t := by rw [r.lang_op, h]; intro h; simp [opG] at h
theorem lang1 {r : RE} (h : r.op = 1) (t : List Nat) : r.lang t ↔ t = [] := by rw [r.lang_op, h]; simp [opG]
theorem lang2 {r : RE} (h : r.op = 2) (t : List Nat) : r.lang t ↔ ∃ x, t = [x] ∧ r.set.getLsbD x = true := by rw [r.lang_op, h]; simp [opG]
theorem lang3 {r : RE} (h : r.op = 3) (t : List Nat) : r.lang t ↔ catG (r.kids.map RE.lang) t := by rw [r.lang_op, h]; simp [opG]
theorem lang4 {r : RE} (h : r.op = 4) (t : List Nat) : r.lang t ↔ ∃ k ∈ r.kids, k.lang t := by
  rw [r.lang_op, h]
  show (∃ l ∈ r.kids.map RE.lang, l t) ↔ _
  constructor
  · rintro ⟨l, hl, h⟩
    obtain ⟨k, hk, rfl⟩ := List.mem_map.1 hl
    exact ⟨k, hk, h⟩
  · rintro ⟨k, hk, h⟩
    exact ⟨_, List.mem_map.2 ⟨k, hk, rfl⟩, h⟩
theorem lang5 {r : RE} (h : r.op = 5) (t : List Nat) : r.lang t ↔ t = [] ∨ ∃ l, r.kids.map RE.lang = [l] ∧ starG l t := by rw [r.lang_op, h]; simp [opG]
theorem lang6 {r : RE} (h : r.op = 6) (t : List Nat) : r.lang t ↔ ∀ k ∈ r.kids, k.lang t := by rw [r.lang_op, h]; simp [opG]
theorem lang7 {r : RE} (h : r.op = 7) (t : List Nat) : r.lang t ↔ ∃ a b, r.kids.map RE.lang = [a, b] ∧ a t ∧ ¬ b t := by rw [r.lang_op, h]; simp [opG]
theorem lang_nothing (t : List Nat) : ¬ rNothing.lang t := lang0 rfl t
theorem lang_empty (t : List Nat) : rEmpty.lang t ↔ t = [] := lang1 rfl t
theorem lang_one (s : BitVec 256) (t : List Nat) : (rOne s).lang t ↔ ∃ x, t = [x] ∧ s.getLsbD x = true := by
  unfold rOne
  split
  · rename_i h
    subst h
    refine iff_of_false (lang_nothing t) ?_
    rintro ⟨x, -, h⟩
    simp at h
  · exact lang2 (r := .mk 2 s []) rfl t
theorem join_or (l : List RE) (t : List Nat) : (rJoin 4 l).lang t ↔ ∃ k ∈ l, k.lang t := by
  unfold rJoin
  split
  · simp
  · exact lang4 (r := .mk 4 0#256 l) rfl t
theorem join_and (l : List RE) (t : List Nat) : (rJoin 6 l).lang t ↔ ∀ k ∈ l, k.lang t := by
  unfold rJoin
  split
  · simp
  · exact lang6 (r := .mk 6 0#256 l) rfl t
theorem join_cat (l : List RE) (t : List Nat) : (rJoin 3 l).lang t ↔ catG (l.map RE.lang) t := by
  unfold rJoin
  split
  · rw [List.map_cons, List.map_nil, catG_one]
  · exact lang3 (r := .mk 3 0#256 l) rfl t

theorem cat_flat (l : List RE) (t : List Nat) : catG ((catL l).map RE.lang) t ↔ catG (l.map RE.lang) t := by
  induction l generalizing t with
  | nil => exact Iff.rfl
  | cons r l ih =>
    have e : catL (r :: l) = catK r ++ catL l := by unfold catL; rw [List.flatMap_cons]
    have hk : ∀ u, catG ((catK r).map RE.lang) u ↔ r.lang u := by
      intro u
      unfold catK
      split
      · rename_i h; rw [lang1 h]; exact Iff.rfl
      · split
        · rename_i h; rw [lang3 h]
        · rw [List.map_cons, List.map_nil, catG_one]
    rw [e, List.map_append, catG_append, List.map_cons]
    constructor
    · rintro ⟨u, v, rfl, h1, h2⟩
      exact ⟨u, v, rfl, (hk u).1 h1, (ih v).1 h2⟩
    · rintro ⟨u, v, rfl, h1, h2⟩
      exact ⟨u, v, rfl, (hk u).2 h1, (ih v).2 h2⟩
theorem cat_no {l : List RE} (h : l.any (fun r => r.op == 0) = true) (t : List Nat) : ¬ catG (l.map RE.lang) t := by
  induction l generalizing t with
  | nil => simp at h
  | cons r l ih =>
    rw [List.map_cons]
    rintro ⟨u, v, -, h1, h2⟩
    rw [List.any_cons, Bool.or_eq_true] at h
    rcases h with h | h
    · exact lang0 (by simpa using h) u h1
    · exact ih h v h2
theorem lang_then (l : List RE) (t : List Nat) : (rThen l).lang t ↔ catG (l.map RE.lang) t := by
  unfold rThen
  split
  · rename_i h
    exact iff_of_false (lang_nothing t) (cat_no h t)
  · rw [← cat_flat]
    split
    · rename_i h; rw [h, lang_empty]; exact Iff.rfl
    · exact join_cat _ t

theorem any_flatL (l : List RE) (t : List Nat) : (∃ k ∈ flatL 4 l, k.lang t) ↔ ∃ r ∈ l, r.lang t := by
  unfold flatL
  constructor
  · rintro ⟨k, hk, h⟩
    obtain ⟨r, hr, hk⟩ := List.mem_flatMap.1 hk
    split at hk
    · exact ⟨r, hr, (lang4 ‹_› t).2 ⟨k, hk, h⟩⟩
    · rw [List.mem_singleton] at hk; subst hk; exact ⟨k, hr, h⟩
  · rintro ⟨r, hr, h⟩
    by_cases h4 : r.op = 4
    · obtain ⟨k, hk, h'⟩ := (lang4 h4 t).1 h
      exact ⟨k, List.mem_flatMap.2 ⟨r, hr, by rw [if_pos h4]; exact hk⟩, h'⟩
    · exact ⟨r, List.mem_flatMap.2 ⟨r, hr, by rw [if_neg h4]; simp⟩, h⟩
theorem all_flatL (l : List RE) (t : List Nat) : (∀ k ∈ flatL 6 l, k.lang t) ↔ ∀ r ∈ l, r.lang t := by
  unfold flatL
  constructor
  · intro h r hr
    by_cases h6 : r.op = 6
    · exact (lang6 h6 t).2 fun k hk => h k (List.mem_flatMap.2 ⟨r, hr, by rw [if_pos h6]; exact hk⟩)
    · exact h r (List.mem_flatMap.2 ⟨r, hr, by rw [if_neg h6]; simp⟩)
  · intro h k hk
    obtain ⟨r, hr, hk⟩ := List.mem_flatMap.1 hk
    split at hk
    · exact (lang6 ‹_› t).1 (h r hr) k hk
    · rw [List.mem_singleton] at hk; subst hk; exact h k hr
theorem wfk_flat {o : Nat} {l : List RE} (hw : ∀ r ∈ l, Wf r) : ∀ k ∈ flatL o l, Wf k := by
  intro k hk
  obtain ⟨r, hr, hk⟩ := List.mem_flatMap.1 hk
  have h := hw r hr
  split at hk
  · cases h with | mk o s ks hk' _ => exact hk' k hk
  · rw [List.mem_singleton] at hk; subst hk; exact h
theorem mem_ordL {l : List RE} (hw : ∀ y ∈ l, WfK y) (r : RE) : r ∈ ordL l ↔ r ∈ l := by
  have h : (∀ y ∈ ordL l, WfK y) ∧ (r ∈ ordL l ↔ r ∈ l) := by
    induction l with
    | nil => exact ⟨fun y hy => by simp [ordL] at hy, by simp [ordL]⟩
    | cons x l ih =>
      have hl : ∀ y ∈ l, WfK y := fun y hy => hw y (by simp [hy])
      have key : ∀ z, z ∈ ordL (x :: l) ↔ z = x ∨ z ∈ ordL l := fun z => mem_insK (hw x (by simp)) (ordL l) (ih hl).1 z
      refine ⟨fun y hy => ?_, ?_⟩
      · rcases (key y).1 hy with rfl | hy
        · exact hw y (by simp)
        · exact (ih hl).1 y hy
      · rw [key, (ih hl).2, List.mem_cons]
  exact h.2
theorem lang_any {l : List RE} (hw : ∀ r ∈ l, Wf r) (t : List Nat) : (rAny l).lang t ↔ ∃ r ∈ l, r.lang t := by
  rw [← any_flatL]
  have hwf := wfk_flat (o := 4) hw
  generalize hf : flatL 4 l = fl at hwf
  have hcls : (∃ k ∈ fl, k.lang t) ↔ (∃ k ∈ orKeep fl, k.lang t) ∨ ∃ x, t = [x] ∧ (orSet fl).getLsbD x = true := by
    have hb : ∀ x, (orSet fl).getLsbD x = fl.any fun r => r.op == 2 && r.set.getLsbD x := fun x => by unfold orSet; rw [orBits]; simp
    constructor
    · rintro ⟨k, hk, h⟩
      by_cases h0 : k.op = 0
      · exact absurd h (lang0 h0 t)
      · by_cases h2 : k.op = 2
        · obtain ⟨x, rfl, hx⟩ := (lang2 h2 t).1 h
          refine .inr ⟨x, rfl, ?_⟩
          rw [hb, List.any_eq_true]
          exact ⟨k, hk, by simp [h2, hx]⟩
        · exact .inl ⟨k, List.mem_filter.2 ⟨hk, by simp [h0, h2]⟩, h⟩
    · rintro (⟨k, hk, h⟩ | ⟨x, rfl, hx⟩)
      · exact ⟨k, (List.mem_filter.1 hk).1, h⟩
      · rw [hb, List.any_eq_true] at hx
        obtain ⟨k, hk, hx⟩ := hx
        rw [Bool.and_eq_true] at hx
        exact ⟨k, hk, (lang2 (by simpa using hx.1) _).2 ⟨x, rfl, hx.2⟩⟩
  rw [hcls]
  unfold rAny
  rw [hf]
  simp only []
  have hks : (∃ k ∈ orKeep fl ++ (if orSet fl = 0#256 then [] else [rOne (orSet fl)]), k.lang t) ↔ (∃ k ∈ orKeep fl, k.lang t) ∨ ∃ x, t = [x] ∧ (orSet fl).getLsbD x = true := by
    constructor
    · rintro ⟨k, hk, h⟩
      rcases List.mem_append.1 hk with hk | hk
      · exact .inl ⟨k, hk, h⟩
      · split at hk
        · simp at hk
        · rw [List.mem_singleton] at hk; subst hk; exact .inr ((lang_one _ t).1 h)
    · rintro (⟨k, hk, h⟩ | h)
      · exact ⟨k, List.mem_append.2 (.inl hk), h⟩
      · refine ⟨rOne (orSet fl), List.mem_append.2 (.inr ?_), (lang_one _ t).2 h⟩
        split
        · rename_i h0
          obtain ⟨x, -, hx⟩ := h
          rw [h0] at hx; simp at hx
        · simp
  have hwk : ∀ y ∈ orKeep fl ++ (if orSet fl = 0#256 then [] else [rOne (orSet fl)]), WfK y := fun y hy => by
    rcases List.mem_append.1 hy with hy | hy
    · exact (hwf y (List.mem_filter.1 hy).1).k
    · split at hy
      · simp at hy
      · rw [List.mem_singleton] at hy; subst hy; exact (wf_one _).k
  generalize hkk : orKeep fl ++ (if orSet fl = 0#256 then [] else [rOne (orSet fl)]) = ks at hks hwk ⊢
  split
  · rename_i h0
    rw [← hks, h0]
    refine iff_of_false (lang_nothing t) (by rintro ⟨k, hk, -⟩; simp at hk)
  · rw [join_or, ← hks]
    constructor
    · rintro ⟨k, hk, h⟩; exact ⟨k, (mem_ordL hwk k).1 hk, h⟩
    · rintro ⟨k, hk, h⟩; exact ⟨k, (mem_ordL hwk k).2 hk, h⟩
theorem lang_many (r : RE) (t : List Nat) : (rMany r).lang t ↔ starG r.lang t := by
  unfold rMany
  split
  · rename_i h
    rw [lang_empty]
    constructor
    · rintro rfl; exact .nil
    · exact star_none fun u hu => by
        rcases h with h | h
        · exact absurd hu (lang0 h u)
        · exact (lang1 h u).1 hu
  · split
    · rename_i h
      constructor
      · exact star_one
      · intro hs
        have hl := lang5 h
        by_cases hk : ∃ l, r.kids.map RE.lang = [l]
        · obtain ⟨l, hl'⟩ := hk
          refine (hl t).2 (.inr ⟨l, hl', star_star (fun u hu => ?_) hs⟩)
          rcases (hl u).1 hu with rfl | ⟨m, hm, h2⟩
          · exact .nil
          · rw [hl'] at hm; injection hm with hm; subst hm; exact h2
        · refine (hl t).2 (.inl (star_none (fun u hu => ?_) hs))
          rcases (hl u).1 hu with h2 | ⟨m, hm, -⟩
          · exact h2
          · exact absurd ⟨m, hm⟩ hk
    · rw [lang5 (r := .mk 5 0#256 [r]) rfl]
      constructor
      · rintro (rfl | ⟨l, hl, h⟩)
        · exact .nil
        · have hl : [r.lang] = [l] := hl
          have : r.lang = l := by injection hl
          rw [this]; exact h
      · intro h; exact .inr ⟨_, rfl, h⟩
theorem bit_lt {s : BitVec 256} {x : Nat} (h : s.getLsbD x = true) : x < 256 := by
  by_cases hx : x < 256
  · exact hx
  · rw [BitVec.getLsbD_of_ge s x (by omega)] at h; cases h
theorem all_bit {x : Nat} (h : x < 256) : allB.getLsbD x = true := by unfold allB; rw [BitVec.getLsbD_not]; simp [h]
theorem lang_all (t : List Nat) (ht : By t) : starG (rOne allB).lang t := by
  induction t with
  | nil => exact .nil
  | cons x t ih => exact .cons [x] t (by simp) ((lang_one _ _).2 ⟨x, rfl, all_bit (ht x (by simp))⟩) (ih fun y hy => ht y (by simp [hy]))
theorem lang_both {l : List RE} (hw : ∀ r ∈ l, Wf r) (t : List Nat) (ht : By t) : (rBoth l).lang t ↔ ∀ r ∈ l, r.lang t := by
  rw [← all_flatL]
  have hwf := wfk_flat (o := 6) hw
  unfold rBoth
  generalize hf : flatL 6 l = fl at hwf
  simp only []
  have hb : ∀ x, x < 256 → (andSet fl).getLsbD x = fl.all fun r => !(r.op == 2) || r.set.getLsbD x := fun x hx => by unfold andSet; rw [andBits, all_bit hx]; simp
  split
  · rename_i h
    refine iff_of_false (lang_nothing t) fun h' => ?_
    obtain ⟨k, hk, h0⟩ := List.any_eq_true.1 h
    exact lang0 (by simpa using h0) t (h' k hk)
  · rename_i hno
    have hn0 : ∀ k ∈ fl, k.op ≠ 0 := fun k hk h0 => hno (List.any_eq_true.2 ⟨k, hk, by simp [h0]⟩)
    have hcl : met fl = true → ((∀ k ∈ fl, k.op = 2 → k.lang t) ↔ ∃ x, t = [x] ∧ (andSet fl).getLsbD x = true) := by
      intro hm
      obtain ⟨m, hm1, hm2⟩ := List.any_eq_true.1 hm
      have hm2 : m.op = 2 := by simpa using hm2
      constructor
      · intro h
        obtain ⟨x, rfl, hx⟩ := (lang2 hm2 t).1 (h m hm1 hm2)
        refine ⟨x, rfl, ?_⟩
        rw [hb x (bit_lt hx), List.all_eq_true]
        intro k hk
        by_cases h2 : k.op = 2
        · obtain ⟨y, e, hy⟩ := (lang2 h2 _).1 (h k hk h2)
          have : x = y := by simpa using e
          subst this
          simp [hy]
        · simp [h2]
      · rintro ⟨x, rfl, hx⟩ k hk h2
        rw [hb x (bit_lt hx), List.all_eq_true] at hx
        have := hx k hk
        exact (lang2 h2 _).2 ⟨x, rfl, by simpa [h2] using this⟩
    have hnm : met fl = false → ∀ k ∈ fl, k.op ≠ 2 := fun hm k hk h2 => by
      have : met fl = true := List.any_eq_true.2 ⟨k, hk, by simp [h2]⟩
      rw [hm] at this; cases this
    have hks : (∀ k ∈ orKeep fl ++ (if met fl = true then [rOne (andSet fl)] else []), k.lang t) ↔ ∀ k ∈ fl, k.lang t := by
      constructor
      · intro h k hk
        by_cases h2 : k.op = 2
        · have hm : met fl = true := List.any_eq_true.2 ⟨k, hk, by simp [h2]⟩
          refine (hcl hm).2 ((lang_one _ t).1 (h _ (List.mem_append.2 (.inr ?_)))) k hk h2
          rw [if_pos hm]; simp
        · exact h k (List.mem_append.2 (.inl (List.mem_filter.2 ⟨hk, by simp [h2, hn0 k hk]⟩)))
      · intro h k hk
        rcases List.mem_append.1 hk with hk | hk
        · exact h k (List.mem_filter.1 hk).1
        · split at hk
          · rename_i hm
            rw [List.mem_singleton] at hk; subst hk
            exact (lang_one _ t).2 ((hcl hm).1 fun k hk _ => h k hk)
          · simp at hk
    have hwk : ∀ y ∈ orKeep fl ++ (if met fl = true then [rOne (andSet fl)] else []), WfK y := fun y hy => by
      rcases List.mem_append.1 hy with hy | hy
      · exact (hwf y (List.mem_filter.1 hy).1).k
      · split at hy
        · rw [List.mem_singleton] at hy; subst hy; exact (wf_one _).k
        · simp at hy
    split
    · rename_i h0
      refine iff_of_false (lang_nothing t) fun h => ?_
      by_cases hm : met fl = true
      · obtain ⟨x, -, hx⟩ := (hcl hm).1 fun k hk _ => h k hk
        rw [h0] at hx; simp at hx
      · have hm : met fl = false := by simpa using hm
        have h1 := hb 0 (by omega)
        rw [h0] at h1
        have h2 : (fl.all fun r => !(r.op == 2) || r.set.getLsbD 0) = true := List.all_eq_true.2 fun k hk => by simp [hnm hm k hk]
        rw [h2] at h1; simp at h1
    · generalize hkk : orKeep fl ++ (if met fl = true then [rOne (andSet fl)] else []) = ks at hks hwk ⊢
      split
      · rename_i hk0
        rw [← hks, hk0, lang_many]
        exact iff_of_true (lang_all t ht) fun k hk => by simp at hk
      · rw [join_and, ← hks]
        constructor
        · intro h k hk; exact h k ((mem_ordL hwk k).2 hk)
        · intro h k hk; exact h k ((mem_ordL hwk k).1 hk)
theorem lang_but {a b : RE} (ha : Wf a) (hb : Wf b) (t : List Nat) : (rBut a b).lang t ↔ a.lang t ∧ ¬ b.lang t := by
  unfold rBut
  split
  · rename_i h
    rcases h with h | h
    · exact iff_of_false (lang0 h t) fun h' => lang0 h t h'.1
    · exact ⟨fun h' => ⟨h', lang0 h t⟩, fun h' => h'.1⟩
  · split
    · rename_i h
      rw [lang_one, lang2 h.1, lang2 h.2]
      constructor
      · rintro ⟨x, rfl, hx⟩
        have hlt := bit_lt hx
        rw [BitVec.getLsbD_and, BitVec.getLsbD_not, Bool.and_eq_true] at hx
        refine ⟨⟨x, rfl, hx.1⟩, ?_⟩
        rintro ⟨y, e, hy⟩
        have : x = y := by simpa using e
        subst this
        simp [hy] at hx
      · rintro ⟨⟨x, rfl, hx⟩, h2⟩
        refine ⟨x, rfl, ?_⟩
        have hlt := bit_lt hx
        have hn : b.set.getLsbD x = false := Bool.eq_false_iff.2 fun hy => h2 ⟨x, rfl, hy⟩
        rw [BitVec.getLsbD_and, BitVec.getLsbD_not, hx, hn]
        simp [hlt]
    · split
      · rename_i h
        have e := key_inj ha.k hb.k (lexN_zero _ _ h)
        subst e
        exact iff_of_false (lang_nothing t) fun h' => h'.2 h'.1
      · rw [lang7 (r := .mk 7 0#256 [a, b]) rfl]
        constructor
        · rintro ⟨x, y, e, h⟩
          have e : [a.lang, b.lang] = [x, y] := e
          injection e with e1 e2
          injection e2 with e2 _
          rw [e1, e2]; exact h
        · intro h; exact ⟨_, _, rfl, h⟩
theorem lang_word (w t : List Nat) (hw : By w) : (rWord w).lang t ↔ t = w := by
  unfold rWord
  rw [lang_then, List.map_map]
  induction w generalizing t with
  | nil => exact Iff.rfl
  | cons c w ih =>
    have hl : ∀ u, (rLetter c).lang u ↔ u = [c] := fun u => by
      unfold rLetter
      rw [lang_one]
      constructor
      · rintro ⟨x, rfl, hx⟩
        rw [setOf_has _ _ (bit_lt hx)] at hx
        have : x = c := by simpa using hx
        rw [this]
      · rintro rfl
        exact ⟨c, rfl, by rw [setOf_has _ _ (hw c (by simp))]; simp⟩
    rw [List.map_cons]
    constructor
    · rintro ⟨u, v, rfl, h1, h2⟩
      rw [(hl u).1 h1, (ih v (fun x hx => hw x (by simp [hx]))).1 h2]; rfl
    · rintro rfl
      exact ⟨[c], w, rfl, (hl _).2 rfl, (ih w (fun x hx => hw x (by simp [hx]))).2 rfl⟩
end Go.Proofs.YthemadegffhmfaaDoor
/- The texts of a shape are those of its expression; the text of no bytes; the number of parts. -/
namespace Go.Proofs.YthemadegffhmfaaDoor
set_option maxRecDepth 100000
set_option linter.unusedSimpArgs false
set_option linter.unusedVariables false

def inG (k a b : Nat) (w : List Nat) (ls : List Lg) : Lg := fun t =>
  if k = 0 then False else if k = 1 then t = [] else if k = 2 then ∃ x, t = [x] ∧ a ≤ x ∧ x ≤ b else if k = 3 then catG ls t else if k = 4 then ∃ l ∈ ls, l t
  else if k = 5 then t = [] ∨ ∃ l, ls[0]? = some l ∧ starG l t else if k = 6 then ∀ l ∈ ls, l t else if k = 7 then (∃ l, ls[0]? = some l ∧ l t) ∧ ¬ ∃ l, ls[1]? = some l ∧ l t else t = w
/-- The texts of a shape, by the page. -/
def SHP.lang : SHP → Lg
  | .mk o l u t ks => inG (SHP.mk o l u t []).k (97 + l % 4) (97 + u % 4) (bytesN t) (ks.map fun k => k.lang)
theorem SHP.lang_mk (o : Int) (l u : Nat) (t : ByteArray) (ks : List SHP) : (SHP.mk o l u t ks).lang = inG (SHP.mk o l u t ks).k (97 + l % 4) (97 + u % 4) (bytesN t) (ks.map SHP.lang) := by rw [SHP.lang]; rfl
theorem by_bytes (t : ByteArray) : By (bytesN t) := fun x hx => by
  obtain ⟨u, -, rfl⟩ := List.mem_map.1 hx
  exact u.toNat_lt

theorem shape_lang (s : SHP) : ∀ t, By t → (s.re.lang t ↔ s.lang t) := by
  refine SHP.ind (P := fun s => ∀ t, By t → (s.re.lang t ↔ s.lang t)) ?_ s
  intro o l u tx ks ih t ht
  rw [SHP.re_mk, SHP.lang_mk]
  generalize (SHP.mk o l u tx ks).k = k
  have hw : ∀ r ∈ ks.map SHP.re, Wf r := fun r hr => by
    obtain ⟨x, -, rfl⟩ := List.mem_map.1 hr
    exact x.wf
  have hg : ∀ i, Wf ((ks.map SHP.re).getD i rNothing) := fun i => wf_getD hw i
  have hget : ∀ i u, By u → (((ks.map SHP.re).getD i rNothing).lang u ↔ ∃ m, (ks.map SHP.lang)[i]? = some m ∧ m u) := fun i u hu => by
    rw [List.getD_eq_getElem?_getD, List.getElem?_map, List.getElem?_map]
    cases h : ks[i]? with
    | none => simpa using lang_nothing u
    | some x => simpa using ih x (List.mem_of_getElem? h) u hu
  unfold mkAt inG
  by_cases h0 : k = 0
  · rw [if_pos h0, if_pos h0]; exact iff_of_false (lang_nothing t) id
  rw [if_neg h0, if_neg h0]
  by_cases h1 : k = 1
  · rw [if_pos h1, if_pos h1]; exact lang_empty t
  rw [if_neg h1, if_neg h1]
  by_cases h2 : k = 2
  · rw [if_pos h2, if_pos h2, lang_one]
    constructor
    · rintro ⟨x, rfl, hx⟩
      rw [span_has _ _ _ (bit_lt hx)] at hx
      have := of_decide_eq_true hx
      exact ⟨x, rfl, this.1, by omega⟩
    · rintro ⟨x, rfl, h3, h4⟩
      exact ⟨x, rfl, by rw [span_has _ _ _ (ht x (by simp))]; exact decide_eq_true ⟨h3, by omega⟩⟩
  rw [if_neg h2, if_neg h2]
  by_cases h3 : k = 3
  · rw [if_pos h3, if_pos h3, lang_then, List.map_map]
    exact catG_congr (fun s : SHP => s.re.lang) SHP.lang ks (fun x hx u hu => ih x hx u hu) t ht
  rw [if_neg h3, if_neg h3]
  by_cases h4 : k = 4
  · rw [if_pos h4, if_pos h4, lang_any hw]
    constructor
    · rintro ⟨r, hr, h⟩
      obtain ⟨x, hx, rfl⟩ := List.mem_map.1 hr
      exact ⟨_, List.mem_map.2 ⟨x, hx, rfl⟩, (ih x hx t ht).1 h⟩
    · rintro ⟨m, hm, h⟩
      obtain ⟨x, hx, rfl⟩ := List.mem_map.1 hm
      exact ⟨_, List.mem_map.2 ⟨x, hx, rfl⟩, (ih x hx t ht).2 h⟩
  rw [if_neg h4, if_neg h4]
  by_cases h5 : k = 5
  · rw [if_pos h5, if_pos h5, lang_many]
    constructor
    · intro h
      cases hm : (ks.map SHP.lang)[0]? with
      | none =>
        refine .inl (star_none (fun u hu => ?_) h)
        have hno : (ks.map SHP.re).getD 0 rNothing = rNothing := by
          rw [List.getElem?_eq_none_iff, List.length_map] at hm
          have : ks = [] := List.eq_nil_of_length_eq_zero (by omega)
          subst this; rfl
        rw [hno] at hu
        exact absurd hu (lang_nothing u)
      | some m =>
        refine .inr ⟨m, rfl, star_mono (fun u hu h' => ?_) ht h⟩
        obtain ⟨m', e, h2⟩ := (hget 0 u hu).1 h'
        rw [hm] at e; cases e; exact h2
    · rintro (rfl | ⟨m, hm, h⟩)
      · exact .nil
      · exact star_mono (fun u hu h' => (hget 0 u hu).2 ⟨m, hm, h'⟩) ht h
  rw [if_neg h5, if_neg h5]
  by_cases h6 : k = 6
  · rw [if_pos h6, if_pos h6, lang_both hw t ht]
    constructor
    · intro h m hm
      obtain ⟨x, hx, rfl⟩ := List.mem_map.1 hm
      exact (ih x hx t ht).1 (h _ (List.mem_map.2 ⟨x, hx, rfl⟩))
    · intro h r hr
      obtain ⟨x, hx, rfl⟩ := List.mem_map.1 hr
      exact (ih x hx t ht).2 (h _ (List.mem_map.2 ⟨x, hx, rfl⟩))
  rw [if_neg h6, if_neg h6]
  by_cases h7 : k = 7
  · rw [if_pos h7, if_pos h7, lang_but (hg 0) (hg 1), hget 0 t ht, hget 1 t ht]
  rw [if_neg h7, if_neg h7]
  exact lang_word _ _ (by_bytes tx)

theorem catG_nil (ls : List Lg) : catG ls [] ↔ ∀ l ∈ ls, l [] := by
  induction ls with
  | nil => simp [catG]
  | cons l ls ih =>
    constructor
    · rintro ⟨u, v, e, h1, h2⟩
      have e2 := List.append_eq_nil_iff.1 e.symm
      rw [e2.1] at h1; rw [e2.2] at h2
      intro m hm
      rcases List.mem_cons.1 hm with rfl | hm
      · exact h1
      · exact ih.1 h2 m hm
    · intro h
      exact ⟨[], [], rfl, h l (by simp), ih.2 fun m hm => h m (by simp [hm])⟩
theorem null_lang (r : RE) : Wf r → (r.null = true ↔ r.lang []) := by
  refine RE.ind (P := fun r => Wf r → (r.null = true ↔ r.lang [])) ?_ r
  intro o s ks ih hw
  have hk : ∀ k ∈ ks, (k.null = true ↔ k.lang []) := fun k hk => ih k hk (by cases hw with | mk _ _ _ h _ => exact h k hk)
  have hs := hw.shp
  simp only [RE.op, RE.set, RE.kids] at hs
  rw [RE.null_mk, RE.lang_mk]
  unfold opG
  have hop := hs.op
  by_cases h1 : o = 1
  · subst h1; simp
  by_cases h2 : o = 2
  · subst h2; simp
  by_cases h3 : o = 3
  · subst h3
    simp only [Nat.reduceEqDiff, if_false, if_true, or_self, or_false, false_or, or_true, true_or, catG_nil]
    simp [List.all_eq_true]
    exact ⟨fun h k hk' => (hk k hk').1 (h k hk'), fun h k hk' => (hk k hk').2 (h k hk')⟩
  by_cases h4 : o = 4
  · subst h4
    simp [List.any_eq_true]
    constructor
    · rintro ⟨k, hk', h⟩; exact ⟨_, ⟨k, hk', rfl⟩, (hk k hk').1 h⟩
    · rintro ⟨l, ⟨k, hk', rfl⟩, h⟩; exact ⟨k, hk', (hk k hk').2 h⟩
  by_cases h5 : o = 5
  · subst h5; simp
  by_cases h6 : o = 6
  · subst h6
    simp [List.all_eq_true]
    exact ⟨fun h k hk' => (hk k hk').1 (h k hk'), fun h k hk' => (hk k hk').2 (h k hk')⟩
  by_cases h7 : o = 7
  · subst h7
    obtain ⟨a, b, rfl, -⟩ := hs.minus rfl
    have ha := hk a (by simp)
    have hb := hk b (by simp)
    simp only [Nat.reduceEqDiff, if_false, if_true, or_self, List.map_cons, List.map_nil]
    rw [Bool.and_eq_true, show ([a.null, b.null].getD 0 false) = a.null from rfl, show ([a.null, b.null].getD 1 false) = b.null from rfl, Bool.not_eq_true', ha]
    constructor
    · rintro ⟨x, y⟩
      exact ⟨_, _, rfl, x, fun hb' => by rw [hb.2 hb'] at y; cases y⟩
    · rintro ⟨x, y, e, h, h'⟩
      injection e with e1 e2
      injection e2 with e2 _
      subst e1 e2
      exact ⟨h, Bool.eq_false_iff.2 fun h2 => h' (hb.1 h2)⟩
  have h0 : o = 0 := by omega
  subst h0
  simp
theorem foldl_sat (l : List RE) (n : Nat) (h : ∀ k ∈ l, k.size = k.cnt) (hb : n + cntL l ≤ 9223372036854775807) : (l.map RE.size).foldl sat n = n + cntL l := by
  induction l generalizing n with
  | nil => simp [cntL]
  | cons k l ih =>
    rw [cntL_cons] at hb ⊢
    rw [List.map_cons, List.foldl_cons, h k (by simp)]
    have e : sat n k.cnt = n + k.cnt := by unfold sat; omega
    rw [e, ih _ (fun x hx => h x (by simp [hx])) (by omega)]
    omega
theorem size_cnt (r : RE) : r.cnt ≤ 9223372036854775807 → r.size = r.cnt := by
  refine RE.ind (P := fun r => r.cnt ≤ 9223372036854775807 → r.size = r.cnt) ?_ r
  intro o s ks ih h
  rw [RE.size_mk, RE.cnt_mk]
  rw [RE.cnt_mk] at h
  refine foldl_sat ks 1 (fun k hk => ih k hk ?_) h
  obtain ⟨u, x, e⟩ := List.append_of_mem hk
  rw [e, cntL_append, cntL_cons] at h
  omega
end Go.Proofs.YthemadegffhmfaaDoor
/- What stands behind a byte: just those texts. -/
namespace Go.Proofs.YthemadegffhmfaaDoor
set_option maxRecDepth 100000
set_option linter.unusedSimpArgs false
set_option linter.unusedVariables false
open Go.RowKit

theorem by_head {b : Nat} {t : List Nat} (hb : b < 256) (ht : By t) : By (b :: t) := fun x hx => by
  rcases List.mem_cons.1 hx with rfl | h
  · exact hb
  · exact ht x h
theorem lang_two (x y : RE) (t : List Nat) : (rThen [x, y]).lang t ↔ ∃ u v, t = u ++ v ∧ x.lang u ∧ y.lang v := by
  rw [lang_then]
  simp only [List.map_cons, List.map_nil, catG]
  constructor
  · rintro ⟨u, v, rfl, h1, w, z, rfl, h2, rfl⟩
    exact ⟨u, w, by simp, h1, h2⟩
  · rintro ⟨u, v, rfl, h1, h2⟩
    exact ⟨u, v, rfl, h1, v, [], by simp, h2, rfl⟩
/-- Behind a byte, in a row. -/
theorem lang_cons (b : Nat) (k : RE) (ks : List RE) (hk : Wf k) (hb : b < 256) (ih : ∀ t, By t → ((rBy b k).lang t ↔ k.lang (b :: t))) (t : List Nat) (ht : By t) :
    catG ((k :: ks).map RE.lang) (b :: t) ↔ (rThen [rBy b k, rThen ks]).lang t ∨ (k.null = true ∧ catG (ks.map RE.lang) (b :: t)) := by
  rw [lang_two, List.map_cons, catG, null_lang k hk]
  constructor
  · rintro ⟨u, v, e, h1, h2⟩
    cases u with
    | nil =>
      rw [List.nil_append] at e; subst e
      exact .inr ⟨h1, h2⟩
    | cons c u =>
      rw [List.cons_append] at e
      injection e with e1 e2
      subst e1 e2
      exact .inl ⟨u, v, rfl, (ih u ht.left).2 h1, (lang_then ks v).2 h2⟩
  · rintro (⟨u, v, rfl, h1, h2⟩ | ⟨h1, h2⟩)
    · exact ⟨b :: u, v, rfl, (ih u ht.left).1 h1, (lang_then ks v).1 h2⟩
    · exact ⟨[], b :: t, rfl, h1, h2⟩
theorem wf_byRow (b : Nat) {l : List RE} (h : ∀ r ∈ l, Wf r) : Wf (byOf (behRow b l)) := wf_byOf (wf_behRow b h)
theorem lang_row (b : Nat) (hb : b < 256) : ∀ (l : List RE), (∀ r ∈ l, Wf r) → (∀ k ∈ l, ∀ t, By t → ((rBy b k).lang t ↔ k.lang (b :: t))) → ∀ t, By t → ((byOf (behRow b l)).lang t ↔ catG (l.map RE.lang) (b :: t))
  | [], _, _, t, _ => by
    rw [byRow_nil]
    exact iff_of_false (lang_nothing t) (by simp [catG])
  | k :: ks, hw, hi, t, ht => by
    have hk := hw k (by simp)
    have hks : ∀ r ∈ ks, Wf r := fun r hr => hw r (by simp [hr])
    have ih := lang_row b hb ks hks (fun k h => hi k (by simp [h])) t ht
    rw [lang_cons b k ks hk hb (hi k (by simp)) t ht, by_cons b hk hks, ← ih]
    by_cases hn : k.null = true
    · rw [if_pos hn, lang_any]
      · constructor
        · rintro ⟨r, hr, h⟩
          rcases List.mem_cons.1 hr with rfl | hr
          · exact .inl h
          · rw [List.mem_singleton] at hr; subst hr
            exact .inr ⟨hn, h⟩
        · rintro (h | ⟨-, h⟩)
          · exact ⟨_, by simp, h⟩
          · exact ⟨byOf (behRow b ks), by simp, h⟩
      · intro r hr
        rcases List.mem_cons.1 hr with rfl | hr
        · refine wf_then fun x hx => ?_
          rcases List.mem_cons.1 hx with rfl | hx
          · exact wf_by b hk
          · rw [List.mem_singleton] at hx; subst hx; exact wf_then hks
        · rw [List.mem_singleton] at hr; subst hr; exact wf_byRow b hks
    · rw [if_neg hn]
      exact ⟨.inl, fun h => h.elim id fun h => absurd h.1 hn⟩
theorem star_cons {l : Lg} {b : Nat} {t : List Nat} : starG l (b :: t) ↔ ∃ u v, t = u ++ v ∧ l (b :: u) ∧ starG l v := by
  constructor
  · intro h
    generalize e : b :: t = x at h
    cases h with
    | nil => cases e
    | cons u v h0 h1 h2 =>
      cases u with
      | nil => exact absurd rfl h0
      | cons c u =>
        rw [List.cons_append] at e
        injection e with e1 e2
        subst e1
        exact ⟨u, v, e2, h1, h2⟩
  · rintro ⟨u, v, rfl, h1, h2⟩
    exact .cons (b :: u) v (by simp) h1 h2
theorem lang_5 (s : BitVec 256) (k : RE) (t : List Nat) : (RE.mk 5 s [k]).lang t ↔ starG k.lang t := by
  rw [lang5 (r := RE.mk 5 s [k]) rfl]
  constructor
  · rintro (rfl | ⟨l, e, h⟩)
    · exact .nil
    · simp only [RE.kids, List.map_cons, List.map_nil] at e
      injection e with e1 _
      subst e1; exact h
  · intro h
    exact .inr ⟨_, rfl, h⟩
/-- By: just the texts behind the byte. -/
theorem lang_by (b : Nat) (hb : b < 256) (r : RE) : Wf r → ∀ t, By t → ((rBy b r).lang t ↔ r.lang (b :: t)) := by
  induction r using RE.ind with
  | h o s ks ih =>
    intro hw t ht
    have hk : ∀ k ∈ ks, Wf k := hw.kid
    have hsh : Shp o s ks := hw.shp
    have ho := hsh.op
    have ihk : ∀ k ∈ ks, ∀ t, By t → ((rBy b k).lang t ↔ k.lang (b :: t)) := fun k h => ih k h (hk k h)
    have hmap : ∀ x ∈ ks.map (rBy b), Wf x := fun x hx => by
      obtain ⟨k, h, rfl⟩ := List.mem_map.1 hx
      exact wf_by b (hk k h)
    by_cases h2 : o = 2
    · subst h2
      rw [by_2, lang2 (r := RE.mk 2 s ks) rfl]
      simp only [RE.set]
      split
      · rename_i h
        rw [lang_empty]
        constructor
        · rintro rfl; exact ⟨b, rfl, h⟩
        · rintro ⟨x, e, -⟩; injection e
      · rename_i h
        refine iff_of_false (lang_nothing t) ?_
        rintro ⟨x, e, h'⟩
        injection e with e1 e2
        subst e1; exact h h'
    · by_cases h3 : o = 3
      · subst h3
        rw [rBy, beh3, lang_row b hb ks hk ihk t ht, lang3 (r := RE.mk 3 s ks) rfl]; rfl
      · by_cases h5 : o = 5
        · subst h5
          obtain ⟨k, rfl, -⟩ := hsh.star rfl
          rw [by_5 b hw, lang_two, lang_5, star_cons]
          constructor
          · rintro ⟨u, v, rfl, h1, h2⟩
            exact ⟨u, v, rfl, (ihk k (by simp) u ht.left).1 h1, (lang_5 s k v).1 h2⟩
          · rintro ⟨u, v, rfl, h1, h2⟩
            exact ⟨u, v, rfl, (ihk k (by simp) u ht.left).2 h1, (lang_5 s k v).2 h2⟩
        · by_cases h4 : o = 4
          · subst h4
            rw [by_467 b 4 (by omega) hw, lang4 (r := RE.mk 4 s ks) rfl]
            have e : rWith (.mk 4 s ks) (ks.map (rBy b)) = rAny (ks.map (rBy b)) := by simp [rWith, RE.op]
            rw [e, lang_any hmap]
            simp only [RE.kids, List.mem_map]
            constructor
            · rintro ⟨r, ⟨k, hkk, rfl⟩, h⟩
              exact ⟨k, hkk, (ihk k hkk t ht).1 h⟩
            · rintro ⟨k, hkk, h⟩
              exact ⟨_, ⟨k, hkk, rfl⟩, (ihk k hkk t ht).2 h⟩
          · by_cases h6 : o = 6
            · subst h6
              rw [by_467 b 6 (by omega) hw, lang6 (r := RE.mk 6 s ks) rfl]
              have e : rWith (.mk 6 s ks) (ks.map (rBy b)) = rBoth (ks.map (rBy b)) := by simp [rWith, RE.op]
              rw [e, lang_both hmap t ht]
              simp only [RE.kids, List.mem_map]
              constructor
              · intro h k hkk
                exact (ihk k hkk t ht).1 (h _ ⟨k, hkk, rfl⟩)
              · rintro h r ⟨k, hkk, rfl⟩
                exact (ihk k hkk t ht).2 (h k hkk)
            · by_cases h7 : o = 7
              · subst h7
                obtain ⟨x, y, rfl, -⟩ := hsh.minus rfl
                rw [by_467 b 7 (by omega) hw, lang7 (r := RE.mk 7 s [x, y]) rfl]
                have e : rWith (.mk 7 s [x, y]) ([x, y].map (rBy b)) = rBut (rBy b x) (rBy b y) := by simp [rWith, RE.op]
                rw [e, lang_but (wf_by b (hk x (by simp))) (wf_by b (hk y (by simp))), ihk x (by simp) t ht, ihk y (by simp) t ht]
                simp only [RE.kids, List.map_cons, List.map_nil]
                constructor
                · rintro ⟨h1, h2⟩; exact ⟨_, _, rfl, h1, h2⟩
                · rintro ⟨a, c, e, h1, h2⟩
                  injection e with e1 e; injection e with e2 _
                  subst e1 e2
                  exact ⟨h1, h2⟩
              · rw [by_01 b o s ks (by omega)]
                refine iff_of_false (lang_nothing t) ?_
                intro h
                rw [RE.lang_mk] at h
                unfold opG at h
                rw [if_neg h2, if_neg h3, if_neg h4, if_neg h5, if_neg h6, if_neg h7] at h
                split at h
                · cases h
                · exact h
end Go.Proofs.YthemadegffhmfaaDoor
/- package deriv: Match. -/
namespace Go.Proofs.YthemadegffhmfaaDoor
set_option maxRecDepth 100000
set_option linter.unusedSimpArgs false
set_option linter.unusedVariables false
open Go.RowKit

/-- What is left of a row behind a text; false: nothing can. -/
def mrun : List Nat → List RE → List RE × Bool
  | [], l => (l, true)
  | b :: t, l => if (behRow b l).2 then mrun t (behRow b l).1 else ((behRow b l).1, false)
def MFits : List Nat → List RE → Prop
  | [], _ => True
  | b :: t, l => FitsRow b l ∧ ((behRow b l).2 = true → MFits t (behRow b l).1)
def matchB (t : List Nat) (r : RE) : Bool := (mrun t [r]).2 && (mrun t [r]).1.all RE.null
theorem match_row : ∀ (t : List Nat) (l : List RE), (∀ r ∈ l, Wf r) → By t → (((mrun t l).2 && (mrun t l).1.all RE.null) = true ↔ catG (l.map RE.lang) t)
  | [], l, hw, _ => by
    rw [mrun, Bool.true_and, catG_nil, List.all_eq_true]
    constructor
    · intro h g hg
      obtain ⟨r, hr, rfl⟩ := List.mem_map.1 hg
      exact (null_lang r (hw r hr)).1 (h r hr)
    · intro h r hr
      exact (null_lang r (hw r hr)).2 (h _ (List.mem_map.2 ⟨r, hr, rfl⟩))
  | b :: t, l, hw, ht => by
    have hb : b < 256 := ht b (by simp)
    have ht' : By t := fun x hx => ht x (by simp [hx])
    have hrow := lang_row b hb l hw (fun k hk => lang_by b hb k (hw k hk)) t ht'
    have ih := match_row t (behRow b l).1 (wf_behRow b hw) ht'
    rw [← hrow, mrun]
    unfold byOf
    by_cases hd : (behRow b l).2 = true
    · rw [if_pos hd, if_pos hd, ih, lang_then]
    · rw [if_neg hd, if_neg hd]
      simp only [Bool.false_and, Bool.false_eq_true, false_iff]
      exact lang_nothing t
theorem match_lang (t : List Nat) (r : RE) (hw : Wf r) (ht : By t) : matchB t r = true ↔ r.lang t := by
  unfold matchB
  rw [match_row t [r] (fun x hx => by simp at hx; subst hx; exact hw) ht]
  exact catG_one r.lang t

theorem all_any_not (l : List RE) : (!(l.any fun r => !r.null)) = l.all RE.null := by
  induction l with
  | nil => rfl
  | cons x l ih => rw [List.any_cons, List.all_cons, ← ih]; cases x.null <;> simp

set_option maxHeartbeats 1000000 in
theorem match_of (v : Value) (r : RE) (s : ByteArray) (w : World) (hs : s.size ≤ 1099511627776) (hw : Wf r) (hf : MFits (bytesN s) [r]) (hT : TabAt w)
    (hset : Calls Tryd.prog 34 #[v] w fun e w' => ∃ c, e = .returned (PT c) ∧ ReAt w' c r ∧ Below w.heap.size w w') :
    Calls Tryd.prog 13 #[v, .string s] w fun e w' => e = .returned (.bool (matchB (bytesN s) r)) ∧ Below w.heap.size w w' := by
  have HT := hide hT
  have HF := hide hf
  have hlt256 : ∀ x ∈ bytesN s, x < 256 := fun x hx => by
    obtain ⟨u, -, rfl⟩ := List.mem_map.1 hx
    exact u.toNat_lt
  have H256 := hide hlt256
  have hbl : (bytesN s).length = s.size := by simp [bytesN]
  have HBL := hide hbl
  have HIX : Hid (∀ k, ∀ hk : k < s.size, (bytesN s).drop k = (s[k]'hk).toNat :: (bytesN s).drop (k + 1)) := by
    show ∀ k, _
    intro k hk
    rw [List.drop_eq_getElem_cons (by rw [hbl]; exact hk)]
    congr 1
    simp [bytesN]; rfl
  have HRES : Hid (matchB (bytesN s) r = ((mrun (bytesN s) [r]).2 && (mrun (bytesN s) [r]).1.all RE.null)) := rfl
  clear hT hf hlt256 hbl
  generalize matchB (bytesN s) r = res at *
  go_enter Tryd.func13, Tryd.ntmps13
  go_wp2_with fail
  refine hset.mono ?_
  rintro e w1 ⟨c, rfl, h1, h2⟩
  have hb3 := (Below.refl w1.heap.size w1).alloc (Nat.le_refl _) (.cells #[PT c] 27)
  have hB := Blk.newAt (w := w1) rfl #[PT c] 27
  have hrow0 : ResRow (w1.alloc (.cells #[PT c] 27)) (.slice (some ⟨w1.heap.size, 0, none⟩) 1 1) [r] := resRow_one hB (h1.keep hb3)
  have hbw0 := h2.trans (hb3.mono h2.size)
  have hw0 : ∀ x ∈ [r], Wf x := fun x hx => by simp at hx; subst hx; exact hw
  clear h1 h2 hset
  unfold PT at hrow0 hbw0 hb3 ⊢
  go_wp2
  go_loopw [5, 6, 7] (fun row ok i wr => ∃ (k : Nat) (l : List RE) (okb : Bool), k ≤ s.size ∧ i = .int .i64 k ∧ ok = .bool okb ∧ Hid (ResRow wr row l) ∧ Hid (∀ x ∈ l, Wf x) ∧ Hid (Below w.heap.size w wr) ∧
    Hid (okb = true → mrun ((bytesN s).drop k) l = mrun (bytesN s) [r] ∧ MFits ((bytesN s).drop k) l) ∧ Hid (okb = false → (mrun (bytesN s) [r]).2 = false)) (fun _ _ i _ => s.size - (intOf i).toNat)
  case atStart => exact ⟨0, [r], true, by omega, rfl, rfl, hrow0, hw0, hbw0, fun _ => ⟨rfl, HF.out⟩, fun h => by cases h⟩
  case round =>
    clear hrow0 hbw0 hw0 hb3 hB
    obtain ⟨k, l, okb, hk, rfl, rfl, HROW, HW, HB, H1, H0⟩ := hrel
    have hTW : TabAt wr := HT.out.agree (Agree.of_all (K := fun _ => True) HB.out) trivial
    obtain ⟨-, ad, cap, rfl, -⟩ := HROW.out.at
    cases okb with
    | false =>
      have HX : Hid (res = false) := by show _ = _; rw [HRES.out, H0.out rfl]; rfl
      clear H1 H0 hTW HRES
      go_wp2
      go_ret
      exact ⟨by rw [HX.out]; rfl, HB.out⟩
    | true =>
      obtain ⟨hm, hfit⟩ := H1.out rfl
      by_cases hlt : k < s.size
      · have hkd : decide (k < s.size) = true := by simp [hlt]
        have hks : k < s.size := hlt
        have hix := HIX.out k hlt
        obtain ⟨b, hbd⟩ : ∃ b : Nat, b = (s[k]'hks).toNat := ⟨_, rfl⟩
        have hidx := fun w => run_index_string (P := Tryd.prog) w 9 s .i64 (k : Int) Tryd.underlying9
        have hkk : (0 : Int) ≤ k ∧ (k : Int) < s.size := ⟨by omega, by omega⟩
        simp only [dif_pos hkk, Int.toNat_natCast] at hidx
        rw [← hbd] at hidx hix
        have hb256 : b < 256 := by rw [hbd]; exact UInt8.toNat_lt _
        rw [hix] at hm hfit
        have HC := hide (behindRow_any b l _ wr (fun x hx => behind_all b hb256 x (HW.out x hx) (hfit.1.el x hx)) HW.out hfit.1 HROW.out hTW)
        have HM := hide hm
        have HFT := hide hfit
        have hk63 : k + 1 ≤ 1099511627776 := by omega
        clear hbd hix hm hfit hTW H1 H0
        go_wp2_with fail
        refine HC.out.mono ?_
        rintro e w2 ⟨v2, ps2, rfl, hps2, hfine, hel, hb2⟩
        have hrow := hfine.row.res hel
        rw [hps2] at hrow
        have HR2 := hide hrow
        have HB2 := hide (HB.out.trans (hb2.mono HB.out.size))
        have HW2 := hide (wf_behRow b HW.out)
        have HN1 : Hid ((behRow b l).2 = true → mrun ((bytesN s).drop (k + 1)) (behRow b l).1 = mrun (bytesN s) [r] ∧ MFits ((bytesN s).drop (k + 1)) (behRow b l).1) := by
          show _ → _
          intro hd
          refine ⟨?_, HFT.out.2 hd⟩
          have := HM.out
          rw [mrun, if_pos hd] at this
          exact this
        have HN0 : Hid ((behRow b l).2 = false → (mrun (bytesN s) [r]).2 = false) := by
          show _ → _
          intro hd
          have := HM.out
          rw [mrun, if_neg (by rw [hd]; simp)] at this
          rw [← this]
        clear hps2 hfine hel hb2 hrow HC HM HFT
        generalize behRow b l = d at *
        obtain ⟨-, ad2, cap2, rfl, -⟩ := HR2.out.at
        go_wp2
        exact ⟨⟨k + 1, d.1, d.2, by omega, by go_num, rfl, HR2.out, HW2.out, HB2.out, HN1.out, HN0.out⟩, by simp [intOf]; omega⟩
      · obtain rfl : k = s.size := by omega
        have hkd : decide (s.size < s.size) = false := by simp
        rw [show (bytesN s).drop s.size = [] from List.drop_eq_nil_of_le (by rw [HBL.out]; exact Nat.le_refl _), mrun] at hm
        have HX : Hid (res = !(l.any fun r => !r.null)) := by show _ = _; rw [HRES.out, ← hm, all_any_not]; simp
        clear hm hfit H1 H0 hTW HRES
        have HC := hide (containsFunc_any 39 (enters_of Tryd.func39 (by kernel_rfl) rfl) (fun r => !r.null) l _ wr HROW.out (fun b r h => needsByte_any b r wr h))
        generalize (l.any fun r => !r.null) = z at *
        go_wp2_with fail
        refine HC.out.mono ?_
        rintro e w2 ⟨rfl, rfl⟩
        clear HC
        go_wp2
        go_ret
        exact ⟨by rw [HX.out]; rfl, HB.out⟩

theorem match_any (p : Nat) (r : RE) (s : ByteArray) (w : World) (hs : s.size ≤ 1099511627776) (hw : Wf r) (hf : MFits (bytesN s) [r]) (h : ReAt w p r) (hT : TabAt w) :
    Calls Tryd.prog 13 #[PT p, .string s] w fun e w' => e = .returned (.bool (matchB (bytesN s) r)) ∧ Below w.heap.size w w' :=
  match_of _ r s w hs hw hf hT ((dsettled_any p r w h).mono fun e w' ⟨he, hb⟩ => ⟨p, he, h.keep hb, hb⟩)
theorem mfits_nothing : ∀ t : List Nat, MFits t [rNothing]
  | [] => trivial
  | b :: t => ⟨fitsRow_cnt b _ (fun x hx => by simp at hx; subst hx; exact wf_nothing) (by rw [cntL_one, cnt_nothing]; omega), fun h => by
      rw [show behRow b [rNothing] = ([], false) from by
        unfold behRow
        rw [List.map_cons, List.map_nil, show rNothing.beh b = ([], false) from beh01 b 0 0#256 [] (.inl rfl)]
        simp [wayL, pack]] at h
      cases h⟩
theorem match_nil (s : ByteArray) (w : World) (hs : s.size ≤ 1099511627776) (hT : TabAt w) :
    Calls Tryd.prog 13 #[.pointer none, .string s] w fun e w' => e = .returned (.bool false) ∧ Below w.heap.size w w' := by
  have h := match_of _ rNothing s w hs wf_nothing (mfits_nothing _) hT (dsettled_nil w)
  have e : matchB (bytesN s) rNothing = false := by
    rw [Bool.eq_false_iff]
    intro h
    rw [match_lang _ _ wf_nothing (fun x hx => by
      obtain ⟨u, -, rfl⟩ := List.mem_map.1 hx
      exact u.toNat_lt)] at h
    exact lang_nothing _ h
  rw [e] at h
  exact h
end Go.Proofs.YthemadegffhmfaaDoor
/- The document's example, as layer 5 asks it first. -/
namespace Go.Proofs.YthemadegffhmfaaDoor
set_option maxRecDepth 100000
set_option linter.unusedSimpArgs false
set_option linter.unusedVariables false
open Go.RowKit

theorem behRow_sq (b : Nat) {l : List RE} (hw : ∀ r ∈ l, Wf r) : cntL (behRow b l).1 ≤ 2 + cntL l * cntL l + cntL l := by
  have h1 := (cnt_pack (wayL l (l.map (RE.beh b)))).2
  have h2 := waySum_sq l (l.map (RE.beh b)) (by simp) (fun i h1 h2 => by simpa using beh_sq b l[i] (hw _ (List.getElem_mem h1)))
  exact Nat.le_trans h1 h2
theorem mfits_step {b : Nat} {t : List Nat} {l : List RE} (hw : ∀ r ∈ l, Wf r) (c c' : Nat) (hc : cntL l ≤ c) (h1 : c ≤ 1000000) (h2 : 2 + c * c + c ≤ c') (ih : ∀ l', (∀ r ∈ l', Wf r) → cntL l' ≤ c' → MFits t l') : MFits (b :: t) l := by
  refine ⟨fitsRow_cnt b l hw (by omega), fun _ => ih _ (wf_behRow b hw) ?_⟩
  have := behRow_sq b hw
  have := sq_mono hc
  omega
theorem mfits_four (t : List Nat) (ht : t.length ≤ 4) (l : List RE) (hw : ∀ r ∈ l, Wf r) (hc : cntL l ≤ 4) : MFits t l := by
  match t, ht with
  | [], _ => trivial
  | [a], _ => exact mfits_step hw 4 22 hc (by omega) (by omega) fun _ _ _ => trivial
  | [a, b], _ => exact mfits_step hw 4 22 hc (by omega) (by omega) fun l hw hc => mfits_step hw 22 508 hc (by omega) (by omega) fun _ _ _ => trivial
  | [a, b, c], _ => exact mfits_step hw 4 22 hc (by omega) (by omega) fun l hw hc => mfits_step hw 22 508 hc (by omega) (by omega) fun l hw hc => mfits_step hw 508 258574 hc (by omega) (by omega) fun _ _ _ => trivial
  | [a, b, c, d], _ => exact mfits_step hw 4 22 hc (by omega) (by omega) fun l hw hc => mfits_step hw 22 508 hc (by omega) (by omega) fun l hw hc => mfits_step hw 508 258574 hc (by omega) (by omega) fun l hw hc => mfits_step hw 258574 66860772052 hc (by omega) (by omega) fun _ _ _ => trivial

def hdW : RE := rWord [97, 98]
def hdS : RE := rMany hdW
theorem letter_mk (c : Nat) (h : setOf [c] ≠ 0#256) : rLetter c = .mk 2 (setOf [c]) [] := rOne_set _ h
theorem word_wf (t : List Nat) : Wf (rWord t) := wf_then fun x hx => by
  obtain ⟨c, -, rfl⟩ := List.mem_map.1 hx
  exact wf_one _
theorem hdW_wf : Wf hdW := word_wf _
theorem hdS_wf : Wf hdS := wf_many hdW_wf
theorem ne97 : setOf [97] ≠ 0#256 := by decide +kernel
theorem ne98 : setOf [98] ≠ 0#256 := by decide +kernel
theorem hdW_mk : hdW = .mk 3 0#256 [.mk 2 (setOf [97]) [], .mk 2 (setOf [98]) []] := by
  have h1 := letter_mk 97 ne97
  have h2 := letter_mk 98 ne98
  unfold hdW rWord
  rw [List.map_cons, List.map_cons, List.map_nil, h1, h2]
  exact then_same (fun k hk => by simp at hk; rcases hk with rfl | rfl <;> simp [RE.op]) (by simp)
theorem hdS_mk : hdS = .mk 5 0#256 [hdW] := by
  unfold hdS rMany
  rw [hdW_mk]
  simp [RE.op]
theorem hd_null : (RE.mk 2 (setOf [97]) []).null = false := by rw [RE.null_mk]; simp
theorem hd_by : rBy 97 hdS = rThen [rWord [98], hdS] := by
  have hw := hdS_wf
  rw [hdS_mk] at hw
  have hww := hdW_wf
  rw [hdW_mk] at hww
  have hl98 : Wf (RE.mk 2 (setOf [98]) []) := hww.kid _ (by simp [RE.kids])
  have h1 : rBy 97 hdW = rWord [98] := by
    rw [hdW_mk, by_3 97 hww, hd_null, if_neg (by simp), by_2, if_pos (by decide +kernel)]
    have h3 := then_group (a := []) (b := [RE.mk 2 (setOf [98]) []]) (by simp) (fun r hr => by simp at hr; subst hr; exact hl98)
    rw [then_nil] at h3
    rw [h3, List.nil_append]
    unfold rWord
    rw [List.map_cons, List.map_nil, letter_mk 98 ne98]
  rw [hdS_mk, by_5 97 hw, h1]
theorem star_even {t : List Nat} (h : starG hdW.lang t) : 2 ∣ t.length := by
  induction h with
  | nil => simp
  | cons u v h0 h1 h2 ih =>
    have h3 := (lang_word [97, 98] u (fun x hx => by simp at hx; omega)).1 h1
    rw [List.length_append, h3]
    simp only [List.length_cons, List.length_nil]
    omega
theorem by_small (t : List Nat) (h : t.all (fun x => decide (x < 256)) = true) : By t := fun x hx => by
  have := List.all_eq_true.1 h x hx
  simpa using this
theorem hd_yes : matchB [97, 98, 97, 98] hdS = true := by
  rw [match_lang _ _ hdS_wf (by_small _ rfl)]
  unfold hdS
  rw [lang_many]
  have hab : hdW.lang [97, 98] := (lang_word [97, 98] [97, 98] (by_small _ rfl)).2 rfl
  exact .cons [97, 98] [97, 98] (by simp) hab (.cons [97, 98] [] (by simp) hab .nil)
theorem hd_no : matchB [97, 98, 97] hdS = false := by
  rw [Bool.eq_false_iff]
  intro h
  rw [match_lang _ _ hdS_wf (by_small _ rfl)] at h
  unfold hdS at h
  rw [lang_many] at h
  have := star_even h
  simp at this
theorem hdS_cnt : hdS.cnt = 4 := by
  rw [hdS_mk, RE.cnt_mk, cntL_one, hdW_mk, RE.cnt_mk]
  simp [cntL, RE.cnt_mk]

set_option maxHeartbeats 1000000 in
theorem head5_any (w : World) (hT : TabAt w) :
    Calls Tryd.prog 6 #[] w fun e w' => e = .returned (.bool true) ∧ Below w.heap.size w w' := by
  have HT := hide hT
  clear hT
  go_enter Tryd.func6, Tryd.ntmps6
  go_wp2_with fail
  refine (word_any ⟨#[97, 98]⟩ w (by decide)).mono ?_
  rintro e w1 ⟨wb, rfl, h1, hb1⟩
  rw [show bytesN ⟨#[97, 98]⟩ = [97, 98] from rfl, show rWord [97, 98] = hdW from rfl] at h1
  have HB1 := hide hb1
  have HC := hide (many_any wb hdW w1 h1)
  rw [show rMany hdW = hdS from rfl] at HC
  clear h1 hb1
  go_wp2_with fail
  refine HC.out.mono ?_
  rintro e w2 ⟨sb, rfl, h2, hb2⟩
  have HB2 := hide (HB1.out.trans (hb2.mono HB1.out.size))
  have H2 := hide h2
  have HC2 := hide (By_any 97 (by omega) hdS sb w2 hdS_wf (fits_cnt 97 _ hdS_wf (by rw [hdS_cnt]; omega)) h2 (HT.out.agree (Agree.of_all (K := fun _ => True) HB2.out) trivial))
  rw [hd_by] at HC2
  clear h2 hb2 HC
  go_wp2_with fail
  refine HC2.out.mono ?_
  rintro e w3 ⟨db, rfl, h3, hb3⟩
  have HB3 := hide (HB2.out.trans (hb3.mono HB2.out.size))
  have H3 := hide h3
  have HS3 := hide (H2.out.keep hb3)
  clear h3 hb3 HC2
  go_wp2_with fail
  refine (word_any ⟨#[98]⟩ w3 (by decide)).mono ?_
  rintro e w4 ⟨bb, rfl, h4, hb4⟩
  rw [show bytesN ⟨#[98]⟩ = [98] from rfl] at h4
  have HB4 := hide (HB3.out.trans (hb4.mono HB3.out.size))
  have HS4 := hide (HS3.out.keep hb4)
  have HD4 := hide (H3.out.keep hb4)
  have hb5 := (Below.refl w4.heap.size w4).alloc (Nat.le_refl _) (.cells #[PT bb, PT sb] 27)
  have hrow : ResRow (w4.alloc (.cells #[PT bb, PT sb] 27)) (.slice (some ⟨w4.heap.size, 0, none⟩) 2 2) [rWord [98], hdS] := resRow_two (Blk.newAt rfl _ _) (h4.keep hb5) (HS4.out.keep hb5)
  have HS5 := hide (HS4.out.keep hb5)
  have HD5 := hide (HD4.out.keep hb5)
  have HB5 := hide (HB4.out.trans (hb5.mono HB4.out.size))
  have HC3 := hide (then_any [rWord [98], hdS] _ _ hrow (fun r hr => by
    simp at hr; rcases hr with rfl | rfl
    · exact word_wf _
    · exact hdS_wf) (by simp) (by
      have h1 := cntL_len (catL [rWord [98], hdS])
      have h2 := cntL_catL [rWord [98], hdS]
      have h3 := cnt_word [98]
      rw [cntL_cons, cntL_one, hdS_cnt] at h2
      simp at h3
      omega))
  clear h4 hb4 hb5 hrow
  unfold PT at HC3 ⊢
  go_wp2_with fail
  refine HC3.out.mono ?_
  rintro e w6 ⟨eb, rfl, h6, hb6⟩
  have HS6 := hide (HS5.out.keep hb6)
  have HD6 := hide (HD5.out.keep hb6)
  have HB6 := hide (HB5.out.trans (hb6.mono HB5.out.size))
  have hwd : Wf (rThen [rWord [98], hdS]) := wf_then fun r hr => by
    simp at hr; rcases hr with rfl | rfl
    · exact word_wf _
    · exact hdS_wf
  have HC4 := hide (same_re _ _ db eb w6 hwd.k hwd.k HD6.out h6 (HT.out.agree (Agree.of_all (K := fun _ => True) HB6.out) trivial))
  rw [lexN_self] at HC4
  clear h6 hb6 HC3
  go_wp2_with fail
  refine HC4.out.mono ?_
  rintro e w7 ⟨rfl, hb7⟩
  have HS7 := hide (HS6.out.keep hb7.below)
  have HB7 := hide (HB6.out.trans (hb7.below.mono HB6.out.size))
  have HC5 := hide (match_any sb hdS ⟨#[97, 98, 97, 98]⟩ w7 (by decide) hdS_wf (mfits_four _ (by decide) _ (fun r hr => by simp at hr; subst hr; exact hdS_wf) (by rw [cntL_one, hdS_cnt]; omega)) HS7.out (HT.out.agree (Agree.of_all (K := fun _ => True) HB7.out) trivial))
  rw [show bytesN ⟨#[97, 98, 97, 98]⟩ = [97, 98, 97, 98] from rfl, hd_yes] at HC5
  clear hb7 HC4
  unfold PT at HC5
  go_wp2_with fail
  refine HC5.out.mono ?_
  rintro e w8 ⟨rfl, hb8⟩
  have HS8 := hide (HS7.out.keep hb8)
  have HB8 := hide (HB7.out.trans (hb8.mono HB7.out.size))
  have HC6 := hide (match_any sb hdS ⟨#[97, 98, 97]⟩ w8 (by decide) hdS_wf (mfits_four _ (by decide) _ (fun r hr => by simp at hr; subst hr; exact hdS_wf) (by rw [cntL_one, hdS_cnt]; omega)) HS8.out (HT.out.agree (Agree.of_all (K := fun _ => True) HB8.out) trivial))
  rw [show bytesN ⟨#[97, 98, 97]⟩ = [97, 98, 97] from rfl, hd_no] at HC6
  clear hb8 HC5
  unfold PT at HC6
  go_wp2_with fail
  refine HC6.out.mono ?_
  rintro e w9 ⟨rfl, hb9⟩
  have HB9 := hide (HB8.out.trans (hb9.mono HB8.out.size))
  clear hb9 HC6
  go_wp2
  go_ret
  exact ⟨rfl, HB9.out⟩
end Go.Proofs.YthemadegffhmfaaDoor
