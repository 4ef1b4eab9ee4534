/- Texts of this claim put together: DvE, SetRow, DvG. -/
import Derived.Test.YtjcfnmjjkadaeaaGreatDoorJoinDvD
import Derived.Test.YtjcfnmjjkadaeaaGreatDoorJoinDvC
import Derived.Deep.AppendLies
/- package deriv: behind, by, By. -/
namespace Go.Proofs.YtjcfnmjjkadaeaaGreatDoor
set_option maxRecDepth 100000
set_option linter.unusedSimpArgs false
set_option linter.unusedVariables false
open Go.RowKit

theorem Fits.row {b : Nat} {o : Nat} {s : BitVec 256} {ks : List RE} (h : Fits b (.mk o s ks)) (h3 : o = 3) : FitsRow b ks := by
  cases h with
  | mk _ _ _ hk h3' h4 h5 hc =>
    refine ⟨hk, h3' h3, ?_⟩
    rw [RE.cnt_mk] at hc
    omega
theorem Fits.kid {b : Nat} {o : Nat} {s : BitVec 256} {ks : List RE} (h : Fits b (.mk o s ks)) : ∀ k ∈ ks, Fits b k := by
  cases h with
  | mk _ _ _ hk h3' h4 h5 hc => exact hk
theorem Fits.each {b : Nat} {o : Nat} {s : BitVec 256} {ks : List RE} (h : Fits b (.mk o s ks)) (ho : o = 4 ∨ o = 6 ∨ o = 7) : 1 + cntL (ks.map (rBy b)) ≤ 1099511627776 := by
  cases h with
  | mk _ _ _ hk h3' h4 h5 hc => exact h4 ho
theorem Fits.out {b : Nat} {r : RE} (h : Fits b r) : cntL (r.beh b).1 + 1 ≤ 1099511627776 := by
  cases h with
  | mk _ _ _ hk h3' h4 h5 hc => exact h5
theorem Fits.cnt {b : Nat} {r : RE} (h : Fits b r) : r.cnt ≤ 1099511627776 := by
  cases h with
  | mk _ _ _ hk h3' h4 h5 hc => exact hc

set_option maxHeartbeats 1000000 in
theorem behind_all [Forb] (b : Nat) (hb : b < 256) (r : RE) : Wf r → Fits b r → BehC b r := by
  induction r using RE.ind with
  | h o s ks ih =>
    intro hw hf p w h hT
    have hk : ∀ k ∈ ks, Wf k := hw.kid
    have hsh : Shp o s ks := hw.shp
    have ihk : ∀ k ∈ ks, BehC b k := fun k h => ih k h (hk k h) (hf.kid k h)
    have HR := hide h
    have HT := hide hT
    have c0 := h.cell0
    have HS := hide h.cellS
    obtain ⟨kv, c5, hrow⟩ := cellK h
    have HROW := hide hrow
    simp only [RE.op, RE.set, RE.kids] at c0 HS HROW hrow
    obtain ⟨-, ad, cap, rfl, -⟩ := hrow.at
    have HSH := hide hsh
    have HIH := hide ihk
    have HW := hide hw
    have HF := hide hf
    have HK := hide hk
    clear h hT hrow hsh ihk ih hw hf hk
    have hb1 : ((b : Int)) < 256 := by omega
    unfold PT
    go_enter Tryz.func140, Tryz.ntmps140
    by_cases h2 : o = 2
    · have d2 : ((o : Int) == 2) = true := by simp [h2]
      have s0 := HS.out 0 (by omega); have s1 := HS.out 1 (by omega); have s2 := HS.out 2 (by omega); have s3 := HS.out 3 (by omega)
      simp only [Nat.add_zero, Nat.reduceAdd] at s0 s1 s2 s3
      have HE : Hid ((RE.mk o s ks).beh b = ([], s.getLsbD b)) := by show _ = _; subst h2; exact beh2 b s ks
      clear h2
      have hc := has_any s b (by omega) (by omega) w
      rw [Int.toNat_natCast] at hc
      have HC := hide hc
      clear hc
      generalize s.getLsbD b = bit at *
      unfold SV at HC
      go_wp2_with fail
      refine HC.out.mono ?_
      rintro e w1 ⟨rfl, hb2⟩
      have HB := hide hb2
      clear hb2 HC
      go_wp2
      refine bodyPost_ret (v := .tuple #[.slice none 0 0, .bool bit]) (by simp [results, Tryz.results140, go_sem]) rfl ?_
      rw [HE.out]
      exact ⟨.slice none 0 0, [], rfl, rfl, Fine.nil _ _ (HR.out.keep HB.out).fl, fun p hp => by simp at hp, HB.out⟩
    · have d2 : ((o : Int) == 2) = false := beq_eq_false_iff_ne.2 (by omega)
      by_cases h3 : o = 3
      · have d3 : ((o : Int) == 3) = true := by simp [h3]
        have HE : Hid ((RE.mk o s ks).beh b = behRow b ks) := by show _ = _; subst h3; exact beh3 b s ks
        have HC := hide (behindRow_any b ks _ w HIH.out HK.out (HF.out.row h3) HROW.out HT.out)
        clear h2 h3
        go_wp2_with fail
        refine HC.out.mono ?_
        rintro e w1 ⟨v, ps, rfl, hps, hfine, hel, hb2⟩
        have H1 := hide hps
        have H2 := hide hfine
        have H3 := hide hel
        have H4 := hide hb2
        clear hps hfine hel hb2 HC
        go_wp2
        refine bodyPost_ret (v := .tuple #[v, .bool (behRow b ks).2]) (by simp [results, Tryz.results140, go_sem]) rfl ?_
        rw [HE.out]
        exact ⟨v, ps, rfl, H1.out, H2.out, H3.out, H4.out⟩
      · have d3 : ((o : Int) == 3) = false := beq_eq_false_iff_ne.2 (by omega)
        by_cases h5 : o = 5
        · have d5 : ((o : Int) == 5) = true := by simp [h5]
          subst h5
          obtain ⟨k, rfl, -⟩ := HSH.out.star rfl
          have HE : Hid ((RE.mk 5 s [k]).beh b = ((k.beh b).1 ++ [RE.mk 5 s [k]], (k.beh b).2)) := beh5 b s k
          obtain ⟨-, ad', cap', e1, g1⟩ := HROW.out.at
          obtain ⟨rfl, rfl⟩ : ad = ad' ∧ cap = cap' := by cases e1; exact ⟨rfl, rfl⟩
          obtain ⟨b1, o1, p1, rfl, -, d1, r1⟩ := g1 0 (by simp)
          simp only [List.getElem_cons_zero] at r1
          rw [Nat.add_zero] at d1
          have HC := hide (HIH.out k (by simp) p1 w r1 HT.out)
          have hout := HF.out.out
          rw [HE.out, cntL_append] at hout
          have HOUT := hide hout
          clear h2 h3 e1 g1 r1 hout
          simp only [List.length_cons, List.length_nil, Nat.zero_add] at *
          unfold PT at d1 HC
          go_wp2_with fail
          refine HC.out.mono ?_
          rintro e w1 ⟨v, ps, rfl, hps, hfine, hel, hb2⟩
          obtain ⟨-, av, cv, rfl, -⟩ := hfine.row
          have hb3 := (Below.refl w1.heap.size w1).alloc (Nat.le_refl _) (.cells #[PT p] 30)
          have hs1 := hb2.size
          have hrow1 : RowAt (w1.alloc (.cells #[PT p] 30)) (.slice (some ⟨w1.heap.size, 0, none⟩) 1 1) [(p, RE.mk 5 s [k])] := by
            refine ⟨⟨by simp, .new (Nat.le_refl _) ((HR.out.keep hb2).keep hb3).fl (HR.out.keep hb2).fl (Nat.le_refl _)⟩, some ⟨w1.heap.size, 0, none⟩, 1, rfl, fun j q hq => ⟨w1.heap.size, 0, rfl, by simp, ?_⟩⟩
            obtain rfl : j = 0 := by
              have := (List.getElem?_eq_some_iff.1 hq).1
              simp at this; exact this
            simp at hq; subst hq
            exact (Blk.newAt (w := w1) rfl #[PT p] 30).cell 0
          have hlp : ps.length + [(p, RE.mk 5 s [k])].length ≤ 1099511627776 := by
            have h1 := HOUT.out
            have h2 := cntL_len (k.beh b).1
            have h3 : ps.length = (k.beh b).1.length := by rw [← hps]; simp
            simp only [List.length_cons, List.length_nil]
            have h4 := (RE.mk 5 s [k]).cnt_kids
            rw [cntL_one] at h1
            omega
          obtain ⟨v', W', hr, hf', hb4, hel'⟩ := run_appendF (hfine.keep hb3) hrow1 59 hlp (by simp; omega) HR.out.fl
          have hreq : ReAt w1 p (RE.mk 5 s [k]) := HR.out.keep hb2
          have HFIN := hide hf'
          have HEL : Hid (∀ q ∈ ps ++ [(p, RE.mk 5 s [k])], ReAt W' q.1 q.2) := by
            show ∀ q ∈ _, _
            intro q hq
            rcases List.mem_append.1 hq with hq | hq
            · exact hel' _ _ ((hel q hq).keep hb3)
            · simp at hq; subst hq; exact hel' _ _ (hreq.keep hb3)
          have HB := hide ((hb2.trans (hb3.mono hs1)).trans hb4)
          have HPS := hide hps
          obtain ⟨-, av', cv', rfl, -⟩ := hf'.row
          simp only [List.length_append, List.length_cons, List.length_nil, Nat.zero_add] at hr HFIN
          unfold PT at hr
          clear hps hfine hel hb2 hb3 hrow1 hlp hf' hb4 hel' hreq HC
          go_wp2_with (refine wpList_append_run rfl _ _ _ rfl _ _ _ rfl rfl hr ?_)
          refine bodyPost_ret (v := .tuple #[.slice av' (ps.length + 1) cv', .bool (k.beh b).2]) (by simp [results, Tryz.results140, go_sem]) rfl ?_
          rw [HE.out]
          exact ⟨_, ps ++ [(p, RE.mk 5 s [k])], rfl, by rw [List.map_append, HPS.out]; rfl, HFIN.out, HEL.out, HB.out⟩
        · have d5 : ((o : Int) == 5) = false := beq_eq_false_iff_ne.2 (by omega)
          by_cases h4 : o = 4 ∨ o = 6 ∨ o = 7
          · have HE : Hid ((RE.mk o s ks).beh b = ([rWith (RE.mk o s ks) (ks.map (rBy b))], !((rWith (RE.mk o s ks) (ks.map (rBy b))).op == 0))) := beh467 b o s ks h4
            have hkl : ks.length ≤ 1099511627776 := by
              have h1 := HF.out.cnt
              rw [RE.cnt_mk] at h1
              have h2 := cntL_len ks
              omega
            have HC := hide (behindEach_any b (RE.mk o s ks) p w HIH.out HW.out HF.out.kid (HF.out.each h4) hkl HR.out HT.out)
            simp only [RE.kids] at HC
            have fin : ∀ e w', BPost ([rWith (RE.mk o s ks) (ks.map (rBy b))], !((rWith (RE.mk o s ks) (ks.map (rBy b))).op == 0)) w e w' → BPost ((RE.mk o s ks).beh b) w e w' := fun e w' hp => by rw [HE.out]; exact hp
            have FIN := hide fin
            generalize ([rWith (RE.mk o s ks) (ks.map (rBy b))], !((rWith (RE.mk o s ks) (ks.map (rBy b))).op == 0)) = d at *
            unfold PT at HC
            clear fin hkl h2 h3 h5
            rcases h4 with h4 | h4 | h4
            · have d4 : ((o : Int) == 4) = true := by simp [h4]
              clear h4
              go_wp2_with fail
              refine HC.out.mono ?_
              rintro e w1 ⟨v, ps, rfl, hps, hfine, hel, hb2⟩
              have HX := hide (FIN.out _ w1 ⟨v, ps, rfl, hps, hfine, hel, hb2⟩)
              clear hps hfine hel hb2 HC
              go_wp2
              exact bodyPost_ret (v := .tuple #[v, .bool d.2]) (by simp [results, Tryz.results140, go_sem]) rfl HX.out
            · have d4 : ((o : Int) == 4) = false := beq_eq_false_iff_ne.2 (by omega)
              have d6 : ((o : Int) == 6) = true := by simp [h4]
              clear h4
              go_wp2_with fail
              refine HC.out.mono ?_
              rintro e w1 ⟨v, ps, rfl, hps, hfine, hel, hb2⟩
              have HX := hide (FIN.out _ w1 ⟨v, ps, rfl, hps, hfine, hel, hb2⟩)
              clear hps hfine hel hb2 HC
              go_wp2
              exact bodyPost_ret (v := .tuple #[v, .bool d.2]) (by simp [results, Tryz.results140, go_sem]) rfl HX.out
            · have d4 : ((o : Int) == 4) = false := beq_eq_false_iff_ne.2 (by omega)
              have d6 : ((o : Int) == 6) = false := beq_eq_false_iff_ne.2 (by omega)
              have d7 : ((o : Int) == 7) = true := by simp [h4]
              clear h4
              go_wp2_with fail
              refine HC.out.mono ?_
              rintro e w1 ⟨v, ps, rfl, hps, hfine, hel, hb2⟩
              have HX := hide (FIN.out _ w1 ⟨v, ps, rfl, hps, hfine, hel, hb2⟩)
              clear hps hfine hel hb2 HC
              go_wp2
              exact bodyPost_ret (v := .tuple #[v, .bool d.2]) (by simp [results, Tryz.results140, go_sem]) rfl HX.out
          · have h01 : o = 0 ∨ o = 1 := by have := HSH.out.op; omega
            have HE : Hid ((RE.mk o s ks).beh b = ([], false)) := beh01 b o s ks h01
            have d4 : ((o : Int) == 4) = false := beq_eq_false_iff_ne.2 (by omega)
            have d6 : ((o : Int) == 6) = false := beq_eq_false_iff_ne.2 (by omega)
            have d7 : ((o : Int) == 7) = false := beq_eq_false_iff_ne.2 (by omega)
            clear h4 h5 h3 h2 h01
            go_wp2
            refine bodyPost_ret (v := .tuple #[.slice none 0 0, .bool false]) (by simp [results, Tryz.results140, go_sem]) rfl ?_
            rw [HE.out]
            exact ⟨.slice none 0 0, [], rfl, rfl, Fine.nil _ _ HR.out.fl, fun p hp => by simp at hp, Below.refl _ _⟩

theorem by_all [Forb] (b : Nat) (hb : b < 256) (r : RE) (p : Nat) (w : World) (hw : Wf r) (hf : Fits b r) (h : ReAt w p r) (hT : TabAt w) :
    Calls Tryz.prog 117 #[PT p, .int .u8 b] w fun e w' => ∃ c, e = .returned (PT c) ∧ ReAt w' c (rBy b r) ∧ Below w.heap.size w w' :=
  by_of b r p w (behind_all b hb r hw hf) hw hf h hT

theorem resettled_nil [Forb] (w : World) (hf : FL w.heap.size) : Calls Tryz.prog 71 #[.pointer none] w fun e w' => ∃ c, e = .returned (PT c) ∧ ReAt w' c rNothing ∧ Below w.heap.size w w' := by
  go_enter Tryz.func71, Tryz.ntmps71
  go_wp2_with fail
  refine (nothing_any w hf).mono ?_
  rintro e w1 ⟨c, rfl, h1, h2⟩
  have H1 := hide h1
  have H2 := hide h2
  clear h1 h2
  unfold PT
  go_wp2
  go_ret
  exact ⟨c, rfl, H1.out, H2.out⟩

theorem but_nil [Forb] (b : Nat) (r : RE) (w : World) (h : ReAt w b r) :
    Calls Tryz.prog 53 #[PT b, .pointer none] w fun e w' => e = .returned (PT b) ∧ Below w.heap.size w w' := by
  have HR := hide h
  clear h
  go_enter Tryz.func53, Tryz.ntmps53
  go_wp2_with fail
  refine (settled_any b r w HR.out).mono ?_
  rintro e w1 ⟨rfl, rfl⟩
  go_wp2_with fail
  refine (resettled_nil w1 HR.out.fl).mono ?_
  rintro e w2 ⟨c, rfl, h1, h2⟩
  have HB := hide h2
  have c0 := (HR.out.keep h2).cell0
  have d0 := h1.cell0
  simp only [rNothing, RE.op] at d0
  clear h1 h2
  unfold PT
  by_cases h0 : r.op = 0
  · have e0 : ((r.op : Int) == 0) = true := by simp [h0]
    clear h0
    go_wp2
    go_ret
    exact ⟨rfl, HB.out⟩
  · have e0 : ((r.op : Int) == 0) = false := beq_eq_false_iff_ne.2 (by omega)
    clear h0
    go_wp2
    go_ret
    exact ⟨rfl, HB.out⟩

theorem dsettled_any [Forb] (b : Nat) (r : RE) (w : World) (h : ReAt w b r) :
    Calls Tryz.prog 118 #[PT b] w fun e w' => e = .returned (PT b) ∧ Below w.heap.size w w' := by
  go_enter Tryz.func118, Tryz.ntmps118
  go_wp2_with fail
  refine (but_nil b r w h).mono ?_
  rintro e w1 ⟨rfl, h2⟩
  have HB := hide h2
  clear h2
  unfold PT
  go_wp2
  go_ret
  exact ⟨rfl, HB.out⟩
/-- By. -/
theorem By_any [Forb] (b : Nat) (hb : b < 256) (r : RE) (p : Nat) (w : World) (hw : Wf r) (hf : Fits b r) (h : ReAt w p r) (hT : TabAt w) :
    Calls Tryz.prog 83 #[PT p, .int .u8 b] w fun e w' => ∃ c, e = .returned (PT c) ∧ ReAt w' c (rBy b r) ∧ Below w.heap.size w w' := by
  have HR := hide h
  have HT := hide hT
  clear h hT
  go_enter Tryz.func83, Tryz.ntmps83
  go_wp2_with fail
  refine (dsettled_any p r w HR.out).mono ?_
  rintro e w1 ⟨rfl, h2⟩
  have HB := hide h2
  clear h2
  go_wp2_with fail
  refine (by_all b hb r p w1 hw hf (HR.out.keep HB.out) (HT.out.agree (Agree.of_all (K := fun _ => True) HB.out) trivial)).mono ?_
  rintro e w2 ⟨c, rfl, h3, h4⟩
  have H3 := hide h3
  have H4 := hide h4
  clear h3 h4
  unfold PT
  go_wp2
  go_ret
  exact ⟨c, rfl, H3.out, HB.out.trans (H4.out.mono HB.out.size)⟩
end Go.Proofs.YtjcfnmjjkadaeaaGreatDoor
/- Rows of sets of one's own: append. -/
namespace Go.Proofs.YtjcfnmjjkadaeaaGreatDoor
set_option maxRecDepth 100000
set_option linter.unusedSimpArgs false
set_option linter.unusedVariables false
open Go.RowKit

def enc4 (s : BitVec 256) : List Value := [.int .u64 (wd s 0), .int .u64 (wd s 1), .int .u64 (wd s 2), .int .u64 (wd s 3)]
def flat4 (l : List (BitVec 256)) : List Value := l.flatMap enc4
theorem flat4_length (l : List (BitVec 256)) : (flat4 l).length = l.length * 4 := by
  induction l with
  | nil => rfl
  | cons x r ih => simp [flat4, enc4] at ih ⊢; omega
theorem flat4_append (a b : List (BitVec 256)) : flat4 (a ++ b) = flat4 a ++ flat4 b := by simp [flat4]
theorem flat4_get (l : List (BitVec 256)) : ∀ (k : Nat), k < l.length → ∀ j, j < 4 → (flat4 l)[k * 4 + j]? = some (.int .u64 (wd (l.getD k 0) j)) := by
  induction l with
  | nil => intro k hk; simp at hk
  | cons x r ih =>
    intro k hk j hj
    rw [show flat4 (x :: r) = enc4 x ++ flat4 r from by simp [flat4]]
    cases k with
    | zero =>
      rw [List.getElem?_append_left (by simp [enc4]; omega)]
      simp
      match j, hj with
      | 0, _ => rfl
      | 1, _ => rfl
      | 2, _ => rfl
      | 3, _ => rfl
    | succ k =>
      rw [List.getElem?_append_right (by simp [enc4]; omega), show (k + 1) * 4 + j - (enc4 x).length = k * 4 + j from by simp [enc4]; omega, ih k (by simpa using hk) j hj]
      simp
theorem flat4_one : ∀ (l : List (BitVec 256)), ∀ u ∈ flat4 l, u.oneCell' = true := by
  intro l u hu
  obtain ⟨s, -, hs⟩ := List.mem_flatMap.1 hu
  simp [enc4] at hs
  rcases hs with rfl | rfl | rfl | rfl <;> rfl
/-- A row of sets of its own. -/
def Own4 (W : World) (base : Nat) (v : Value) (l : List (BitVec 256)) : Prop := W.ownsRow base 89 4 v l.length (flat4 l)
theorem Own4.nil (W : World) (base : Nat) : Own4 W base (.slice none 0 0) [] := ⟨rfl, .inl ⟨rfl, rfl⟩⟩
theorem Own4.keep {W W' : World} {base : Nat} {v : Value} {l : List (BitVec 256)} (h : Own4 W base v l) (hb : Below W.heap.size W W') : Own4 W' base v l := own_below h hb
theorem Own4.lower {W : World} {base base' : Nat} {v : Value} {l : List (BitVec 256)} (h : Own4 W base v l) (hb : base' ≤ base) : Own4 W base' v l := by
  refine ⟨h.1, ?_⟩
  rcases h.2 with h2 | ⟨g, cap, cur, h1, h2, h3⟩
  · exact .inl h2
  · exact .inr ⟨g, cap, cur, h1, Nat.le_trans hb h2, h3⟩
theorem Own4.slice {W : World} {base : Nat} {v : Value} {l : List (BitVec 256)} (h : Own4 W base v l) : ∃ a cap, v = .slice a l.length cap ∧ l.length ≤ cap := by
  rcases h.2 with ⟨rfl, h0⟩ | ⟨g, cap, cur, h1, h2, h3, h4, -⟩
  · rw [h0]; exact ⟨none, 0, rfl, by omega⟩
  · exact ⟨_, _, h1, h4⟩
theorem Own4.row {W : World} {base : Nat} {v : Value} {l : List (BitVec 256)} (h : Own4 W base v l) (hl : l.length ≤ 9223372036854775807) : SetsRow W v l := by
  rcases h.2 with ⟨rfl, e⟩ | ⟨g, cap, cur, rfl, hb, hg, h1, h2, h3, h4⟩
  · exact ⟨hl, none, 0, by rw [e], fun k hk => by omega⟩
  · refine ⟨hl, _, cap, rfl, fun k hk => ⟨g, 0, rfl, (Array.getElem?_eq_some_iff.1 hg).1, fun j hj => ?_⟩⟩
    have hblk : Blk W g cur 89 := hg
    rw [hblk.cell, Nat.zero_add, ← flat4_get l k hk j hj, ← h4, List.getElem?_take, if_pos (by omega)]
    simp
theorem own4_new {W : World} {g : Nat} {base : Nat} (s : BitVec 256) (hg : Blk W g (WS s) 89) (hb : base ≤ g) : Own4 W base (.slice (some ⟨g, 0, none⟩) 1 1) [s] :=
  ⟨by simp [flat4, enc4], .inr ⟨g, 1, WS s, rfl, hb, hg, by simp, by unfold maxLen; omega, rfl, by simp [flat4, enc4, WS]⟩⟩
theorem info4 : (Tryz.prog.info? 89).map (fun i => (i.zero, i.size, i.bytes)) = some (some (.agg #[.int .u64 0, .int .u64 0, .int .u64 0, .int .u64 0]), 4, 32) := by kernel_rfl
/-- What lies in a row of sets, cell by cell. -/
theorem SetsRow.cells {w : World} {v : Value} {l : List (BitVec 256)} (h : SetsRow w v l) (h0 : 0 < l.length) : ∃ b off cap, v = .slice (some ⟨b, off, none⟩) l.length cap ∧ ∀ j u, (flat4 l)[j]? = some u → w.cell? ((⟨b, off, none⟩ : Addr).add j) = some u := by
  obtain ⟨h1, a, cap, rfl, h2⟩ := h
  obtain ⟨b, off, rfl, -, -⟩ := h2 0 h0
  refine ⟨b, off, cap, rfl, fun j u hu => ?_⟩
  have hj : j < l.length * 4 := by rw [← flat4_length]; exact (List.getElem?_eq_some_iff.1 hu).1
  obtain ⟨b', off', e, -, hc⟩ := h2 (j / 4) (by omega)
  injection e with e; injection e with e1 e2
  subst e1 e2
  have h3 := hc (j % 4) (by omega)
  have h4 := flat4_get l (j / 4) (by omega) (j % 4) (by omega)
  rw [show j / 4 * 4 + j % 4 = j from by omega, hu] at h4
  rw [Go.WideShapes.add_plain, show off + j = off + j / 4 * 4 + j % 4 from by omega, h3]
  exact h4.symm
/-- append of sets. -/
theorem run_append4 {W : World} {base : Nat} {v u : Value} {xs ys : List (BitVec 256)} (h : Own4 W base v xs) (hu : SetsRow W u ys) (ty : TypeId) (hl : xs.length + ys.length ≤ 1099511627776) (hbase : base ≤ W.heap.size) :
    ∃ v' W', (Builtin.append_ #[125, 125] ty #[v, u]).run Tryz.prog W = .ok v' W' ∧ Own4 W' base v' (xs ++ ys) ∧ ∀ w0 N, N ≤ base → N ≤ w0.heap.size → Below N w0 W → Below N w0 W' := by
  obtain ⟨i, hi, hz0, hz1, hz2⟩ := info_parts info4
  rcases Nat.eq_zero_or_pos ys.length with h0 | h0
  · obtain rfl : ys = [] := List.length_eq_zero_iff.1 h0
    obtain ⟨a, cap, rfl, hcap⟩ := h.slice
    obtain ⟨-, ua, uc, rfl, -⟩ := hu
    have hs : Src Tryz.prog i.size 125 (.slice ua ([] : List (BitVec 256)).length uc) 0 [] W := by
      cases ua with
      | none => exact Src.ofNil (w := W) Tryz.underlying125 uc
      | some a => exact Src.ofSlice (w := W) Tryz.underlying125 a 0 uc [] (by simp) (by simp) (by simp)
    exact ⟨_, W, run_append_nothing W _ _ _ 89 i Tryz.underlying125 hi a xs.length cap hcap _ hs, by rw [List.append_nil]; exact h, fun _ _ _ _ h => h⟩
  · obtain ⟨b, off, c, rfl, hc⟩ := hu.cells h0
    obtain ⟨g, cap, w', hr, h2, h3, -, -⟩ := run_append_lies (P := Tryz.prog) W 125 ty base 89 i _ 4 32 Tryz.underlying125 hi hz0 hz1 hz2 rfl (by omega) v xs.length (flat4 xs) h ⟨b, off, none⟩ ys.length c (flat4 ys) (flat4_length ys) hc (flat4_one ys) h0 (by unfold maxLen; omega) (by omega) hbase _ rfl
    refine ⟨_, w', hr, ?_, fun w0 N hN hN0 hb => below_grown hb h3 (h.lower hN) hN0⟩
    unfold Own4
    rw [List.length_append, flat4_append]
    exact h2
end Go.Proofs.YtjcfnmjjkadaeaaGreatDoor
/- package deriv: the sets of an expression. -/
namespace Go.Proofs.YtjcfnmjjkadaeaaGreatDoor
set_option maxRecDepth 100000
set_option linter.unusedSimpArgs false
set_option linter.unusedVariables false
open Go.RowKit

/-- How many kids are asked: all, or those in which a first byte can lie. -/
def pickN (f : Bool) (o : Nat) (ks : List RE) : Nat := if f = true ∧ o = 3 then leadN ks else ks.length
def RE.sts (f : Bool) : RE → List (BitVec 256)
  | .mk o s ks => if o = 2 then [s] else ((ks.map fun k => k.sts f).take (pickN f o ks)).flatten
theorem RE.sts_mk (f : Bool) (o : Nat) (s : BitVec 256) (ks : List RE) : (RE.mk o s ks).sts f = if o = 2 then [s] else ((ks.map (RE.sts f)).take (pickN f o ks)).flatten := by rw [RE.sts]
def stsN (f : Bool) (l : List RE) (k : Nat) : List (BitVec 256) := ((l.map (RE.sts f)).take k).flatten
theorem stsN_succ (f : Bool) (l : List RE) (k : Nat) (h : k < l.length) : stsN f l (k + 1) = stsN f l k ++ (l[k]).sts f := by
  unfold stsN
  rw [List.take_succ_eq_append_getElem (by simpa using h), List.flatten_append, List.getElem_map]
  simp
theorem stsN_all (f : Bool) (l : List RE) : stsN f l l.length = (l.map (RE.sts f)).flatten := by
  unfold stsN
  rw [List.take_of_length_le (by simp)]
theorem pickN_le (f : Bool) (o : Nat) (ks : List RE) : pickN f o ks ≤ ks.length := by
  unfold pickN
  split
  · exact leadN_le ks
  · exact Nat.le_refl _
theorem flatten_le (f : Bool) : ∀ (l : List RE) (k : Nat), (∀ r ∈ l, (r.sts f).length ≤ r.cnt) → (((l.map (RE.sts f)).take k).flatten).length ≤ cntL l
  | [], k, _ => by simp
  | x :: l, 0, _ => by simp
  | x :: l, k + 1, h => by
    have ih := flatten_le f l k (fun r hr => h r (by simp [hr]))
    have h0 := h x (by simp)
    rw [List.map_cons, List.take_succ_cons, List.flatten_cons, List.length_append, cntL_cons]
    omega
theorem sts_le (f : Bool) (r : RE) : (r.sts f).length ≤ r.cnt := by
  induction r using RE.ind with
  | h o s ks ih =>
    rw [RE.sts_mk, RE.cnt_mk]
    split
    · simp
    · have := flatten_le f ks (pickN f o ks) ih
      omega

set_option maxHeartbeats 1000000 in
theorem appendSets_any [Forb] (f : Bool) (fid : FuncId) (ent : ∀ args w, (callFunc fid args).run Tryz.prog w = .ok (.enter fid args) w)
    (hpick : ∀ r p W, ReAt W p r → ∃ v, ResRow W v (r.kids.take (pickN f r.op r.kids)) ∧ ∀ W', Below W.heap.size W W' → Calls Tryz.prog fid #[PT p] W' fun e w' => e = .returned v ∧ w' = W') (r : RE) :
    ∀ (p : Nat) (v : Value) (xs : List (BitVec 256)) (w0 w : World) (N : Nat), ReAt w0 p r → N = w0.heap.size → Below N w0 w → Own4 w N v xs → xs.length + (r.sts f).length ≤ 1099511627776 →
    Calls Tryz.prog 113 #[v, PT p, .func (.func fid) #[] #[]] w fun e w' => ∃ v', e = .returned v' ∧ Own4 w' N v' (xs ++ r.sts f) ∧ Below N w0 w' := by
  induction r using RE.ind with
  | h o s ks ih =>
    intro p v xs w0 w N h0 hN hb hown hl
    have h := h0.keep (hN ▸ hb)
    obtain ⟨v1, hrow, hcall⟩ := hpick _ p w0 h0
    have HP := hide (hcall w (hN ▸ hb))
    have HROW := hide hrow
    have HIH := hide ih
    have H0 := hide h0
    have HN := hide hN
    have HB := hide hb
    have HO := hide hown
    have c0 := h.cell0
    have HS := hide h.cellS
    obtain ⟨av, cv, rfl, -⟩ := hown.slice
    simp only [RE.op, RE.set, RE.kids] at c0 HS HROW
    have hNs : N ≤ w.heap.size := by rw [hN]; exact hb.size
    have HNS := hide hNs
    clear ih h0 hN hb hown hNs hrow hcall
    unfold PT at HP ⊢
    go_enter Tryz.func113, Tryz.ntmps113
    by_cases h2 : o = 2
    · have d2 : ((o : Int) == 2) = true := by simp [h2]
      have s0 := HS.out 0 (by omega); have s1 := HS.out 1 (by omega); have s2 := HS.out 2 (by omega); have s3 := HS.out 3 (by omega)
      simp only [Nat.add_zero, Nat.reduceAdd] at s0 s1 s2 s3
      have he : (RE.mk o s ks).sts f = [s] := by rw [RE.sts_mk, if_pos h2]
      rw [he] at hl ⊢
      have hb3 := (Below.refl w.heap.size w).alloc (Nat.le_refl _) (.cells (WS s) 89)
      have hnew : SetsRow (w.alloc (.cells (WS s) 89)) (.slice (some ⟨w.heap.size, 0, none⟩) 1 1) [s] := (own4_new (base := 0) s (Blk.newAt rfl _ _) (by omega)).row (by simp)
      obtain ⟨v', W', hr, ho', hb'⟩ := run_append4 (HO.out.keep hb3) hnew 125 hl (by have := HNS.out; simp; omega)
      have HO' := hide ho'
      have HB' := hide (hb' w0 N (Nat.le_refl _) (by rw [HN.out]; exact Nat.le_refl _) (HB.out.alloc HNS.out _))
      obtain ⟨a', c', rfl, -⟩ := ho'.slice
      simp only [List.length_append, List.length_cons, List.length_nil, Nat.zero_add] at hr HO'
      unfold WS at hr
      clear h2 he hb3 hnew ho' hb' HP hl
      go_wp2_with (refine wpList_append_run rfl _ _ _ rfl _ _ _ rfl rfl hr ?_)
      go_ret
      exact ⟨_, rfl, HO'.out, HB'.out⟩
    · have d2 : ((o : Int) == 2) = false := beq_eq_false_iff_ne.2 (by omega)
      obtain ⟨m, hm⟩ : ∃ m, m = pickN f o ks := ⟨_, rfl⟩
      have hmk : m ≤ ks.length := by rw [hm]; exact pickN_le f o ks
      have he : (RE.mk o s ks).sts f = stsN f (ks.take m) (ks.take m).length := by
        rw [RE.sts_mk, if_neg h2, stsN_all, hm, List.map_take]
      rw [← hm] at HROW
      have htl : (ks.take m).length = m := by simp [hmk]
      rw [htl] at he
      have HMEM := hide (show ∀ x ∈ ks.take m, x ∈ ks from fun x hx => List.mem_of_mem_take hx)
      generalize ks.take m = l at *
      have HTL := hide htl
      have HE := hide he
      have HL := hide hl
      clear hm h2 he htl hl
      go_wp2_with fail
      refine HP.out.mono ?_
      rintro e w1 ⟨rfl, rfl⟩
      obtain ⟨hm40, ad, cap, rfl, -⟩ := HROW.out.at
      rw [HTL.out] at HROW hm40 ⊢
      clear HP
      go_wp2
      go_loopw [0, 28] (fun out c wr => ∃ (k : Nat), k ≤ m ∧ c = .int .i64 k ∧ Hid (Own4 wr N out (xs ++ stsN f l k)) ∧ Hid (Below N w0 wr)) (fun _ c _ => m - (intOf c).toNat)
      case atStart => exact ⟨0, by omega, rfl, (by show Own4 _ _ _ _; rw [show stsN f l 0 = [] from rfl, List.append_nil]; exact HO.out), HB.out⟩
      case round =>
        obtain ⟨k, hk, rfl, HO2, HB2⟩ := hrel
        by_cases hlt : k < m
        · have hkd : decide (k < m) = true := by simp [hlt]
          have hkl : k < l.length := by rw [HTL.out]; exact hlt
          obtain ⟨-, a1, c1, e1, g1⟩ := HROW.out.at
          rw [HTL.out] at e1
          obtain ⟨rfl, rfl⟩ : ad = a1 ∧ cap = c1 := by injection e1 with x1 x2 x3; exact ⟨x1, x3⟩
          obtain ⟨b1, o1, bk, rfl, hb1, d0, r1⟩ := g1 k hkl
          have d1 : wr.cell? ⟨b1, o1 + k, none⟩ = some (PT bk) := by rw [← d0]; exact World.cell?_of_block (w := w0) (HB2.out.block b1 (by rw [HN.out]; exact hb1))
          have HSU := hide (stsN_succ f l k hkl)
          have hle : (xs ++ stsN f l k).length + ((l[k]).sts f).length ≤ 1099511627776 := by
            have h1 := HL.out
            rw [HE.out] at h1
            obtain ⟨t, ht⟩ : ∃ t, stsN f l m = stsN f l (k + 1) ++ t := by
              refine ⟨(((l.map (RE.sts f)).take m).drop (k + 1)).flatten, ?_⟩
              unfold stsN
              rw [← List.flatten_append]
              congr 1
              rw [show (l.map (RE.sts f)).take (k + 1) = ((l.map (RE.sts f)).take m).take (k + 1) from by rw [List.take_take]; congr 1; omega, List.take_append_drop]
            rw [ht, List.length_append, HSU.out, List.length_append] at h1
            rw [List.length_append]
            omega
          obtain ⟨xk, hxk⟩ : ∃ xk, xk = xs ++ stsN f l k := ⟨_, rfl⟩
          rw [← hxk] at HO2 hle
          have HXK := hide hxk
          clear hxk
          obtain ⟨ao, co, ho, -⟩ := HO2.out.slice
          subst ho
          have HC := hide (HIH.out l[k] (HMEM.out _ (List.getElem_mem hkl)) bk _ xk w0 wr N r1 HN.out HB2.out HO2.out hle)
          have hk63 : k < 9223372036854775807 := by omega
          generalize l[k] = x at *
          clear g1 e1 d0 r1 hle
          unfold PT at d1 HC
          go_wp2_with fail
          refine HC.out.mono ?_
          rintro e w2 ⟨v2, rfl, ho2, hb2⟩
          obtain ⟨a2, c2, rfl, -⟩ := ho2.slice
          rw [List.length_append] at ho2 ⊢
          have HO3 := hide ho2
          have HB3 := hide hb2
          clear ho2 hb2 HC
          go_wp2
          refine ⟨⟨k + 1, by omega, by go_num, ?_, HB3.out⟩, by simp [intOf]; omega⟩
          show Own4 _ _ _ _
          rw [HSU.out, ← List.append_assoc, ← HXK.out]
          exact HO3.out
        · obtain rfl : k = m := by omega
          rw [← HE.out] at HO2
          obtain ⟨xz, hxz⟩ : ∃ xz, xz = xs ++ (RE.mk o s ks).sts f := ⟨_, rfl⟩
          rw [← hxz] at HO2
          have HXZ := hide hxz
          clear hxz
          obtain ⟨ao, co, ho, -⟩ := HO2.out.slice
          subst ho
          go_wp2
          go_ret
          rw [← HXZ.out]
          exact ⟨_, rfl, HO2.out, HB2.out⟩

theorem allKids_pick [Forb] (r : RE) (p : Nat) (W : World) (h : ReAt W p r) : ∃ v, ResRow W v (r.kids.take (pickN false r.op r.kids)) ∧ ∀ W', Below W.heap.size W W' → Calls Tryz.prog 114 #[PT p] W' fun e w' => e = .returned v ∧ w' = W' := by
  obtain ⟨v, c5, hrow⟩ := cellK h
  refine ⟨v, ?_, fun W' hb => ?_⟩
  · rw [show pickN false r.op r.kids = r.kids.length from by simp [pickN], List.take_length]
    exact hrow
  · have c5' : W'.cell? ⟨p, 5, none⟩ = some v := by rw [← c5]; exact World.cell?_of_block (w := W) (hb.block p h.lt)
    obtain ⟨-, ad, cap, rfl, -⟩ := hrow.at
    clear c5 hrow
    unfold PT
    go_enter Tryz.func114, Tryz.ntmps114
    go_wp2
    go_ret
    exact ⟨rfl, rfl⟩
theorem Sets_any [Forb] (r : RE) (p : Nat) (w : World) (h : ReAt w p r) (hl : (r.sts false).length ≤ 1099511627776) :
    Calls Tryz.prog 79 #[PT p] w fun e w' => ∃ v', e = .returned v' ∧ Own4 w' w.heap.size v' (r.sts false) ∧ Below w.heap.size w w' := by
  have HC := hide (appendSets_any false 114 (enters_of Tryz.func114 (by kernel_rfl) rfl) allKids_pick r p (.slice none 0 0) [] w w w.heap.size h rfl (Below.refl _ _) (.nil _ _) (by simpa using hl))
  rw [List.nil_append] at HC
  clear h hl
  go_enter Tryz.func79, Tryz.ntmps79
  go_wp2_with fail
  refine HC.out.mono ?_
  rintro e w1 ⟨v, rfl, ho, hb⟩
  obtain ⟨a, c, rfl, -⟩ := ho.slice
  have HO := hide ho
  have HB := hide hb
  clear ho hb HC
  go_wp2
  go_ret
  exact ⟨_, rfl, HO.out, HB.out⟩
end Go.Proofs.YtjcfnmjjkadaeaaGreatDoor
