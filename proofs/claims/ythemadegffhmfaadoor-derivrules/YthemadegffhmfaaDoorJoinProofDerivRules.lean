/- DerivRules answers true for every shape and byte: what stands behind a byte is made by the page's rules, and all sets of an expression are told from the left on. Conditions: the table of math/bits holds what its initialiser lays (the card ties that to the program's text). -/
/- Texts of this claim put together: DvH, LawDerivRules, ProofDerivRules. -/
import Derived.Test.YthemadegffhmfaaDoorJoinLawHead5
import Derived.Test.YthemadegffhmfaaDoorJoinOpenS
import Derived.Deep.CutRange
import Derived.Deep.CutBlock
import Derived.Test.YthemadegffhmfaaDoorCards
import Derived.Test.YthemadegffhmfaaDoorTie
/- The statements' own way to all sets; rows of kids that grow. -/
namespace Go.Proofs.YthemadegffhmfaaDoor
set_option maxRecDepth 100000
set_option linter.unusedSimpArgs false
set_option linter.unusedVariables false
open Go.RowKit

set_option maxHeartbeats 1000000 in
theorem lawSets_any (r : RE) : ∀ (p : Nat) (w : World), ReAt w p r → (r.sts false).length ≤ 1099511627776 →
    Calls Tryd.prog 21 #[PT p] w fun e w' => ∃ v', e = .returned v' ∧ Own4 w' w.heap.size v' (r.sts false) ∧ Below w.heap.size w w' := by
  induction r using RE.ind with
  | h o s ks ih =>
    intro p w h hl
    have HIH := hide ih
    have HS := hide h.cellS
    have c0 := h.cell0
    have hplt := h.lt
    obtain ⟨kv, c5, hrow⟩ := cellK h
    have HROW := hide hrow
    simp only [RE.op, RE.set, RE.kids] at c0 HS HROW hrow
    obtain ⟨hk0, ad, cap, rfl, -⟩ := hrow.at
    obtain ⟨B, hB⟩ : ∃ B, B = w.heap.size := ⟨_, rfl⟩
    have HB0 := hide hB
    have HL := hide hl
    clear ih h hrow hl
    unfold PT
    go_enter Tryd.func21, Tryd.ntmps21
    by_cases h2 : o = 2
    · have d2 : ((o : Int) == 2) = true := by simp [h2]
      have s0 := HS.out 0 (by omega); have s1 := HS.out 1 (by omega); have s2 := HS.out 2 (by omega); have s3 := HS.out 3 (by omega)
      simp only [Nat.add_zero, Nat.reduceAdd] at s0 s1 s2 s3
      have HE : Hid ((RE.mk o s ks).sts false = [s]) := by show _ = _; rw [RE.sts_mk, if_pos h2]
      clear h2 hB
      go_wp2
      go_ret
      rw [HE.out]
      exact ⟨_, rfl, own4_new s (Blk.newAt rfl _ _) (Nat.le_refl _), (Below.refl _ _).alloc (Nat.le_refl _) _⟩
    · have d2 : ((o : Int) == 2) = false := beq_eq_false_iff_ne.2 (by omega)
      have HE : Hid ((RE.mk o s ks).sts false = stsN false ks ks.length) := by
        show _ = _
        rw [RE.sts_mk, if_neg h2, stsN_all, show pickN false o ks = ks.length from by simp [pickN], List.take_of_length_le (by simp)]
      have hO0 : Own4 (w.alloc (.cells #[] 39)) B (.slice (some ⟨w.heap.size, 0, none⟩) 0 0) (stsN false ks 0) := own4_empty (Blk.newAt rfl _ _) (by omega)
      have hb0 : Below B w (w.alloc (.cells #[] 39)) := (Below.refl _ _).alloc (by omega) _
      have c5' : (w.alloc (.cells #[] 39)).cell? ⟨p, 5, none⟩ = some (.slice ad ks.length cap) := by rw [← c5]; exact World.cell?_of_block (w := w) (hb0.block p (by rw [hB]; exact hplt))
      clear h2 hB
      go_wp2
      go_loopw [3, 22] (fun out c wr => ∃ (k : Nat), k ≤ ks.length ∧ c = .int .i64 k ∧ Hid (Own4 wr B out (stsN false ks k)) ∧ Hid (Below B w wr)) (fun _ c _ => ks.length - (intOf c).toNat)
      case atStart => exact ⟨0, by omega, rfl, hO0, hb0⟩
      case round =>
        clear hO0 hb0
        obtain ⟨k, hk, rfl, HO, HB⟩ := hrel
        obtain ⟨ao, co, ho, -⟩ := HO.out.slice
        subst ho
        by_cases hlt : k < ks.length
        · have hkd : decide (k < ks.length) = true := by simp [hlt]
          have hbw : Below w.heap.size w wr := HB0.out ▸ HB.out
          obtain ⟨-, a1, c1, e1, g1⟩ := (HROW.out.below hbw).at
          obtain ⟨rfl, rfl⟩ : ad = a1 ∧ cap = c1 := by injection e1 with x1 x2 x3; exact ⟨x1, x3⟩
          obtain ⟨b1, o1, bk, rfl, hb1, d1, r1⟩ := g1 k hlt
          have HSU := hide (stsN_succ false ks k hlt)
          have hle : (stsN false ks k).length + ((ks[k]).sts false).length ≤ 1099511627776 := by
            have h1 := HL.out
            rw [HE.out] at h1
            obtain ⟨t, ht⟩ : ∃ t, stsN false ks ks.length = stsN false ks (k + 1) ++ t := by
              refine ⟨(((ks.map (RE.sts false)).take ks.length).drop (k + 1)).flatten, ?_⟩
              unfold stsN
              rw [← List.flatten_append]
              congr 1
              rw [show (ks.map (RE.sts false)).take (k + 1) = ((ks.map (RE.sts false)).take ks.length).take (k + 1) from by rw [List.take_take]; congr 1; omega, List.take_append_drop]
            rw [ht, List.length_append, HSU.out, List.length_append] at h1
            omega
          have HC := hide (HIH.out ks[k] (List.getElem_mem hlt) bk wr r1 (by omega))
          have HLE := hide hle
          have hBs : B ≤ wr.heap.size := by rw [HB0.out]; exact hbw.size
          obtain ⟨xk, hxk⟩ : ∃ xk, xk = stsN false ks k := ⟨_, rfl⟩
          rw [← hxk] at HO HLE ⊢
          have HXK := hide hxk
          generalize ks[k] = x at *
          clear g1 e1 r1 hle hbw hxk
          unfold PT at d1 HC
          go_wp2_with fail
          refine HC.out.mono ?_
          rintro e w2 ⟨v2, rfl, ho2, hb2⟩
          have hs2 := hb2.size
          obtain ⟨v', W', hr, ho', hb'⟩ := run_append4 (HO.out.keep hb2) (ho2.row (by have := HLE.out; omega)) 44 HLE.out (by omega)
          obtain ⟨a2, c2, rfl, -⟩ := ho2.slice
          obtain ⟨a3, c3, rfl, -⟩ := ho'.slice
          rw [List.length_append] at hr ho'
          have HO3 := hide ho'
          have HB3 := hide (hb' w B (Nat.le_refl _) (by rw [HB0.out]; exact Nat.le_refl _) (HB.out.trans (hb2.mono hBs)))
          clear ho2 hb2 hs2 ho' hb' HC
          go_wp2_with (refine wpList_append_run rfl _ _ _ rfl _ _ _ rfl rfl hr ?_)
          refine ⟨⟨k + 1, by omega, by go_num, ?_, HB3.out⟩, by simp [intOf]; omega⟩
          show Own4 _ _ _ _
          rw [HSU.out, ← HXK.out]
          exact HO3.out
        · obtain rfl : k = ks.length := by omega
          rw [← HE.out] at HO
          obtain ⟨xz, hxz⟩ : ∃ xz, xz = stsN false ks ks.length := ⟨_, rfl⟩
          rw [← hxz]
          rw [HE.out, ← hxz] at HO
          have HXZ : Hid (xz = (RE.mk o s ks).sts false) := by show _ = _; rw [HE.out]; exact hxz
          clear hxz
          go_wp2
          go_ret
          rw [← HXZ.out, ← HB0.out]
          exact ⟨_, rfl, HO.out, HB.out⟩

/-- A row of expressions that grows. -/
structure KdW (w3 : World) (out : Value) (ps : List (Nat × RE)) (W : World) : Prop where
  own : OwnZ W w3.heap.size out ps
  elem : ∀ p ∈ ps, ReAt W p.1 p.2
  below : Below w3.heap.size w3 W
theorem KdW.step {w3 W W' : World} {out : Value} {ps : List (Nat × RE)} (h : KdW w3 out ps W) (hb : Below W.heap.size W W') : KdW w3 out ps W' :=
  ⟨h.own.keep hb, fun p hp => (h.elem p hp).keep hb, h.below.trans (hb.mono h.below.size)⟩
theorem KdW.append {w3 W : World} {out : Value} {ps : List (Nat × RE)} (h : KdW w3 out ps W) (ty : TypeId) (sb b : Nat) (r : RE) (hs : Blk W sb #[PT b] 27) (hr : ReAt W b r) (hl : ps.length ≤ 1000000) :
    ∃ v' W', (Builtin.append_ #[35, 35] ty #[out, .slice (some ⟨sb, 0, none⟩) 1 1]).run Tryd.prog W = .ok v' W' ∧ KdW w3 v' (ps ++ [(b, r)]) W' := by
  obtain ⟨v', W', h1, h2, h3, h4⟩ := run_appendZ h.own ty sb b r hs hl h.below.size
  refine ⟨v', W', h1, h2, fun p hp => ?_, h.below.trans h3⟩
  rcases List.mem_append.1 hp with hp | hp
  · exact h4 _ _ (h.elem p hp)
  · simp at hp; subst hp; exact h4 _ _ hr
end Go.Proofs.YthemadegffhmfaaDoor
/- DerivRules, walked. -/
namespace Go.Proofs.YthemadegffhmfaaDoor
set_option maxRecDepth 100000
set_option linter.unusedSimpArgs false
set_option linter.unusedVariables false
open Go.RowKit

set_option maxHeartbeats 4000000 in
theorem derivRules_any (cs : List Value) (s : SHP) (n : Nat) (hn : n < 256) (w : World) (hs : ShC w cs s) (hT : TabAt w) :
    Calls Tryd.prog 4 #[ShVal cs, .int .u8 n] w fun e w' => e = .returned (.bool true) ∧ Below w.heap.size w w' := by
  have HC := hide hs
  have HT := hide hT
  obtain ⟨kv, rfl, hrow, -⟩ := hs.open
  obtain ⟨-, a, cap, rfl, -⟩ := hrow.at
  clear hs hT hrow
  obtain ⟨B, hB⟩ : ∃ B, B = w.heap.size := ⟨_, rfl⟩
  unfold ShVal
  go_enter Tryd.func4, Tryd.ntmps4
  go_wp2_with fail
  have hb0 : Below B w (w.alloc (.cells #[.int .i64 s.op, .int .u8 s.lo, .int .u8 s.hi, .string s.text, .slice a s.kids.length cap] 24)) := (Below.refl _ _).alloc (Nat.le_of_eq hB) _
  have hbx : Blk (w.alloc (.cells #[.int .i64 s.op, .int .u8 s.lo, .int .u8 s.hi, .string s.text, .slice a s.kids.length cap] 24)) B #[.int .i64 s.op, .int .u8 s.lo, .int .u8 s.hi, .string s.text, .slice a s.kids.length cap] 24 := Blk.newAt hB _ _
  refine (head5_any _ (HT.out.agree (Agree.of_all (K := fun _ => True) (hB ▸ hb0)) trivial)).mono ?_
  rintro e w1 ⟨rfl, hb1⟩
  have hbx1 := hbx.below hb1 hbx.lt
  have HX1 := hide hbx1
  have HB1 := hide (hb0.trans (hb1.mono (by simp; omega)))
  have HB := hide hB
  rw [← hB]
  clear hb0 hbx hb1 hB
  have xB := hbx1
  have x0 := xB.cell 0; have x1 := xB.cell 1; have x2 := xB.cell 2; have x3 := xB.cell 3; have x4 := xB.cell 4
  simp only [List.getElem?_toArray, List.getElem?_cons_zero, List.getElem?_cons_succ] at x0 x1 x2 x3 x4
  clear xB
  clear hbx1
  have hfew := few_any s _ w1 (HC.out.keep (HB.out ▸ HB1.out))
  have HFEW := hide hfew
  clear hfew
  unfold ShVal at HFEW
  go_wp2_with fail
  refine HFEW.out.mono ?_
  rintro e w2 ⟨few, rfl, hfw, hb2⟩
  have hsB1 : B ≤ w1.heap.size := by have := HX1.out.lt; omega
  have HB2 := hide (HB1.out.trans (hb2.mono hsB1))
  have hbx2 := HX1.out.below hb2 HX1.out.lt
  have HX2 := hide hbx2
  have HFW := hide hfw
  clear hb2 hfw HFEW x0 x1 x2 x3 x4 HX1 HB1
  cases few
  · clear hbx2
    go_wp2
    go_ret
    exact ⟨rfl, HB.out ▸ HB2.out⟩
  obtain ⟨htx, hnd⟩ := HFW.out rfl
  clear HFW
  have xB := hbx2
  have x0 := xB.cell 0; have x1 := xB.cell 1; have x2 := xB.cell 2; have x3 := xB.cell 3; have x4 := xB.cell 4
  simp only [List.getElem?_toArray, List.getElem?_cons_zero, List.getElem?_cons_succ] at x0 x1 x2 x3 x4
  clear xB
  clear hbx2
  have hsB2 : B ≤ w2.heap.size := by have := HX2.out.lt; omega
  have hmk := make_any s _ w2 (HC.out.keep (HB.out ▸ HB2.out)) htx hnd (HT.out.agree (Agree.of_all (K := fun _ => True) (HB.out ▸ HB2.out)) trivial)
  have HMK := hide hmk
  clear hmk
  unfold ShVal at HMK
  go_wp2_with fail
  refine HMK.out.mono ?_
  rintro e w3 ⟨rb, rfl, hr3, hb3⟩
  have HB3 := hide (HB2.out.trans (hb3.mono hsB2))
  have HR3 := hide hr3
  have hsB3 : B ≤ w3.heap.size := by have := hb3.size; omega
  have HT3 := hide (HT.out.agree (Agree.of_all (K := fun _ => True) (HB.out ▸ HB3.out)) trivial)
  have hwf := s.wf
  have hcnt : s.re.cnt ≤ 660 := by have := s.cnt htx; omega
  clear x0 x1 x2 x3 x4 HX2 HB2 HMK hsB2 hsB1 hb3 hr3
  generalize hre : s.re = r at *
  clear hre htx hnd
  have HWF := hide hwf
  clear hwf
  have hbits := u8_and3 n hn
  have hm4 : n % 4 < 4 := Nat.mod_lt _ (by omega)
  obtain ⟨b, hb⟩ : ∃ b, b = 97 + n % 4 := ⟨_, rfl⟩
  have hb256 : b < 256 := by omega
  unfold PT
  go_wp2_with fail
  refine (nothing_any w3).mono ?_
  rintro e w4 ⟨nb, rfl, hn4, hb4⟩
  have hb3i : (97 : Int) + (n : Int) % 4 = (b : Int) := by omega
  rw [hb3i]
  have HN4 := hide hn4
  have HBD := hide hb
  obtain ⟨kv3, k5, krow⟩ := cellK HR3.out
  obtain ⟨hk0, ka, kc, rfl, -⟩ := krow.at
  have hrb3 := HR3.out.lt
  have hb5 : Below w3.heap.size w3 (w4.alloc (.cells #[] 27)) := hb4.alloc hb4.size _
  have hK0 : KdW w3 (.slice (some ⟨w4.heap.size, 0, none⟩) 0 0) [] (w4.alloc (.cells #[] 27)) := ⟨OwnZ.start (Blk.newAt rfl _ _) hb4.size, fun p hp => by simp at hp, hb5⟩
  have HN5 := hide (hn4.keep ((Below.refl w4.heap.size w4).alloc (Nat.le_refl _) (.cells #[] 27)))
  have c5 : (w4.alloc (.cells #[] 27)).cell? ⟨rb, 5, none⟩ = some (.slice ka r.kids.length kc) := by rw [← k5]; exact World.cell?_of_block (w := w3) (hb5.block rb hrb3)
  have c0 : (w4.alloc (.cells #[] 27)).cell? ⟨rb, 0, none⟩ = some (.int .i64 r.op) := by rw [← HR3.out.cell0]; exact World.cell?_of_block (w := w3) (hb5.block rb hrb3)
  have HKROW := hide krow
  obtain ⟨ks, hks⟩ : ∃ ks, ks = r.kids := ⟨_, rfl⟩
  rw [← hks] at c5 HKROW k5
  have HK5 := hide k5
  have hkc : cntL ks ≤ 660 := by have := r.cnt_kids; rw [hks]; omega
  have hkl : ks.length ≤ 660 := Nat.le_trans (cntL_len ks) hkc
  have hkw : ∀ k ∈ ks, Wf k := by rw [hks]; exact HWF.out.kid
  have HKW := hide hkw
  have HKS := hide hks
  have HKC := hide hkc
  have HHCNT := hide hcnt
  have HB5 := hide hb5
  clear hb krow k5 hn4 hb4 hb5 hks hkw hkc hcnt hk0 hm4 hbits hb3i
  unfold PT
  go_wp2
  go_loopw [7, 31] (fun out c wr => ∃ (k : Nat) (ps : List (Nat × RE)), k ≤ ks.length ∧ c = .int .i64 k ∧ Hid (ps.length = k) ∧ Hid (ps.map Prod.snd = (ks.take k).map (rBy b)) ∧ Hid (KdW w3 out ps wr) ∧ Hid (ReAt wr nb rNothing)) (fun _ c _ => ks.length - (intOf c).toNat)
  case atStart => exact ⟨0, [], by omega, rfl, rfl, rfl, hK0, HN5.out⟩
  case round =>
    clear hK0
    obtain ⟨k, ps, hk, rfl, HL, HS, HK, HN⟩ := hrel
    have hbw := HK.out.below
    have hTW : TabAt wr := HT3.out.agree (Agree.of_all (K := fun _ => True) hbw) trivial
    obtain ⟨gk, ck, hku⟩ := HK.out.own.slice
    rw [HL.out] at hku
    subst hku
    by_cases hlt : k < ks.length
    · have hkd : decide (k < ks.length) = true := by simp [hlt]
      obtain ⟨-, a1, c1, e1, g1⟩ := (HKROW.out.below hbw).at
      obtain ⟨rfl, rfl⟩ : ka = a1 ∧ kc = c1 := by injection e1 with x1 x2 x3; exact ⟨x1, x3⟩
      obtain ⟨b1, o1, bk, rfl, -, d1, r1⟩ := g1 k hlt
      have hmem := List.getElem_mem hlt
      have hwk := HKW.out _ hmem
      have hck : (ks[k]).cnt ≤ 1000000 := by have := cntL_mem hmem; have := HKC.out; omega
      have HCL := hide (By_any b hb256 ks[k] bk wr hwk (fits_cnt b _ hwk hck) r1 hTW)
      have HTK := hide (show ks.take (k + 1) = ks.take k ++ [ks[k]] from List.take_succ_eq_append_getElem hlt)
      generalize ks[k] = x at *
      clear g1 e1 r1 hTW hmem hbw hck hwk
      unfold PT at d1 HCL
      go_wp2_with fail
      refine HCL.out.mono ?_
      rintro e w6 ⟨c, rfl, h6, hb6⟩
      have hb7 := (Below.refl w6.heap.size w6).alloc (Nat.le_refl _) (.cells #[PT c] 27)
      have hlp : ps.length ≤ 1000000 := by rw [HL.out]; omega
      obtain ⟨v', W', hr, hK'⟩ := ((HK.out.step hb6).step hb7).append 35 w6.heap.size c (rBy b x) (Blk.newAt rfl _ _) (h6.keep hb7) hlp
      obtain ⟨gv, cv, rfl⟩ := hK'.own.slice
      have HK2 := hide hK'
      have HN2 := hide ((HN.out.keep hb6).keep hb7)
      have hN3 : ReAt W' nb rNothing := by
        obtain ⟨v2, W2, h1, h2, h3, h4⟩ := run_appendZ ((HK.out.step hb6).step hb7).own 35 w6.heap.size c (rBy b x) (Blk.newAt rfl _ _) hlp ((HK.out.step hb6).step hb7).below.size
        have e := hr.symm.trans h1
        injection e with e1 e2
        rw [e2]
        exact h4 _ _ HN2.out
      have HN3 := hide hN3
      rw [show (ps ++ [(c, rBy b x)]).length = k + 1 from by rw [List.length_append, HL.out]; rfl] at hr HK2
      unfold PT at hr
      clear h6 hb6 hb7 hlp hK' hN3 HCL HN2
      go_wp2_with (refine wpList_append_run rfl _ _ _ rfl _ _ _ rfl rfl hr ?_)
      refine ⟨⟨k + 1, ps ++ [(c, rBy b x)], by omega, by go_num, ?_, ?_, HK2.out, HN3.out⟩, by simp [intOf]; omega⟩
      · show (ps ++ [_]).length = k + 1
        rw [List.length_append, HL.out]; rfl
      · show (ps ++ [_]).map Prod.snd = _
        rw [HTK.out, List.map_append, List.map_append, HS.out]; rfl
    · obtain rfl : k = ks.length := by omega
      rw [List.take_length] at HS
      have HRW := hide (HR3.out.keep hbw)
      have c0w := HRW.out.cell0
      have HTW := hide hTW
      have HKRW := hide (HKROW.out.below hbw)
      have HBW := hide hbw
      have HK3 := hide hbw
      have hkrow := HK.out.own.row (by rw [HL.out]; omega)
      have HKR := hide hkrow
      have HPE := hide HK.out.elem
      have HSW := hide HRW.out.cellS
      have c5w : wr.cell? ⟨rb, 5, none⟩ = some (.slice ka ks.length kc) := by rw [← HK5.out]; exact World.cell?_of_block (w := w3) (hbw.block rb hrb3)
      clear hkrow hbw hTW c0 c5
      have hx0 : ks.length ≤ 660 := hkl
      go_upto_block 2 with fail
      go_cut [6, 10] from 46 to 96 (fun wv rv wx => ∃ c : Nat, wv = .pointer (some ⟨c, 0, none⟩) ∧ Hid (ReAt wx c (rBy b r)) ∧ Hid (Below wr.heap.size wr wx))
      case first =>
        by_cases h2 : r.op = 2
        · have d2 : ((r.op : Int) == 2) = true := by simp [h2]
          have s0 := HSW.out 0 (by omega); have s1 := HSW.out 1 (by omega); have s2 := HSW.out 2 (by omega); have s3 := HSW.out 3 (by omega)
          simp only [Nat.add_zero, Nat.reduceAdd] at s0 s1 s2 s3
          have HE : Hid (rBy b r = if r.set.getLsbD b then rEmpty else rNothing) := by show _ = _; rw [r.eta, h2, by_2]; rfl
          have hc := has_any r.set b (by omega) (by omega) wr
          rw [Int.toNat_natCast] at hc
          have HH := hide hc
          clear hc h2
          generalize r.set.getLsbD b = bit at *
          unfold SV at HH
          go_wp2_with fail
          refine HH.out.mono ?_
          rintro e w6 ⟨rfl, hb6⟩
          have HB6 := hide hb6
          have HN6 := hide (HN.out.keep hb6)
          clear hb6 HH
          cases bit with
          | false =>
            go_wp2
            go_meet
            case rel => exact ⟨nb, rfl, (by show ReAt _ _ _; rw [HE.out]; exact HN6.out), HB6.out⟩
          | true =>
            go_wp2_with fail
            refine (empty_re w6).mono ?_
            rintro e w7 ⟨eb, rfl, h7, hb7⟩
            have H7 := hide h7
            have HB7 := hide (HB6.out.trans (hb7.mono HB6.out.size))
            clear h7 hb7
            try unfold PT
            go_wp2
            go_meet
            case rel => exact ⟨eb, rfl, (by show ReAt _ _ _; rw [HE.out]; exact H7.out), HB7.out⟩
        · have d2 : ((r.op : Int) == 2) = false := beq_eq_false_iff_ne.2 (by omega)
          have hsh := HWF.out.shp
          by_cases h3 : r.op = 3
          · have d3 : ((r.op : Int) == 3) = true := by simp [h3]
            have hlen2 := (hsh.cat h3).1
            rw [← HKS.out] at hlen2
            obtain ⟨qs, hqs, hqe, hqr⟩ := HKRW.out.pairs
            have hql : qs.length = ks.length := by rw [← hqs]; simp
            have hcap : ks.length ≤ kc := HKRW.out.cap _ _ _ rfl
            obtain ⟨-, a1, c1, e1, g1⟩ := HKRW.out.at
            obtain ⟨rfl, rfl⟩ : ka = a1 ∧ kc = c1 := by injection e1 with x1 x2 x3; exact ⟨x1, x3⟩
            obtain ⟨bb, ob, bk0, rfl, -, d0, r0⟩ := g1 0 (by omega)
            rw [Nat.add_zero] at d0
            have hdrop := (hqr.drop (a := none) (k := 1) (by omega)).res (fun p hp => hqe p (List.mem_of_mem_drop hp))
            rw [hql, List.map_drop, hqs] at hdrop
            obtain ⟨k0, rest, hkr⟩ : ∃ k0 rest, ks = k0 :: rest := by
              cases hk2 : ks with
              | nil => rw [hk2] at hlen2; simp at hlen2
              | cons x l => exact ⟨x, l, rfl⟩
            have e0 : ks[0]'(by omega) = k0 := by simp [hkr]
            have e1' : ks.drop 1 = rest := by rw [hkr]; rfl
            rw [e0] at r0
            rw [e1'] at hdrop
            have hw0 : Wf k0 := HKW.out k0 (by rw [hkr]; simp)
            have hwr : ∀ x ∈ rest, Wf x := fun x hx => HKW.out x (by rw [hkr]; simp [hx])
            have hcr : cntL rest ≤ 660 := by have := HKC.out; rw [hkr, cntL_cons] at this; omega
            have hc0 : k0.cnt ≤ 660 := by have := HKC.out; rw [hkr, cntL_cons] at this; omega
            have HE : Hid (rBy b r = if k0.null then rAny [rThen [rBy b k0, rThen rest], rBy b (rThen rest)] else rThen [rBy b k0, rThen rest]) := by
              show _ = _
              have hw := HWF.out
              rw [r.eta, h3, ← HKS.out, hkr] at hw ⊢
              exact by_3 b hw
            obtain ⟨p0, pr, hps⟩ : ∃ p0 pr, ps = p0 :: pr := by
              cases hp2 : ps with
              | nil => have := HL.out; rw [hp2] at this; simp at this; omega
              | cons x l => exact ⟨x, l, rfl⟩
            have hp0 : p0.2 = rBy b k0 := by
              have h1 := HS.out
              rw [hps, hkr] at h1
              simp at h1
              exact h1.1
            obtain ⟨-, ag, cg, eg, hpc⟩ := HKR.out
            obtain ⟨bg, og, eb, -, dP⟩ := hpc 0 p0 (by rw [hps]; rfl)
            obtain ⟨rfl, rfl⟩ : gk = bg ∧ og = 0 := by
              injection eg with x1 x2 x3
              rw [← x1] at eb
              injection eb with eb; injection eb with y1 y2
              exact ⟨y1, y2.symm⟩
            rw [Nat.add_zero] at dP
            have hpe := HPE.out p0 (by rw [hps]; simp)
            rw [hp0] at hpe
            generalize hpp : p0.1 = pb at *
            have HHR := hide hdrop
            have hthen := then_any rest _ wr hdrop hwr (by have := cntL_len rest; omega) (by have := cntL_len (catL rest); have := cntL_catL rest; omega)
            have HTH := hide hthen
            have HP0 := hide hpe
            have HR0 := hide r0
            have hcc : ¬ kc - 1 = 0 := by omega
            have hk1 : 1 ≤ ks.length := by omega
            have hk1c : 1 ≤ kc := by omega
            have hk0l : 0 < ks.length := by omega
            have hdd : decide ((1 : Int) ≤ ks.length) = true := decide_eq_true (by omega)
            have HW0 := hide hw0
            have HWR := hide hwr
            have HCR := hide hcr
            have HC0 := hide hc0
            clear h2 h3 hsh hlen2 hqs hqe hqr hql e1 g1 r0 hkr e0 e1' hw0 hwr hcr hc0 hps hp0 eg hpc eb hpe hpp hdrop hthen
            unfold PT at d0 dP
            go_wp2_with fail
            refine HTH.out.mono ?_
            rintro e w6 ⟨tb, rfl, h6, hb6⟩
            have HB6 := hide hb6
            have HT6 := hide h6
            have d6 : w6.cell? ⟨gk, 0, none⟩ = some (.pointer (some ⟨pb, 0, none⟩)) := by rw [← dP]; exact World.cell?_of_block (w := wr) (hb6.block gk (World.block_lt_of_cell? _ _ dP))
            have hb7 := (Below.refl w6.heap.size w6).alloc (Nat.le_refl _) (.cells #[PT pb, PT tb] 27)
            have hrow7 : ResRow (w6.alloc (.cells #[PT pb, PT tb] 27)) (.slice (some ⟨w6.heap.size, 0, none⟩) 2 2) [rBy b k0, rThen rest] := resRow_two (Blk.newAt rfl _ _) ((HP0.out.keep hb6).keep hb7) (h6.keep hb7)
            have hw2 : ∀ x ∈ [rBy b k0, rThen rest], Wf x := fun x hx => by
              simp at hx; rcases hx with rfl | rfl
              · exact wf_by b HW0.out
              · exact wf_then HWR.out
            have hc2 : cntL [rBy b k0, rThen rest] ≤ 1000000 := by
              have h1 := by_sq b HW0.out
              have h2 := sq_mono HC0.out
              have h3 := cnt_then rest
              have h4 := HCR.out
              rw [cntL_cons, cntL_one]
              omega
            have hthen2 := then_any [rBy b k0, rThen rest] _ _ hrow7 hw2 (by simp) (by have := cntL_len (catL [rBy b k0, rThen rest]); have := cntL_catL [rBy b k0, rThen rest]; omega)
            have HTH2 := hide hthen2
            have HB7 := hide (hb6.trans (hb7.mono hb6.size))
            have HT7 := hide (h6.keep hb7)
            have hwt := wf_then hw2
            have hct := cnt_then [rBy b k0, rThen rest]
            have HWT := hide hwt
            have HCT : Hid ((rThen [rBy b k0, rThen rest]).cnt ≤ 1000001) := by show _ ≤ _; omega
            clear h6 hb6 hb7 hrow7 hthen2 hw2 hc2 hwt hct HTH
            unfold PT at HTH2
            try unfold PT
            go_wp2_with fail
            refine HTH2.out.mono ?_
            rintro e w8 ⟨vb, rfl, h8, hb8⟩
            have HV8 := hide h8
            have HB8 := hide (HB7.out.trans (hb8.mono HB7.out.size))
            have HT8 := hide (HT7.out.keep hb8)
            have hR8 := HRW.out.keep HB8.out
            have c58 : w8.cell? ⟨rb, 5, none⟩ = some (.slice (some ⟨bb, ob, none⟩) ks.length kc) := by rw [← c5w]; exact World.cell?_of_block (w := wr) (HB8.out.block rb HRW.out.lt)
            have d8 : w8.cell? ⟨bb, ob, none⟩ = some (.pointer (some ⟨bk0, 0, none⟩)) := by rw [← d0]; exact World.cell?_of_block (w := wr) (HB8.out.block bb (World.block_lt_of_cell? _ _ d0))
            have HNU := hide (null_any bk0 k0 w8 (HR0.out.keep HB8.out))
            clear h8 hb8 hR8 HTH2 d6
            unfold PT at HNU
            try unfold PT
            go_wp2_with fail
            refine HNU.out.mono ?_
            rintro e w9 ⟨rfl, rfl⟩
            cases hnull : k0.null with
            | false =>
              rw [hnull] at HE
              clear HNU
              go_wp2
              go_meet
              case rel => exact ⟨vb, rfl, (by show ReAt _ _ _; rw [HE.out]; exact HV8.out), HB8.out⟩
            | true =>
              rw [hnull] at HE
              have hwrt : Wf (rThen rest) := wf_then HWR.out
              have hcrt : (rThen rest).cnt ≤ 661 := by have := cnt_then rest; have := HCR.out; omega
              have HBY := hide (By_any b hb256 (rThen rest) tb w9 hwrt (fits_cnt b _ hwrt (by omega)) HT8.out (HTW.out.agree (Agree.of_all (K := fun _ => True) HB8.out) trivial))
              have hcb := by_sq b hwrt
              have hcb2 := sq_mono hcrt
              have HCB : Hid ((rBy b (rThen rest)).cnt ≤ 437000) := by show _ ≤ _; omega
              have HWB := hide (wf_by b hwrt)
              clear HNU hwrt hcrt hcb hcb2
              unfold PT at HBY
              go_wp2_with fail
              refine HBY.out.mono ?_
              rintro e w10 ⟨yb, rfl, h10, hb10⟩
              have hb11 := (Below.refl w10.heap.size w10).alloc (Nat.le_refl _) (.cells #[PT vb, PT yb] 27)
              have hrow11 : ResRow (w10.alloc (.cells #[PT vb, PT yb] 27)) (.slice (some ⟨w10.heap.size, 0, none⟩) 2 2) [rThen [rBy b k0, rThen rest], rBy b (rThen rest)] := resRow_two (Blk.newAt rfl _ _) ((HV8.out.keep hb10).keep hb11) (h10.keep hb11)
              have HB11 := hide (HB8.out.trans ((hb10.trans (hb11.mono hb10.size)).mono HB8.out.size))
              have hc3 : cntL [rThen [rBy b k0, rThen rest], rBy b (rThen rest)] ≤ 2000000 := by
                have h1 := HCT.out
                have h2 := HCB.out
                rw [cntL_cons, cntL_one]
                omega
              have HAN := hide (any_re [rThen [rBy b k0, rThen rest], rBy b (rThen rest)] _ _ hrow11 (fun x hx => by
                simp at hx; rcases hx with rfl | rfl
                · exact HWT.out
                · exact HWB.out) (by simp) (by have := cntL_len (flatL 4 [rThen [rBy b k0, rThen rest], rBy b (rThen rest)]); have := cntL_flatL 4 [rThen [rBy b k0, rThen rest], rBy b (rThen rest)]; omega) (HTW.out.agree (Agree.of_all (K := fun _ => True) HB11.out) trivial))
              clear h10 hb10 hb11 hrow11 hc3 HBY
              unfold PT at HAN
              try unfold PT
              go_wp2_with fail
              refine HAN.out.mono ?_
              rintro e w12 ⟨ab, rfl, h12, hb12⟩
              have H12 := hide h12
              have HB12 := hide (HB11.out.trans (hb12.mono HB11.out.size))
              clear h12 hb12 HAN
              try unfold PT
              go_wp2
              go_meet
              case rel => exact ⟨ab, rfl, (by show ReAt _ _ _; rw [HE.out]; exact H12.out), HB12.out⟩
          · have d3 : ((r.op : Int) == 3) = false := beq_eq_false_iff_ne.2 (by omega)
            by_cases h5 : r.op = 5
            · have d5 : ((r.op : Int) == 5) = true := by simp [h5]
              obtain ⟨k0, hkk, -⟩ := hsh.star h5
              rw [← HKS.out] at hkk
              have hw0 : Wf k0 := HKW.out k0 (by rw [hkk]; simp)
              have hc0 : k0.cnt ≤ 660 := by have := HKC.out; rw [hkk, cntL_one] at this; exact this
              have HE : Hid (rBy b r = rThen [rBy b k0, r]) := by
                show _ = _
                have hw := HWF.out
                have h9 : r = .mk 5 r.set [k0] := by
                  have := r.eta
                  rw [h5, ← HKS.out, hkk] at this
                  exact this
                rw [h9] at hw ⊢
                exact by_5 b hw
              obtain ⟨p0, pr, hps⟩ : ∃ p0 pr, ps = p0 :: pr := by
                cases hp2 : ps with
                | nil => have := HL.out; rw [hp2, hkk] at this; simp at this
                | cons x l => exact ⟨x, l, rfl⟩
              have hp0 : p0.2 = rBy b k0 := by
                have h1 := HS.out
                rw [hps, hkk] at h1
                simp at h1
                exact h1.1
              obtain ⟨-, ag, cg, eg, hpc⟩ := HKR.out
              obtain ⟨bg, og, eb, -, dP⟩ := hpc 0 p0 (by rw [hps]; rfl)
              obtain ⟨rfl, rfl⟩ : gk = bg ∧ og = 0 := by
                injection eg with x1 x2 x3
                rw [← x1] at eb
                injection eb with eb; injection eb with y1 y2
                exact ⟨y1, y2.symm⟩
              rw [Nat.add_zero] at dP
              have hpe := HPE.out p0 (by rw [hps]; simp)
              rw [hp0] at hpe
              generalize hpp : p0.1 = pb at *
              have hb7 := (Below.refl wr.heap.size wr).alloc (Nat.le_refl _) (.cells #[PT pb, PT rb] 27)
              have hrow7 : ResRow (wr.alloc (.cells #[PT pb, PT rb] 27)) (.slice (some ⟨wr.heap.size, 0, none⟩) 2 2) [rBy b k0, r] := resRow_two (Blk.newAt rfl _ _) (hpe.keep hb7) (HRW.out.keep hb7)
              have hc2 : cntL [rBy b k0, r] ≤ 1000000 := by
                have h1 := by_sq b hw0
                have h2 := sq_mono hc0
                have h3 := HHCNT.out
                rw [cntL_cons, cntL_one]
                omega
              have HTH2 := hide (then_any [rBy b k0, r] _ _ hrow7 (fun x hx => by
                simp at hx; rcases hx with rfl | rfl
                · exact wf_by b hw0
                · exact HWF.out) (by simp) (by have := cntL_len (catL [rBy b k0, r]); have := cntL_catL [rBy b k0, r]; omega))
              have HB7 := hide hb7
              have hk0l : 0 < ks.length := by rw [hkk]; simp
              clear h2 h3 h5 hsh hkk hw0 hc0 hps hp0 eg hpc eb hpe hpp hb7 hrow7 hc2
              unfold PT at HTH2 dP
              go_wp2_with fail
              refine HTH2.out.mono ?_
              rintro e w8 ⟨vb, rfl, h8, hb8⟩
              have H8 := hide h8
              have HB8 := hide (HB7.out.trans (hb8.mono HB7.out.size))
              clear h8 hb8 HTH2
              try unfold PT
              go_wp2
              go_meet
              case rel => exact ⟨vb, rfl, (by show ReAt _ _ _; rw [HE.out]; exact H8.out), HB8.out⟩
            · have d5 : ((r.op : Int) == 5) = false := beq_eq_false_iff_ne.2 (by omega)
              by_cases h4 : r.op = 4 ∨ r.op = 6 ∨ r.op = 7
              · have HE : Hid (rBy b r = rWith r (ks.map (rBy b))) := by
                  show _ = _
                  have h1 := by_467 b r.op (s := r.set) (ks := r.kids) h4 (by rw [← r.eta]; exact HWF.out)
                  rw [← r.eta] at h1
                  rw [HKS.out]; exact h1
                have hres := HKR.out.res HPE.out
                rw [HS.out] at hres
                have hwl : ∀ x ∈ ks.map (rBy b), Wf x := fun x hx => by
                  obtain ⟨k, hk, rfl⟩ := List.mem_map.1 hx
                  exact wf_by b (HKW.out k hk)
                have hcl : cntL (ks.map (rBy b)) ≤ 1000000 := by
                  have h1 := sum_sq b ks (fun k hk => beh_sq b k (HKW.out k hk))
                  have h2 := sq_mono HKC.out
                  omega
                have HWI := hide (with_any rb r (ks.map (rBy b)) _ wr HRW.out hres hwl (by have := cntL_len (ks.map (rBy b)); omega) (by have := cntL_len (catL (ks.map (rBy b))); have := cntL_catL (ks.map (rBy b)); omega)
                  (by have := cntL_len (flatL 4 (ks.map (rBy b))); have := cntL_flatL 4 (ks.map (rBy b)); omega) (by have := cntL_len (flatL 6 (ks.map (rBy b))); have := cntL_flatL 6 (ks.map (rBy b)); omega) HTW.out)
                clear hres hwl hcl h2 h3 h5 hsh
                unfold PT at HWI
                rcases h4 with h4 | h4 | h4
                · have d4 : ((r.op : Int) == 4) = true := by simp [h4]
                  clear h4
                  go_wp2_with fail
                  refine HWI.out.mono ?_
                  rintro e w8 ⟨vb, rfl, h8, hb8⟩
                  have H8 := hide h8
                  have HB8 := hide hb8
                  clear h8 hb8 HWI
                  try unfold PT
                  go_wp2
                  go_meet
                  case rel => exact ⟨vb, rfl, (by show ReAt _ _ _; rw [HE.out]; exact H8.out), HB8.out⟩
                · have d4 : ((r.op : Int) == 4) = false := beq_eq_false_iff_ne.2 (by omega)
                  have d6 : ((r.op : Int) == 6) = true := by simp [h4]
                  clear h4
                  go_wp2_with fail
                  refine HWI.out.mono ?_
                  rintro e w8 ⟨vb, rfl, h8, hb8⟩
                  have H8 := hide h8
                  have HB8 := hide hb8
                  clear h8 hb8 HWI
                  try unfold PT
                  go_wp2
                  go_meet
                  case rel => exact ⟨vb, rfl, (by show ReAt _ _ _; rw [HE.out]; exact H8.out), HB8.out⟩
                · have d4 : ((r.op : Int) == 4) = false := beq_eq_false_iff_ne.2 (by omega)
                  have d6 : ((r.op : Int) == 6) = false := beq_eq_false_iff_ne.2 (by omega)
                  have d7 : ((r.op : Int) == 7) = true := by simp [h4]
                  clear h4
                  go_wp2_with fail
                  refine HWI.out.mono ?_
                  rintro e w8 ⟨vb, rfl, h8, hb8⟩
                  have H8 := hide h8
                  have HB8 := hide hb8
                  clear h8 hb8 HWI
                  try unfold PT
                  go_wp2
                  go_meet
                  case rel => exact ⟨vb, rfl, (by show ReAt _ _ _; rw [HE.out]; exact H8.out), HB8.out⟩
              · have h01 : r.op = 0 ∨ r.op = 1 := by have := hsh.op; omega
                have d4 : ((r.op : Int) == 4) = false := beq_eq_false_iff_ne.2 (by omega)
                have d6 : ((r.op : Int) == 6) = false := beq_eq_false_iff_ne.2 (by omega)
                have d7 : ((r.op : Int) == 7) = false := beq_eq_false_iff_ne.2 (by omega)
                have HE : Hid (rBy b r = rNothing) := by show _ = _; rw [r.eta]; exact by_01 b r.op r.set r.kids h01
                clear h2 h3 h4 h5 h01 hsh
                go_wp2
                go_meet
                case rel => exact ⟨nb, rfl, (by show ReAt _ _ _; rw [HE.out]; exact HN.out), Below.refl _ _⟩
      case rest =>
        obtain ⟨w5, hw5⟩ : ∃ x, x = wr := ⟨_, rfl⟩
        subst hw5
        obtain ⟨wb, rfl, HWT, HBC⟩ := hcut
        have HRC := hide (HRW.out.keep HBC.out)
        have hsl : (r.sts false).length ≤ 660 := by have := sts_le false r; have := HHCNT.out; omega
        have HS1 := hide (lawSets_any r rb wc HRC.out (by omega))
        clear HKW HKS HKC HPE HKR HKRW HSW c0w c5w HN HS HL HK
        unfold PT at HS1
        go_wp2_with fail
        refine HS1.out.mono ?_
        rintro e w6 ⟨v1, rfl, ho1, hb6⟩
        have HO1 := hide ho1
        have HB6 := hide hb6
        have HS2 := hide (Sets_any r rb w6 (HRC.out.keep hb6) (by omega))
        clear ho1 hb6 HS1
        unfold PT at HS2
        go_wp2_with fail
        refine HS2.out.mono ?_
        rintro e w7 ⟨v2, rfl, ho2, hb7⟩
        have hr1 := (HO1.out.row (by omega)).below hb7
        have hr2 := ho2.row (by omega)
        have HB7 := hide (HBC.out.trans ((HB6.out.trans (hb7.mono HB6.out.size)).mono HBC.out.size))
        have HWT7 := hide ((HWT.out.keep HB6.out).keep hb7)
        clear ho2 hb7 HS2 HO1
        generalize r.sts false = l at *
        have HRA := hide hr1
        have HRB := hide hr2
        obtain ⟨-, aA, cA, rfl, -⟩ := hr1
        obtain ⟨-, aB, cB, rfl, -⟩ := hr2
        obtain ⟨n1, hn1⟩ : ∃ n1, n1 = l.length := ⟨_, rfl⟩
        rw [← hn1] at HRA HRB hsl ⊢
        have HN1 := hide hn1
        clear hn1
        have hbne : ((n1 : Int) != n1) = false := by simp
        obtain ⟨C, hCd⟩ : ∃ C : World → Prop, C = fun W => Below w7.heap.size w7 W := ⟨_, rfl⟩
        have hCb : ∀ W, C W → Below w7.heap.size w7 W := fun W h => by rw [hCd] at h; exact h
        have hbC : ∀ W, Below w7.heap.size w7 W → C W := fun W h => by rw [hCd]; exact h
        have hCd2 : ∀ W, C W → C { W with drawn := W.drawn + 1 } := fun W h => hbC _ ⟨(hCb W h).os, (hCb W h).tape, (hCb W h).output, (hCb W h).size, (hCb W h).block⟩
        have HC7 := hide (hbC w7 (Below.refl _ _))
        have HCB := hide hCb
        clear hCd hbC hCb
        go_wp2
        go_loopw [108] (fun c wr => ∃ k : Nat, k ≤ n1 ∧ c = .int .i64 k ∧ C wr) (fun c _ => n1 - (intOf c).toNat)
        case atStart => exact ⟨0, by omega, rfl, HC7.out⟩
        case round =>
          obtain ⟨k, hk, rfl, hC⟩ := hrel
          by_cases hlt : k < n1
          · have hkd : decide (k < n1) = true := by simp [hlt]
            obtain ⟨-, a1, c1, e1, hcA⟩ := HRA.out
            obtain ⟨ba, oa, rfl, -, hA⟩ := hcA k (by rw [← HN1.out]; exact hlt)
            obtain ⟨rfl, rfl⟩ : aA = some ⟨ba, oa, none⟩ ∧ cA = c1 := by injection e1 with x1 x2 x3; exact ⟨x1, x3⟩
            obtain ⟨-, a2, c2, e2, hcB⟩ := HRB.out
            obtain ⟨bb, ob, rfl, -, hBc⟩ := hcB k (by rw [← HN1.out]; exact hlt)
            obtain ⟨rfl, rfl⟩ : aB = some ⟨bb, ob, none⟩ ∧ cB = c2 := by injection e2 with x1 x2 x3; exact ⟨x1, x3⟩
            have HA : Hid (∀ W, C W → ∀ j, j < 4 → W.cell? ⟨ba, oa + k * 4 + j, none⟩ = some (.int .u64 (wd (l.getD k 0) j))) := by
              show ∀ W, _
              intro W hW j hj
              rw [← hA j hj]
              exact World.cell?_of_block (w := w7) ((HCB.out W hW).block _ (World.block_lt_of_cell? _ _ (hA j hj)))
            have HBB : Hid (∀ W, C W → ∀ j, j < 4 → W.cell? ⟨bb, ob + k * 4 + j, none⟩ = some (.int .u64 (wd (l.getD k 0) j))) := by
              show ∀ W, _
              intro W hW j hj
              rw [← hBc j hj]
              exact World.cell?_of_block (w := w7) ((HCB.out W hW).block _ (World.block_lt_of_cell? _ _ (hBc j hj)))
            generalize l.getD k 0 = p at *
            clear e1 e2 hcA hcB hA hBc
            go_wp2
            refine w_lit (C := C) (by kernel_rfl) (by kernel_rfl) (hCd2 _ hC) ?_
            refine w_value (.slice (some ⟨ba, oa, none⟩) n1 cA) (by kernel_rfl) (fun w hw => x_move _ _ _ _ _ _ _ _ rfl w) ?_
            simp only [Act.put, List.setIfInBounds_toArray, List.set_cons_succ, List.set_cons_zero]
            refine w_value (.int .i64 k) (by kernel_rfl) (fun w hw => x_move _ _ _ _ _ _ _ _ rfl w) ?_
            simp only [Act.put, List.setIfInBounds_toArray, List.set_cons_succ, List.set_cons_zero]
            refine w_value (.pointer (some ⟨ba, oa + k * 4, none⟩)) (by kernel_rfl) (fun w hw => x_idxS _ _ _ _ _ _ _ _ ba oa n1 cA k rfl rfl hlt w) ?_
            simp only [Act.put, List.setIfInBounds_toArray, List.set_cons_succ, List.set_cons_zero]
            refine w_value (SV p) (by kernel_rfl) (fun w hw => x_loadAt _ _ _ _ _ _ _ ba _ p rfl w (fun j hj => HA.out w hw j hj)) ?_
            simp only [Act.put, List.setIfInBounds_toArray, List.set_cons_succ, List.set_cons_zero]
            refine w_value (.slice (some ⟨bb, ob, none⟩) n1 cB) (by kernel_rfl) (fun w hw => x_move _ _ _ _ _ _ _ _ rfl w) ?_
            simp only [Act.put, List.setIfInBounds_toArray, List.set_cons_succ, List.set_cons_zero]
            refine w_value (.int .i64 k) (by kernel_rfl) (fun w hw => x_move _ _ _ _ _ _ _ _ rfl w) ?_
            simp only [Act.put, List.setIfInBounds_toArray, List.set_cons_succ, List.set_cons_zero]
            refine w_value (.pointer (some ⟨bb, ob + k * 4, none⟩)) (by kernel_rfl) (fun w hw => x_idxS _ _ _ _ _ _ _ _ bb ob n1 cB k rfl rfl hlt w) ?_
            simp only [Act.put, List.setIfInBounds_toArray, List.set_cons_succ, List.set_cons_zero]
            refine w_value (SV p) (by kernel_rfl) (fun w hw => x_loadAt _ _ _ _ _ _ _ bb _ p rfl w (fun j hj => HBB.out w hw j hj)) ?_
            simp only [Act.put, List.setIfInBounds_toArray, List.set_cons_succ, List.set_cons_zero]
            refine w_value (.bool (p != p)) (by kernel_rfl) (fun w hw => x_neqS _ _ _ _ _ _ _ _ _ _ rfl rfl w) ?_
            simp only [Act.put, List.setIfInBounds_toArray, List.set_cons_succ, List.set_cons_zero]
            refine w_nil ?_
            clear hC
            intro w9 hC
            rw [show (p != p) = false from by simp]
            go_wp2
            exact ⟨⟨k + 1, by omega, by go_num, hC⟩, by simp [intOf]; omega⟩
          · obtain rfl : k = n1 := by omega
            have hb8 := HCB.out _ hC
            have HR8 := hide ((HRW.out.keep (HB7.out)).keep hb8)
            have HW8 := hide (HWT7.out.keep hb8)
            have HB8 := hide (HB7.out.trans (hb8.mono HB7.out.size))
            have HT8 := hide (HTW.out.agree (Agree.of_all (K := fun _ => True) HB8.out) trivial)
            have HBY := hide (By_any b hb256 r rb wr HWF.out (fits_cnt b r HWF.out (by have := HHCNT.out; omega)) HR8.out HT8.out)
            have hwby := wf_by b HWF.out
            have HWBY := hide hwby
            clear hC hb8 hwby HRA HRB
            unfold PT at HBY
            go_wp2_with fail
            refine HBY.out.mono ?_
            rintro e w9 ⟨db, rfl, h9, hb9⟩
            have HB9 := hide (HB8.out.trans (hb9.mono HB8.out.size))
            have HT9 := hide (HT8.out.agree (Agree.of_all (K := fun _ => True) hb9) trivial)
            have hsm := same_re (rBy b r) (rBy b r) db wb w9 HWBY.out.k HWBY.out.k h9 (HW8.out.keep hb9) HT9.out
            rw [lexN_self] at hsm
            have HSM := hide hsm
            clear h9 hb9 hsm HBY
            unfold PT at HSM
            go_wp2_with fail
            refine HSM.out.mono ?_
            rintro e w10 ⟨rfl, hm10⟩
            have HB10 := hide (HB9.out.trans (hm10.below.mono HB9.out.size))
            have HT10 := hide (HT9.out.more hm10)
            have HBN := hide (By_nil b hb256 w10 HT10.out)
            clear hm10 HSM
            go_wp2_with fail
            refine HBN.out.mono ?_
            rintro e w11 ⟨fb, rfl, h11, hb11⟩
            have HB11 := hide (HB10.out.trans (hb11.mono HB10.out.size))
            have HT11 := hide (HT10.out.agree (Agree.of_all (K := fun _ => True) hb11) trivial)
            have H11 := hide h11
            clear h11 hb11 HBN
            go_wp2_with fail
            refine (nothing_any w11).mono ?_
            rintro e w12 ⟨gb, rfl, h12, hb12⟩
            have HB12 := hide (HB11.out.trans (hb12.mono HB11.out.size))
            have HT12 := hide (HT11.out.agree (Agree.of_all (K := fun _ => True) hb12) trivial)
            have hsm := same_re rNothing rNothing fb gb w12 wf_nothing.k wf_nothing.k (H11.out.keep hb12) h12 HT12.out
            rw [lexN_self] at hsm
            have HSM := hide hsm
            clear h12 hb12 hsm
            go_wp2_with fail
            refine HSM.out.mono ?_
            rintro e w13 ⟨rfl, hm13⟩
            have HB13 := hide (HB12.out.trans (hm13.below.mono HB12.out.size))
            clear hm13 HSM
            go_wp2_with fail
            refine (Sets_nil w13).mono ?_
            rintro e w14 ⟨rfl, rfl⟩
            go_wp2
            go_ret
            exact ⟨rfl, HB.out ▸ (HB3.out.trans (((HK3.out).trans (HB13.out.mono HK3.out.size)).mono hsB3))⟩
theorem derivRules_all (v : Value) (s : SHP) (w : World) (hv : ∃ cs, v = ShVal cs ∧ ShC w cs s) (n : Nat) (hn : n < 256) (hT : TabAt w) :
    Calls Tryd.prog 4 #[v, .int .u8 n] w fun e w' => e = .returned (.bool true) ∧ Below w.heap.size w w' := by
  obtain ⟨cs, rfl, hs⟩ := hv
  exact derivRules_any cs s n hn w hs hT
end Go.Proofs.YthemadegffhmfaaDoor
/- DerivRules answers true for every shape and byte: what stands behind a byte is made by the page's rules, and all sets of an expression are told from the left on. Conditions: the table of math/bits holds what its initialiser lays (the card ties that to the program's text). -/
namespace Go.Proofs.YthemadegffhmfaaDoor
set_option maxRecDepth 100000
open Go.ChangeShapes Go.WideShapes Go.ChangeAt Go.WideMaps Go.WideElems Go.RowKit

set_option maxRecDepth 100000 in
theorem derivRules_lifted (os : Os) (started : os.Started) (H : Type) (enc : TypeId × Value → H) :
    ReturnsInHanded {} Tryd.checked os 4 .any (fun w args => (Rows.derivRulesSpec.pre enc Tryd.prog Tryd.f4 [] false w args ∧ laidMetH Tryd.prog [("math/bits.deBruijn64tab", Rows.laid_math_bits_deBruijn64tab)] w) ∧ sizedMet enc Tryd.prog Tryd.f4 (OpenSpec.ofChange Rows.derivRulesSpec) false w args)
      (Rows.derivRulesSpec.post enc Tryd.prog Tryd.f4 false true false false) := by
  refine returnsInHanded_of_change_and (C := Tryd.checked) (X := fun w _ => laidMetH Tryd.prog [("math/bits.deBruijn64tab", Rows.laid_math_bits_deBruijn64tab)] w) (fun _ _ _ hh h => h.of_heap hh) own started (by kernel_rfl) Tryd.func4
    (ChangeSpec.witness_shaped (enc := enc) (C := Tryd.checked) (os := os) (X := fun w _ => laidMetH Tryd.prog [("math/bits.deBruijn64tab", Rows.laid_math_bits_deBruijn64tab)] w) false (World.doorLaid Tryd.prog 400 os)
      #[.agg #[.int .i64 0, .int .u8 0, .int .u8 0, .string ⟨#[]⟩, .slice none 0 0], .int .u8 0] 8 rfl (World.shaped_of_RefB (by kernel_rfl) (by kernel_rfl)) (by kernel_rfl) (by kernel_rfl) (by kernel_rfl) (door_met os _)) ?_
  intro W base args ds gs before hval0 hW _ _ hL _
  have hval : ∀ (j : Nat) t v, Tryd.f4.params[j]? = some t → args[j]? = some v → Value.okWide Tryd.prog W .any base t v := hval0
  have hW' := hW
  obtain ⟨p, q, hA0, hV, rfl, hfz, hnd⟩ := hW
  have hA : DataW.TrodAll enc Tryd.prog W 0 (fun _ => true) true Tryd.f4.params.toList args.toList ds p := hA0
  rw [Tryd.params4] at hA hval
  obtain ⟨v0, v1, d0, d1, p0, p1, rfl, rfl, rfl, h0, h1⟩ := trodAll_two hA
  obtain ⟨rfl, rfl⟩ := trodVars_none hV
  have k0 := h0
  have lt0 : ∀ x ∈ p0, x.block < W.heap.size := by obtain ⟨m, hm⟩ := k0; exact DataW.trod_lt m _ _ _ hm
  obtain ⟨z0, hz0⟩ := open_shape (hval 0 24 v0 rfl rfl) h0
  have k1 := h1
  obtain ⟨i1, rfl, rfl, rfl, w1⟩ := open_int Tryd.underlying5 (hval 1 5 v1 rfl rfl) h1
  have b1 := bounds_u8 w1
  obtain ⟨n1, rfl⟩ := Int.eq_ofNat_of_zero_le b1.1
  have g1 : n1 < 256 := by omega
  have hT := tab_of_laid hL
  clear hA0 hval0
  refine (derivRules_all v0 z0 W hz0 n1 g1 hT).mono fun e W' ⟨he, hb⟩ => ?_
  subst he
  exact ⟨_, rfl, _, _, _, [], _, [], hW', trodAll_mk1 (shut_bool Tryd.underlying4 _), trodAll_mk2 (Below.trod laidOut (by kernel_rfl) (of_decide_eq_true (by kernel_rfl)) k0 hb lt0) (shut_int Tryd.underlying5 w1), rfl, hb.frame _, fun h => by cases h⟩

theorem derivRules_said : Rows.DerivRulesSaid :=
  OpenClaim.holds_of_wide 4 Tryd.f4 rfl rfl rfl rfl rfl rfl rfl ⟨rfl, rfl, rfl, rfl, rfl⟩ rfl rfl rfl rfl rfl (by kernel_rfl) Tryd.func4 (by kernel_rfl)
    (of_decide_eq_true (by kernel_rfl)) (by unfold Func.isWrapper; first | (rw [if_pos (by decide +kernel)]; kernel_rfl) | (rw [if_neg (by decide +kernel)]; exact ⟨rfl, rfl⟩))
    (fun os started H enc _ => derivRules_lifted os started H enc)

theorem derivRules_card : Rows.DerivRulesCardSaid :=
  Claim7.holds_tied_plain_at .later [] [.data] true Rows.derivRulesCard.stood.harness false
    derivRules_said (fun _ h => by cases h) (by kernel_rfl) (fun _ h => by cases h) derivRules_row_tie rfl ⟨rfl, rfl⟩ (by kernel_rfl) rfl
    (fun f fn hf hfn => by
      obtain rfl : f = 4 := Option.some.inj ((show Tryd.prog.funcNamed "periscope/periscopelaw05.DerivRules" = some 4 by kernel_rfl).symm.trans hf) |>.symm
      obtain rfl : fn = Tryd.f4 := (Option.some.inj (Tryd.func4.symm.trans hfn)).symm
      exact ⟨by kernel_rfl, fun j t ht => by
        rw [Tryd.params4] at ht
        have hm : t ∈ [24, 5] := by simpa using Array.mem_of_getElem? ht
        have hall : ([24, 5].all fun u => !Tryd.prog.wantsStandIn u) = true := by kernel_rfl
        exact (show Tryd.prog.wantsStandIn t = false by simpa using List.all_eq_true.1 hall t hm)⟩)
    (by kernel_rfl)
#print axioms derivRules_card
end Go.Proofs.YthemadegffhmfaaDoor
