/- Texts of this claim put together: TrE, TrF, TrG. -/
import Derived.Test.YtjlgepahgmkamaaGreatDoorJoinTrD
import Derived.Test.YtjlgepahgmkamaaGreatDoorJoinMathRd4
import Derived.Test.YtjlgepahgmkamaaGreatDoorJoinReO
import Derived.Test.YtjlgepahgmkamaaGreatDoorJoinShE
import Derived.Deep.LoopGhost
/- The reader's lists: or, and. -/
namespace Go.Proofs.YtjlgepahgmkamaaGreatDoor
set_option maxRecDepth 100000
set_option linter.unusedSimpArgs false
set_option linter.unusedVariables false
open Go.RowKit

/-- What a reading call does: it yields what the function yields, and leaves the reader so. -/
def RdC (fn : FuncId) (m : St.Md) (F : Nat) : Prop := ∀ f, f < F → ∀ (p : Nat) (s : ByteArray) (st : St) (r : RE) (st' : St) (w : World), RdAt w p s st → Ok st → Pre st.cnt st m → TabAt w → St.P s.size f m st = some (r, st') →
  Calls Tryz.prog fn #[PT p] w fun e w' => ∃ b, e = .returned (PT b) ∧ ReAt w' b r ∧ RdAt w' p s st' ∧ Aside p w w'

/-- A list of what was read, and the reader. -/
structure LsW (w : World) (p : Nat) (s : ByteArray) (st : St) (v : Value) (ps : List (Nat × RE)) (W : World) : Prop where
  rd : RdAt W p s st
  own : OwnZ W w.heap.size v ps
  elem : ∀ x ∈ ps, ReAt W x.1 x.2
  aside : Aside p w W
  old : p < w.heap.size
theorem LsW.step {w W W' : World} {p : Nat} {s : ByteArray} {st : St} {v : Value} {ps : List (Nat × RE)} (h : LsW w p s st v ps W) (hb : Below W.heap.size W W') : LsW w p s st v ps W' :=
  ⟨h.rd.keep hb, h.own.keep hb, fun x hx => (h.elem x hx).keep hb, h.aside.trans (Aside.of_below hb), h.old⟩
theorem LsW.read {w W W' : World} {p : Nat} {s : ByteArray} {st st' : St} {v : Value} {ps : List (Nat × RE)} (h : LsW w p s st v ps W) (hr : RdAt W' p s st') (ha : Aside p W W') : LsW w p s st' v ps W' := by
  refine ⟨hr, ?_, fun x hx => (h.elem x hx).aside h.rd ha, h.aside.trans ha, h.old⟩
  obtain ⟨g, cap, cur, e, h1, h2, h3⟩ := h.own.own
  exact ⟨g, cap, cur, e, h1, (ha.block g h2.lt (by have := h.old; omega)).trans h2, h3⟩
theorem LsW.append {w W : World} {p : Nat} {s : ByteArray} {st : St} {v : Value} {ps : List (Nat × RE)} (h : LsW w p s st v ps W) (ty : TypeId) (sb b : Nat) (r : RE) (hs : Blk W sb #[PT b] 32) (hr : ReAt W b r) (hl : ps.length ≤ 1000000) :
    ∃ v' W', (Builtin.append_ #[63, 63] ty #[v, .slice (some ⟨sb, 0, none⟩) 1 1]).run Tryz.prog W = .ok v' W' ∧ LsW w p s st v' (ps ++ [(b, r)]) W' := by
  obtain ⟨v', W', h1, h2, h3, h4⟩ := run_appendZ h.own ty sb b r hs hl h.aside.size
  refine ⟨v', W', h1, ⟨h.rd.blk.below h3 h.old, h.rd.suf, h.rd.len, h.rd.big⟩, h2, fun x hx => ?_, ⟨h3.os.trans h.aside.os, h3.tape.trans h.aside.tape, h3.output.trans h.aside.output, Nat.le_trans h.aside.size h3.size, fun k hk hp => (h3.block k hk).trans (h.aside.block k hk hp)⟩, h.old⟩
  rcases List.mem_append.1 hx with hx | hx
  · exact h4 _ _ (h.elem x hx)
  · simp at hx; subst hx; exact h4 _ _ hr
theorem OwnZ.one {W : World} {base g b : Nat} {r : RE} (hg : Blk W g #[PT b] 32) (hb : base ≤ g) : OwnZ W base (.slice (some ⟨g, 0, none⟩) 1 1) [(b, r)] :=
  ⟨g, 1, _, rfl, hb, hg, by simp, by unfold maxLen; omega, rfl⟩
/-- The first one. -/
theorem LsW.one {w W : World} {p b : Nat} {s : ByteArray} {st : St} {r : RE} (hR : RdAt W p s st) (hA : Aside p w W) (hr : ReAt W b r) (hp : p < w.heap.size) :
    LsW w p s st (.slice (some ⟨W.heap.size, 0, none⟩) 1 1) [(b, r)] (W.alloc (.cells #[PT b] 32)) := by
  have hb := (Below.refl W.heap.size W).alloc (Nat.le_refl _) (.cells #[PT b] 32)
  exact ⟨hR.keep hb, OwnZ.one (Blk.newAt rfl _ _) hA.size, fun x hx => by simp at hx; subst hx; exact hr.keep hb, hA.trans (Aside.of_below hb), hp⟩
theorem LsW.row {w W : World} {p : Nat} {s : ByteArray} {st : St} {v : Value} {ps : List (Nat × RE)} (h : LsW w p s st v ps W) (hl : ps.length ≤ 4611686018427387904) : ResRow W v (ps.map Prod.snd) := (h.own.row (FL.none _) hl).res h.elem
theorem ls_bounds {l : List RE} (h : cntL l ≤ 1000000000) : l.length ≤ 1099511627776 ∧ (catL l).length ≤ 1099511627776 ∧ (flatL 4 l).length ≤ 1099511627776 ∧ (flatL 6 l).length ≤ 1099511627776 := by
  have a0 := cntL_len l
  have a1 := cntL_len (catL l); have a2 := cntL_catL l
  have b1 := cntL_len (flatL 4 l); have b2 := cntL_flatL 4 l
  have c1 := cntL_len (flatL 6 l); have c2 := cntL_flatL 6 l
  omega
theorem Bd.cnt {x c0 : Nat} {st : St} (h : Bd x 0 c0 st) (ho : Ok st) : x ≤ 600000000 := by
  obtain ⟨h1, h2, h3⟩ := h
  have := ho.cnt
  by_cases e : st.err = 0
  · have := h1 e; omega
  · have := h2 e; omega

set_option maxHeartbeats 2000000 in
theorem or_step (F : Nat) (hm : RdC 101 .minus F) : RdC 85 .or (F + 1) := by
  intro f hf p s st r st' w hR ho hp hT hP
  cases f with
  | zero => simp [St.P] at hP
  | succ g =>
    simp only [St.P] at hP
    obtain ⟨⟨q, s1⟩, h1, h2⟩ := Option.bind_eq_some_iff.1 hP
    have hc := hm g (by omega) p s st q s1 w hR ho hp hT h1
    have hi := P_inv s.size g .minus st.cnt st q s1 h1 ho hp
    have HI := hide hi
    have HC := hide hc
    have H2 := hide h2
    have HT := hide hT
    have HR := hide hR
    have HM := hide hm
    have HPL := hide hR.blk.lt
    have hgF : g < F + 1 := by omega
    clear hP h1 h2 hc hi hT hR hm ho hf hp
    unfold PT at HC ⊢
    go_enter Tryz.func85, Tryz.ntmps85
    go_wp2_with fail
    refine HC.out.mono ?_
    rintro e w1 ⟨b, rfl, hrb, hR1, hA1⟩
    have hls := LsW.one hR1 hA1 hrb HPL.out
    have HLS := hide hls
    clear hrb hR1 hA1 hls HC
    unfold PT at HLS
    go_wp2
    go_loopg [3] g (fun k v wr => Hid (∃ ps st1, LsW w p s st1 v ps wr ∧ Ok st1 ∧ Pre st.cnt st1 (.orL (ps.map Prod.snd)) ∧ St.P s.size k (.orL (ps.map Prod.snd)) st1 = some (r, st') ∧ k ≤ g))
    case atStart => exact ⟨[(b, q)], s1, HLS.out, HI.out.ok, ⟨by simp, fun x hx => by simp at hx; subst hx; exact HI.out.wf, HI.out.bd.one, by have := HI.out.bd.lt (by simp only [offM]; omega); simp; omega⟩, H2.out, Nat.le_refl _⟩
    case round =>
      clear HLS HI H2
      obtain ⟨ps, st1, hls, hok, hpr, hP, hkg⟩ := hrel
      cases gk with
      | zero => simp [St.P] at hP
      | succ k =>
        simp only [St.P] at hP
        obtain ⟨g3, cap3, hv3⟩ := hls.own.slice
        subst hv3
        obtain ⟨z, hz⟩ : ∃ z, z = st1.signB 124 := ⟨_, rfl⟩
        have hsg := sign_any p 124 s st1 wr hls.rd
        rw [← hz] at hsg hP
        have HSG := hide hsg
        have HLS := hide hls
        have HOK := hide hok
        have HPR := hide hpr
        have HZ := hide hz
        have hpl : ps.length ≤ 1000000 := by
          have h1 := hpr.2.2.2
          have h2 := hok.cnt
          simp at h1; omega
        clear hsg hls hok hpr hz
        unfold PT at HSG
        go_wp2_with fail
        refine HSG.out.mono ?_
        rintro e w2 ⟨rfl, hR2, hA2⟩
        have HL2 := hide (HLS.out.read hR2 hA2)
        clear hR2 hA2 HSG HLS
        have HT2 := hide (HT.out.aside HR.out HL2.out.aside)
        cases z with
        | true =>
          rw [if_pos rfl] at hP
          obtain ⟨⟨q, s2⟩, h1, h2⟩ := Option.bind_eq_some_iff.1 hP
          have hs0 := HOK.out.sign0 HZ.out.symm
          have hcc := (HOK.out.ok hs0).1
          have hq := sign_eq 124 st1
          have hpre : Pre (st1.sign 124).cnt (st1.sign 124) .minus := ⟨rfl, by omega⟩
          have hc := HM.out k (by omega) p s _ q s2 w2 HL2.out.rd (HOK.out.sign 124) hpre HT2.out h1
          have hi := P_inv s.size k .minus _ _ q s2 h1 (HOK.out.sign 124) hpre
          have hb1 : Bd (q.cnt + 7) 0 st1.cnt s2 := by rw [← hq.2.1]; exact hi.bd
          have HPR2 : Hid (Pre st.cnt s2 (.orL (ps.map Prod.snd ++ [q]))) := by
            obtain ⟨p1, p2, p3, p4⟩ := HPR.out
            refine ⟨by simp, fun x hx => ?_, Bd.snoc (x := 0) (y := 0) p3 hs0 hb1, ?_⟩
            · rcases List.mem_append.1 hx with hx | hx
              · exact p2 x hx
              · rw [List.mem_singleton] at hx; subst hx; exact hi.wf
            · have := hb1.lt (by omega)
              rw [List.length_append, List.length_singleton]; omega
          have HI := hide hi
          have HC := hide hc
          have H2 := hide h2
          clear hP h1 h2 hc hi hs0 hcc hq hpre hb1 HOK HPR HZ
          unfold PT at HC
          go_wp2_with fail
          refine HC.out.mono ?_
          rintro e w3 ⟨b, rfl, hrb, hR3, hA3⟩
          have hl3 := HL2.out.read hR3 hA3
          have hb3 := (Below.refl w3.heap.size w3).alloc (Nat.le_refl _) (.cells #[PT b] 32)
          obtain ⟨v3, W3, hr3, hl4⟩ := (hl3.step hb3).append 63 w3.heap.size b q (Blk.newAt rfl _ _) (hrb.keep hb3) hpl
          have HL4 := hide hl4
          clear hrb hR3 hA3 hl3 hb3 hl4 HC HL2 HT2
          unfold PT at hr3
          go_wp2_with (refine wpList_append_run rfl _ _ _ rfl _ _ _ rfl rfl hr3 ?_)
          go_roundg k
          case measure => omega
          case rel => exact ⟨ps ++ [(b, q)], s2, HL4.out, HI.out.ok, by rw [List.map_append]; exact HPR2.out, by rw [List.map_append]; exact H2.out, by omega⟩
        | false =>
          rw [if_neg (by simp)] at hP
          injection hP with hP
          injection hP with e1 e2
          obtain ⟨p1, p2, p3, p4⟩ := HPR.out
          have hcb := p3.cnt HOK.out
          obtain ⟨b1, b2, b3, b4⟩ := ls_bounds (l := ps.map Prod.snd) (by omega)
          have hca := any_re (ps.map Prod.snd) _ w2 (HL2.out.row (by omega)) p2 b1 b3 HT2.out
          rw [e1] at hca
          have HCA := hide hca
          have HE2 := hide e2
          clear hca e1 e2 p1 p2 p3 p4 hcb b1 b2 b3 b4 HOK HPR HT2
          go_wp2_with fail
          refine HCA.out.mono ?_
          rintro e w3 ⟨b, rfl, hrb, hb3⟩
          have HRB := hide hrb
          have HL3 := hide (HL2.out.step hb3)
          clear hrb hb3 HCA HL2
          unfold PT
          go_wp2
          go_ret
          refine ⟨b, rfl, HRB.out, ?_, HL3.out.aside⟩
          rw [← HE2.out]; exact HL3.out.rd

set_option maxHeartbeats 2000000 in
theorem and_step (F : Nat) (hm : RdC 128 .cat F) : RdC 120 .and (F + 1) := by
  intro f hf p s st r st' w hR ho hp hT hP
  cases f with
  | zero => simp [St.P] at hP
  | succ g =>
    simp only [St.P] at hP
    obtain ⟨⟨q, s1⟩, h1, h2⟩ := Option.bind_eq_some_iff.1 hP
    have hc := hm g (by omega) p s st q s1 w hR ho hp hT h1
    have hi := P_inv s.size g .cat st.cnt st q s1 h1 ho hp
    have HI := hide hi
    have HC := hide hc
    have H2 := hide h2
    have HT := hide hT
    have HR := hide hR
    have HM := hide hm
    have HPL := hide hR.blk.lt
    have hgF : g < F + 1 := by omega
    clear hP h1 h2 hc hi hT hR hm ho hf hp
    unfold PT at HC ⊢
    go_enter Tryz.func120, Tryz.ntmps120
    go_wp2_with fail
    refine HC.out.mono ?_
    rintro e w1 ⟨b, rfl, hrb, hR1, hA1⟩
    have hls := LsW.one hR1 hA1 hrb HPL.out
    have HLS := hide hls
    clear hrb hR1 hA1 hls HC
    unfold PT at HLS
    go_wp2
    go_loopg [3] g (fun k v wr => Hid (∃ ps st1, LsW w p s st1 v ps wr ∧ Ok st1 ∧ Pre st.cnt st1 (.andL (ps.map Prod.snd)) ∧ St.P s.size k (.andL (ps.map Prod.snd)) st1 = some (r, st') ∧ k ≤ g))
    case atStart => exact ⟨[(b, q)], s1, HLS.out, HI.out.ok, ⟨by simp, fun x hx => by simp at hx; subst hx; exact HI.out.wf, HI.out.bd.one, by have := HI.out.bd.lt (by simp only [offM]; omega); simp; omega⟩, H2.out, Nat.le_refl _⟩
    case round =>
      clear HLS HI H2
      obtain ⟨ps, st1, hls, hok, hpr, hP, hkg⟩ := hrel
      cases gk with
      | zero => simp [St.P] at hP
      | succ k =>
        simp only [St.P] at hP
        obtain ⟨g3, cap3, hv3⟩ := hls.own.slice
        subst hv3
        obtain ⟨z, hz⟩ : ∃ z, z = st1.signB 38 := ⟨_, rfl⟩
        have hsg := sign_any p 38 s st1 wr hls.rd
        rw [← hz] at hsg hP
        have HSG := hide hsg
        have HLS := hide hls
        have HOK := hide hok
        have HPR := hide hpr
        have HZ := hide hz
        have hpl : ps.length ≤ 1000000 := by
          have h1 := hpr.2.2.2
          have h2 := hok.cnt
          simp at h1; omega
        clear hsg hls hok hpr hz
        unfold PT at HSG
        go_wp2_with fail
        refine HSG.out.mono ?_
        rintro e w2 ⟨rfl, hR2, hA2⟩
        have HL2 := hide (HLS.out.read hR2 hA2)
        clear hR2 hA2 HSG HLS
        have HT2 := hide (HT.out.aside HR.out HL2.out.aside)
        cases z with
        | true =>
          rw [if_pos rfl] at hP
          obtain ⟨⟨q, s2⟩, h1, h2⟩ := Option.bind_eq_some_iff.1 hP
          have hs0 := HOK.out.sign0 HZ.out.symm
          have hcc := (HOK.out.ok hs0).1
          have hq := sign_eq 38 st1
          have hpre : Pre (st1.sign 38).cnt (st1.sign 38) .cat := ⟨rfl, by omega⟩
          have hc := HM.out k (by omega) p s _ q s2 w2 HL2.out.rd (HOK.out.sign 38) hpre HT2.out h1
          have hi := P_inv s.size k .cat _ _ q s2 h1 (HOK.out.sign 38) hpre
          have hb1 : Bd (q.cnt + 9) 0 st1.cnt s2 := by rw [← hq.2.1]; exact hi.bd
          have HPR2 : Hid (Pre st.cnt s2 (.andL (ps.map Prod.snd ++ [q]))) := by
            obtain ⟨p1, p2, p3, p4⟩ := HPR.out
            refine ⟨by simp, fun x hx => ?_, Bd.snoc (x := 0) (y := 0) p3 hs0 hb1, ?_⟩
            · rcases List.mem_append.1 hx with hx | hx
              · exact p2 x hx
              · rw [List.mem_singleton] at hx; subst hx; exact hi.wf
            · have := hb1.lt (by omega)
              rw [List.length_append, List.length_singleton]; omega
          have HI := hide hi
          have HC := hide hc
          have H2 := hide h2
          clear hP h1 h2 hc hi hs0 hcc hq hpre hb1 HOK HPR HZ
          unfold PT at HC
          go_wp2_with fail
          refine HC.out.mono ?_
          rintro e w3 ⟨b, rfl, hrb, hR3, hA3⟩
          have hl3 := HL2.out.read hR3 hA3
          have hb3 := (Below.refl w3.heap.size w3).alloc (Nat.le_refl _) (.cells #[PT b] 32)
          obtain ⟨v3, W3, hr3, hl4⟩ := (hl3.step hb3).append 63 w3.heap.size b q (Blk.newAt rfl _ _) (hrb.keep hb3) hpl
          have HL4 := hide hl4
          clear hrb hR3 hA3 hl3 hb3 hl4 HC HL2 HT2
          unfold PT at hr3
          go_wp2_with (refine wpList_append_run rfl _ _ _ rfl _ _ _ rfl rfl hr3 ?_)
          go_roundg k
          case measure => omega
          case rel => exact ⟨ps ++ [(b, q)], s2, HL4.out, HI.out.ok, by rw [List.map_append]; exact HPR2.out, by rw [List.map_append]; exact H2.out, by omega⟩
        | false =>
          rw [if_neg (by simp)] at hP
          injection hP with hP
          injection hP with e1 e2
          obtain ⟨p1, p2, p3, p4⟩ := HPR.out
          have hcb := p3.cnt HOK.out
          obtain ⟨b1, b2, b3, b4⟩ := ls_bounds (l := ps.map Prod.snd) (by omega)
          have hca := both_re (ps.map Prod.snd) _ w2 (HL2.out.row (by omega)) p2 b1 b4 HT2.out
          rw [e1] at hca
          have HCA := hide hca
          have HE2 := hide e2
          clear hca e1 e2 p1 p2 p3 p4 hcb b1 b2 b3 b4 HOK HPR HT2
          go_wp2_with fail
          refine HCA.out.mono ?_
          rintro e w3 ⟨b, rfl, hrb, hb3⟩
          have HRB := hide hrb
          have HL3 := hide (HL2.out.step hb3)
          clear hrb hb3 HCA HL2
          unfold PT
          go_wp2
          go_ret
          refine ⟨b, rfl, HRB.out, ?_, HL3.out.aside⟩
          rw [← HE2.out]; exact HL3.out.rd
end Go.Proofs.YtjlgepahgmkamaaGreatDoor
/- The reader: minus, post, atom, group. -/
namespace Go.Proofs.YtjlgepahgmkamaaGreatDoor
set_option maxRecDepth 100000
set_option linter.unusedSimpArgs false
set_option linter.unusedVariables false
open Go.RowKit

/-- What was read, and the reader. -/
structure OnW (w : World) (p : Nat) (s : ByteArray) (st : St) (b : Nat) (x : RE) (W : World) : Prop where
  rd : RdAt W p s st
  re : ReAt W b x
  aside : Aside p w W
theorem OnW.step {w W W' : World} {p : Nat} {s : ByteArray} {st : St} {b : Nat} {x : RE} (h : OnW w p s st b x W) (hb : Below W.heap.size W W') : OnW w p s st b x W' := ⟨h.rd.keep hb, h.re.keep hb, h.aside.trans (Aside.of_below hb)⟩
theorem OnW.read {w W W' : World} {p : Nat} {s : ByteArray} {st st' : St} {b : Nat} {x : RE} (h : OnW w p s st b x W) (hr : RdAt W' p s st') (ha : Aside p W W') : OnW w p s st' b x W' := ⟨hr, h.re.aside h.rd ha, h.aside.trans ha⟩
theorem OnW.new {w W : World} {p : Nat} {s : ByteArray} {st : St} {b b' : Nat} {x y : RE} (h : OnW w p s st b x W) (hr : ReAt W b' y) : OnW w p s st b' y W := ⟨h.rd, hr, h.aside⟩

set_option maxHeartbeats 2000000 in
theorem minus_step (F : Nat) (hm : RdC 120 .and F) : RdC 101 .minus (F + 1) := by
  intro f hf p s st r st' w hR ho hp hT hP
  cases f with
  | zero => simp [St.P] at hP
  | succ g =>
    simp only [St.P] at hP
    obtain ⟨⟨q, s1⟩, h1, h2⟩ := Option.bind_eq_some_iff.1 hP
    have hc := hm g (by omega) p s st q s1 w hR ho hp hT h1
    have hi := P_inv s.size g .and st.cnt st q s1 h1 ho hp
    have HI := hide hi
    have HC := hide hc
    have H2 := hide h2
    have HT := hide hT
    have HR := hide hR
    have HM := hide hm
    have hgF : g < F + 1 := by omega
    clear hP h1 h2 hc hi hT hR hm ho hf hp
    unfold PT at HC ⊢
    go_enter Tryz.func101, Tryz.ntmps101
    go_wp2_with fail
    refine HC.out.mono ?_
    rintro e w1 ⟨b, rfl, hrb, hR1, hA1⟩
    have HON : Hid (OnW w p s s1 b q w1) := ⟨hR1, hrb, hA1⟩
    clear hrb hR1 hA1 HC
    go_wp2
    go_loopg [3] g (fun k v wr => ∃ b x st1, v = .pointer (some ⟨b, 0, none⟩) ∧ Hid (OnW w p s st1 b x wr ∧ Ok st1 ∧ Pre st.cnt st1 (.minusL x) ∧ St.P s.size k (.minusL x) st1 = some (r, st') ∧ k ≤ g))
    case atStart => exact ⟨b, q, s1, rfl, HON.out, HI.out.ok, ⟨HI.out.wf, HI.out.bd⟩, H2.out, Nat.le_refl _⟩
    case round =>
      clear HON HI H2
      obtain ⟨b1, x, st1, rfl, hon, hok, hpr, hP, hkg⟩ := hrel
      cases gk with
      | zero => simp [St.P] at hP
      | succ k =>
        simp only [St.P] at hP
        obtain ⟨z, hz⟩ : ∃ z, z = st1.signB 45 := ⟨_, rfl⟩
        have hsg := sign_any p 45 s st1 wr hon.rd
        rw [← hz] at hsg hP
        have HSG := hide hsg
        have HON := hide hon
        have HOK := hide hok
        have HPR := hide hpr
        have HZ := hide hz
        clear hsg hon hok hpr hz
        unfold PT at HSG
        go_wp2_with fail
        refine HSG.out.mono ?_
        rintro e w2 ⟨rfl, hR2, hA2⟩
        have HL2 := hide (HON.out.read hR2 hA2)
        clear hR2 hA2 HSG HON
        have HT2 := hide (HT.out.aside HR.out HL2.out.aside)
        cases z with
        | true =>
          rw [if_pos rfl] at hP
          obtain ⟨⟨q, s2⟩, h1, h2⟩ := Option.bind_eq_some_iff.1 hP
          have hs0 := HOK.out.sign0 HZ.out.symm
          have hcc := (HOK.out.ok hs0).1
          have hq := sign_eq 45 st1
          have hpre : Pre (st1.sign 45).cnt (st1.sign 45) .and := ⟨rfl, by omega⟩
          have hc := HM.out k (by omega) p s _ q s2 w2 HL2.out.rd (HOK.out.sign 45) hpre HT2.out h1
          have hi := P_inv s.size k .and _ _ q s2 h1 (HOK.out.sign 45) hpre
          have HPR2 : Hid (Pre st.cnt s2 (.minusL (rBut x q))) := by
            obtain ⟨p1, hb⟩ := HPR.out
            obtain ⟨k1, k2, k3⟩ := hi.bd
            rw [hq.2.1] at k1 k2 k3
            simp only [offM, slackM] at k1 k2
            have kb := hb.1 hs0
            have kc := hb.2.2
            have hk := cnt_but x q
            exact ⟨wf_but p1 hi.wf, fun e => by have := k1 e; omega, fun e => by have := k2 e; omega, by omega⟩
          have HI := hide hi
          have HC := hide hc
          have H2 := hide h2
          have HWX := hide HPR.out.1
          clear hP h1 h2 hc hi hs0 hcc hq hpre HOK HPR HZ
          unfold PT at HC
          go_wp2_with fail
          refine HC.out.mono ?_
          rintro e w3 ⟨b2, rfl, hrb, hR3, hA3⟩
          have hl3 := HL2.out.read hR3 hA3
          have hbt := but_any b1 b2 x q w3 hl3.re hrb HWX.out.k HI.out.wf.k (HT.out.aside HR.out hl3.aside)
          have HBT := hide hbt
          have HL3 := hide hl3
          clear hrb hR3 hA3 hl3 hbt HC HL2 HT2 HWX
          unfold PT at HBT
          go_wp2_with fail
          refine HBT.out.mono ?_
          rintro e w4 ⟨b3, rfl, hrb, hb4⟩
          have HL4 := hide ((HL3.out.step hb4).new hrb)
          clear hrb hb4 HBT HL3
          go_wp2
          go_roundg k
          case measure => omega
          case rel => exact ⟨b3, rBut x q, s2, rfl, HL4.out, HI.out.ok, HPR2.out, H2.out, by omega⟩
        | false =>
          rw [if_neg (by simp)] at hP
          injection hP with hP
          injection hP with e1 e2
          have HE1 := hide e1
          have HE2 := hide e2
          clear e1 e2 HOK HPR HT2
          go_wp2
          go_ret
          refine ⟨b1, rfl, ?_, ?_, HL2.out.aside⟩
          · rw [← HE1.out]; exact HL2.out.re
          · rw [← HE2.out]; exact HL2.out.rd

/-- group: at least the ( was read. -/
def RdG (F : Nat) : Prop := ∀ f, f < F → ∀ (p : Nat) (s : ByteArray) (st : St) (r : RE) (st' : St) (w : World), RdAt w p s st → Ok st → Pre st.cnt st .group → TabAt w → st.rest.length < s.size → St.P s.size f .group st = some (r, st') →
  Calls Tryz.prog 133 #[PT p] w fun e w' => ∃ b, e = .returned (PT b) ∧ ReAt w' b r ∧ RdAt w' p s st' ∧ Aside p w w'
theorem RdAt.up {w : World} {p : Nat} {s : ByteArray} {st : St} (h : RdAt w p s st) (n : Nat) (hn : n = st.deep - 1) : RdAt (w.setCell ⟨p, 2, none⟩ (.int .i64 n)) p s st.upper := by
  subst hn; exact ⟨h.blk.rd2 _, h.suf, h.len, h.big⟩
theorem OnW.up {w W : World} {p : Nat} {s : ByteArray} {st : St} {b : Nat} {x : RE} (h : OnW w p s st b x W) (n : Nat) (hn : n = st.deep - 1) : OnW w p s st.upper b x (W.setCell ⟨p, 2, none⟩ (.int .i64 n)) :=
  h.read (h.rd.up n hn) (Aside.set _ _ _)

set_option maxHeartbeats 1000000 in
theorem group_step (F : Nat) (hm : RdC 85 .or F) : RdG (F + 1) := by
  intro f hf p s st r st' w hR ho hp hT hlt hP
  cases f with
  | zero => simp [St.P] at hP
  | succ g =>
    simp only [St.P] at hP
    obtain ⟨-, hcn, h0⟩ := hp
    have hdp := (ho.ok h0).2
    have hcc := (ho.ok h0).1
    obtain ⟨c0, c1, c2, c3, c4, c5, cf⟩ := hR.cells
    have f2 := cf 2
    have hl0 := hR.big
    obtain ⟨at1, hat⟩ : ∃ a, a + 1 = s.size - st.rest.length := ⟨s.size - st.rest.length - 1, by omega⟩
    have hab : at1 ≤ 65536 := by omega
    rw [← hat] at c1
    have hn : RdAt (w.setCell ⟨p, 2, none⟩ (.int .i64 ((st.deep + 1 : Nat) : Int))) p s ⟨st.rest, st.deep + 1, st.cnt, st.err, st.wh⟩ := ⟨hR.blk.rd2 _, hR.suf, hR.len, hR.big⟩
    obtain ⟨D, hD⟩ : ∃ D, D = st.deep := ⟨_, rfl⟩
    rw [← hD] at hn c2 hdp
    obtain ⟨w1, hw1⟩ : ∃ w1, w1 = w.setCell ⟨p, 2, none⟩ (.int .i64 ((D + 1 : Nat) : Int)) := ⟨_, rfl⟩
    have ew : (w.setCell ⟨p, 2, none⟩ (.int .i64 ((D : Int) + 1))) = w1 := hw1.symm
    have HA1 := hide (show Aside p w w1 by rw [hw1]; exact Aside.set _ _ _)
    rw [← hw1] at hn
    have d1 := hn.cells.2.1
    have d2 := hn.cells.2.2.1
    simp only [] at d1 d2
    rw [← hat] at d1
    obtain ⟨s0, hs0⟩ : ∃ s0, s0 = st.deeper s.size := ⟨_, rfl⟩
    rw [← hs0] at hP
    have HS0 := hide hs0
    have HAT := hide hat
    have HN := hide hn
    have HDD := hide hD
    have HR := hide hR
    have HT := hide hT
    have HM := hide hm
    have HO0 : Hid (Ok s0 ∧ s0.cnt = st.cnt ∧ s0.deep = D + 1) := by
      show _ ∧ _
      rw [hs0, hD]
      unfold St.deeper
      split
      · exact ⟨⟨by show st.deep + 1 ≤ 61; omega, fun e => absurd e (fail_err 4 _ _ (by omega)), fun _ => rfl, by show st.cnt ≤ _; omega⟩, rfl, rfl⟩
      · exact ⟨⟨by show st.deep + 1 ≤ 61; omega, fun e => ⟨by show st.cnt + st.rest.length ≤ _; omega, by show st.deep + 1 ≤ 60; omega⟩, fun e => absurd h0 e, by show st.cnt ≤ _; omega⟩, rfl, rfl⟩
    clear hs0 hat hn hw1 cf hR hT hm ho h0 hlt hD c4
    unfold PT
    go_enter Tryz.func133, Tryz.ntmps133
    by_cases hd60 : 60 < D + 1
    · have hdd : decide ((60 : Int) < (D : Int) + 1) = true := by simp; omega
      have hfl := fail_any p 4 at1 s ⟨st.rest, D + 1, st.cnt, st.err, st.wh⟩ w1 HN.out
      have HE : Hid (s0 = St.fail 4 at1 ⟨st.rest, D + 1, st.cnt, st.err, st.wh⟩) := by
        show _ = _
        rw [HS0.out]
        unfold St.deeper
        rw [← HDD.out, if_pos hd60]
        congr 1
        unfold St.pos
        have := HAT.out
        omega
      rw [← HE.out] at hfl
      have HF := hide hfl
      clear hfl hd60
      unfold PT at HF
      go_wp2_with fail
      refine HF.out.mono ?_
      rintro e w2 ⟨rfl, hR2, hA2⟩
      have HR2 := hide hR2
      have HA2 := hide (HA1.out.trans hA2)
      clear hR2 hA2 HF HE d1 d2 ew c0 c1 c2 c3 c5
      have HEM := hide (empty_re w2 (FL.none _))
      go_wp2_with fail
      refine HEM.out.mono ?_
      rintro e w3 ⟨b0, rfl, hrb, hb3⟩
      have HON : Hid (OnW w p s s0 b0 rEmpty w3) := ⟨HR2.out.keep hb3, hrb, HA2.out.trans (Aside.of_below hb3)⟩
      clear hrb hb3 HEM HR2 HA2
      obtain ⟨z, hz⟩ : ∃ z, z = s0.signB 41 := ⟨_, rfl⟩
      have hsg := sign_any p 41 s s0 w3 HON.out.rd
      rw [← hz] at hsg hP
      have HSG := hide hsg
      have hq := sign_eq 41 s0
      have HDE : Hid ((s0.sign 41).deep = D + 1) := hq.1.trans HO0.out.2.2
      have HCN : Hid ((s0.sign 41).cnt ≤ 65536) := by show _ ≤ _; rw [hq.2.1, HO0.out.2.1]; exact hcn
      clear hz hsg hq
      unfold PT at HSG ⊢
      go_wp2_with fail
      refine HSG.out.mono ?_
      rintro e w4 ⟨rfl, hR4, hA4⟩
      have HO4 := hide (HON.out.read hR4 hA4)
      clear hR4 hA4 HSG HON
      cases z with
      | true =>
        rw [if_pos rfl] at hP
        injection hP with hP
        injection hP with e1 e2
        have HE1 := hide e1
        have HE2 := hide e2
        have g2 := HO4.out.rd.cells.2.2.1
        rw [HDE.out] at g2
        have gf := HO4.out.rd.cells.2.2.2.2.2.2 2
        have HUP := hide (HO4.out.up D (by have := HDE.out; omega))
        clear e1 e2 HO4
        go_wp2
        go_ret
        refine ⟨b0, rfl, ?_, ?_, HUP.out.aside⟩
        · rw [← HE1.out]; exact HUP.out.re
        · rw [← HE2.out]; exact HUP.out.rd
      | false =>
        rw [if_neg (by simp)] at hP
        obtain ⟨⟨q, s1⟩, h1, h2⟩ := Option.map_eq_some_iff.1 hP
        simp only [Prod.mk.injEq] at h2
        have hT4 := HT.out.aside HR.out HO4.out.aside
        have hok4 := HO0.out.1.sign 41
        have hc := HM.out g (by omega) p s _ q s1 w4 HO4.out.rd hok4 ⟨rfl, HCN.out⟩ hT4 h1
        have hi := P_inv s.size g .or _ _ q s1 h1 hok4 ⟨rfl, HCN.out⟩
        have HC := hide hc
        have HI := hide hi
        have HD1 : Hid (s1.deep = D + 1) := hi.to.deep.trans HDE.out
        have HE1 := hide h2.1
        have HE2 := hide h2.2
        clear hP h1 h2 hT4 hok4 hc hi
        unfold PT at HC
        go_wp2_with fail
        refine HC.out.mono ?_
        rintro e w5 ⟨b1, rfl, hrb, hR5, hA5⟩
        have HO5 : Hid (OnW w p s s1 b1 q w5) := ⟨hR5, hrb, HO4.out.aside.trans hA5⟩
        clear hrb hR5 hA5 HC HO4
        obtain ⟨z2, hz2⟩ : ∃ z2, z2 = s1.signB 41 := ⟨_, rfl⟩
        have hsg := sign_any p 41 s s1 w5 HO5.out.rd
        rw [← hz2] at hsg HE2
        have HSG := hide hsg
        have HD2 : Hid ((s1.sign 41).deep = D + 1) := (sign_eq 41 s1).1.trans HD1.out
        clear hz2 hsg
        unfold PT at HSG
        go_wp2_with fail
        refine HSG.out.mono ?_
        rintro e w6 ⟨rfl, hR6, hA6⟩
        have HO6 := hide (HO5.out.read hR6 hA6)
        clear hR6 hA6 HSG HO5
        cases z2 with
        | true =>
          rw [if_pos rfl] at HE2
          have g2 := HO6.out.rd.cells.2.2.1
          rw [HD2.out] at g2
          have gf := HO6.out.rd.cells.2.2.2.2.2.2 2
          have HUP := hide (HO6.out.up D (by have := HD2.out; omega))
          clear HO6
          go_wp2
          go_ret
          refine ⟨b1, rfl, ?_, ?_, HUP.out.aside⟩
          · rw [← HE1.out]; exact HUP.out.re
          · rw [← HE2.out]; exact HUP.out.rd
        | false =>
          rw [if_neg (by simp)] at HE2
          obtain ⟨at2, hat2⟩ : ∃ a, a = (s1.sign 41).pos s.size := ⟨_, rfl⟩
          have g1 := HO6.out.rd.cells.2.1
          have ea : s.size - (s1.sign 41).rest.length = at2 := hat2.symm
          rw [ea] at g1
          rw [← hat2] at HE2
          have HF := hide (fail_any p 2 at2 s _ w6 HO6.out.rd)
          clear hat2 ea
          unfold PT at HF
          go_wp2_with fail
          refine HF.out.mono ?_
          rintro e w7 ⟨rfl, hR7, hA7⟩
          have HO7 := hide (HO6.out.read hR7 hA7)
          have g2 := hR7.cells.2.2.1
          have gf := hR7.cells.2.2.2.2.2.2 2
          have hd7 : (St.fail 2 at2 (s1.sign 41)).deep = D + 1 := HD2.out
          rw [hd7] at g2
          have HUP := hide (HO7.out.up D (by omega))
          clear hR7 hA7 HF HO6 g1 HO7 hd7
          go_wp2
          go_ret
          refine ⟨b1, rfl, ?_, ?_, HUP.out.aside⟩
          · rw [← HE1.out]; exact HUP.out.re
          · rw [← HE2.out]; exact HUP.out.rd
    · have hdd : decide ((60 : Int) < (D : Int) + 1) = false := by simp; omega
      have HE : Hid (s0 = ⟨st.rest, D + 1, st.cnt, st.err, st.wh⟩) := by
        show _ = _
        rw [HS0.out]
        unfold St.deeper
        rw [← HDD.out, if_neg hd60]
      have HR2 : Hid (RdAt w1 p s s0) := by rw [HE.out]; exact HN.out
      have HA2 := HA1
      clear hd60 HE
      obtain ⟨w2, hw2⟩ : ∃ w2, w2 = w1 := ⟨_, rfl⟩
      rw [← hw2] at HR2 HA2 ew d2 HN
      clear c0 c1 c3 c5
      have HEM := hide (empty_re w2 (FL.none _))
      subst hw2
      go_wp2_with fail
      refine HEM.out.mono ?_
      rintro e w3 ⟨b0, rfl, hrb, hb3⟩
      have HON : Hid (OnW w p s s0 b0 rEmpty w3) := ⟨HR2.out.keep hb3, hrb, HA2.out.trans (Aside.of_below hb3)⟩
      clear hrb hb3 HEM HR2 HA2
      obtain ⟨z, hz⟩ : ∃ z, z = s0.signB 41 := ⟨_, rfl⟩
      have hsg := sign_any p 41 s s0 w3 HON.out.rd
      rw [← hz] at hsg hP
      have HSG := hide hsg
      have hq := sign_eq 41 s0
      have HDE : Hid ((s0.sign 41).deep = D + 1) := hq.1.trans HO0.out.2.2
      have HCN : Hid ((s0.sign 41).cnt ≤ 65536) := by show _ ≤ _; rw [hq.2.1, HO0.out.2.1]; exact hcn
      clear hz hsg hq
      unfold PT at HSG ⊢
      go_wp2_with fail
      refine HSG.out.mono ?_
      rintro e w4 ⟨rfl, hR4, hA4⟩
      have HO4 := hide (HON.out.read hR4 hA4)
      clear hR4 hA4 HSG HON
      cases z with
      | true =>
        rw [if_pos rfl] at hP
        injection hP with hP
        injection hP with e1 e2
        have HE1 := hide e1
        have HE2 := hide e2
        have g2 := HO4.out.rd.cells.2.2.1
        rw [HDE.out] at g2
        have gf := HO4.out.rd.cells.2.2.2.2.2.2 2
        have HUP := hide (HO4.out.up D (by have := HDE.out; omega))
        clear e1 e2 HO4
        go_wp2
        go_ret
        refine ⟨b0, rfl, ?_, ?_, HUP.out.aside⟩
        · rw [← HE1.out]; exact HUP.out.re
        · rw [← HE2.out]; exact HUP.out.rd
      | false =>
        rw [if_neg (by simp)] at hP
        obtain ⟨⟨q, s1⟩, h1, h2⟩ := Option.map_eq_some_iff.1 hP
        simp only [Prod.mk.injEq] at h2
        have hT4 := HT.out.aside HR.out HO4.out.aside
        have hok4 := HO0.out.1.sign 41
        have hc := HM.out g (by omega) p s _ q s1 w4 HO4.out.rd hok4 ⟨rfl, HCN.out⟩ hT4 h1
        have hi := P_inv s.size g .or _ _ q s1 h1 hok4 ⟨rfl, HCN.out⟩
        have HC := hide hc
        have HI := hide hi
        have HD1 : Hid (s1.deep = D + 1) := hi.to.deep.trans HDE.out
        have HE1 := hide h2.1
        have HE2 := hide h2.2
        clear hP h1 h2 hT4 hok4 hc hi
        unfold PT at HC
        go_wp2_with fail
        refine HC.out.mono ?_
        rintro e w5 ⟨b1, rfl, hrb, hR5, hA5⟩
        have HO5 : Hid (OnW w p s s1 b1 q w5) := ⟨hR5, hrb, HO4.out.aside.trans hA5⟩
        clear hrb hR5 hA5 HC HO4
        obtain ⟨z2, hz2⟩ : ∃ z2, z2 = s1.signB 41 := ⟨_, rfl⟩
        have hsg := sign_any p 41 s s1 w5 HO5.out.rd
        rw [← hz2] at hsg HE2
        have HSG := hide hsg
        have HD2 : Hid ((s1.sign 41).deep = D + 1) := (sign_eq 41 s1).1.trans HD1.out
        clear hz2 hsg
        unfold PT at HSG
        go_wp2_with fail
        refine HSG.out.mono ?_
        rintro e w6 ⟨rfl, hR6, hA6⟩
        have HO6 := hide (HO5.out.read hR6 hA6)
        clear hR6 hA6 HSG HO5
        cases z2 with
        | true =>
          rw [if_pos rfl] at HE2
          have g2 := HO6.out.rd.cells.2.2.1
          rw [HD2.out] at g2
          have gf := HO6.out.rd.cells.2.2.2.2.2.2 2
          have HUP := hide (HO6.out.up D (by have := HD2.out; omega))
          clear HO6
          go_wp2
          go_ret
          refine ⟨b1, rfl, ?_, ?_, HUP.out.aside⟩
          · rw [← HE1.out]; exact HUP.out.re
          · rw [← HE2.out]; exact HUP.out.rd
        | false =>
          rw [if_neg (by simp)] at HE2
          obtain ⟨at2, hat2⟩ : ∃ a, a = (s1.sign 41).pos s.size := ⟨_, rfl⟩
          have g1 := HO6.out.rd.cells.2.1
          have ea : s.size - (s1.sign 41).rest.length = at2 := hat2.symm
          rw [ea] at g1
          rw [← hat2] at HE2
          have HF := hide (fail_any p 2 at2 s _ w6 HO6.out.rd)
          clear hat2 ea
          unfold PT at HF
          go_wp2_with fail
          refine HF.out.mono ?_
          rintro e w7 ⟨rfl, hR7, hA7⟩
          have HO7 := hide (HO6.out.read hR7 hA7)
          have g2 := hR7.cells.2.2.1
          have gf := hR7.cells.2.2.2.2.2.2 2
          have hd7 : (St.fail 2 at2 (s1.sign 41)).deep = D + 1 := HD2.out
          rw [hd7] at g2
          have HUP := hide (HO7.out.up D (by omega))
          clear hR7 hA7 HF HO6 g1 HO7 hd7
          go_wp2
          go_ret
          refine ⟨b1, rfl, ?_, ?_, HUP.out.aside⟩
          · rw [← HE1.out]; exact HUP.out.re
          · rw [← HE2.out]; exact HUP.out.rd
end Go.Proofs.YtjlgepahgmkamaaGreatDoor
/- The reader: atom, post. -/
namespace Go.Proofs.YtjlgepahgmkamaaGreatDoor
set_option maxRecDepth 100000
set_option linter.unusedSimpArgs false
set_option linter.unusedVariables false
open Go.RowKit

/-- The reader, in a later world. -/
structure AtW (w : World) (p : Nat) (s : ByteArray) (st : St) (W : World) : Prop where
  rd : RdAt W p s st
  aside : Aside p w W
theorem AtW.step {w W W' : World} {p : Nat} {s : ByteArray} {st : St} (h : AtW w p s st W) (hb : Below W.heap.size W W') : AtW w p s st W' := ⟨h.rd.keep hb, h.aside.trans (Aside.of_below hb)⟩

theorem St_clas (n f : Nat) (st : St) (q : BitVec 256) (st' : St) (h : St.clas n f st = some (q, st')) (ho : Ok st) : st'.cnt = st.cnt := (clas_eq n f st q st' h ho.bad).2.1
theorem ofRowV {w : World} {c : Nat} {g : Nat} (hg : Blk w g #[.int .u8 c] 5) : ∀ k, k < [c].length → ∃ b off, (some ⟨g, 0, none⟩ : Option Addr) = some ⟨b, off, none⟩ ∧ b < w.heap.size ∧ w.cell? ⟨b, off + k, none⟩ = some (.int .u8 ([c].getD k 0)) := fun k hk => by
  obtain rfl : k = 0 := by simpa using hk
  exact ⟨g, 0, rfl, hg.lt, hg.cell 0⟩
set_option maxHeartbeats 2000000 in
theorem atom_step (F : Nat) (hm : RdG F) : RdC 131 .atom (F + 1) := by
  intro f hf p s st r st' w hR ho hp hT hP
  cases f with
  | zero => simp [St.P] at hP
  | succ g =>
    simp only [St.P] at hP
    have HW0 : Hid (AtW w p s st w) := ⟨hR, Aside.refl _ _⟩
    have HT := hide hT
    have HR := hide hR
    have HM := hide hm
    have HO := hide ho
    have hcn : st.cnt ≤ 65536 := hp.2
    clear hR hT hm ho hp
    unfold PT
    go_enter Tryz.func131, Tryz.ntmps131
    obtain ⟨z1, hz1⟩ : ∃ z1, z1 = (st).signB 40 := ⟨_, rfl⟩
    have hsg := sign_any p 40 s (st) w HW0.out.rd
    rw [← hz1] at hsg hP
    have HSG := hide hsg
    have Hz1 := hide hz1
    clear hsg hz1
    unfold PT at HSG
    go_wp2_with fail
    refine HSG.out.mono ?_
    rintro e w1 ⟨rfl, hR, hA⟩
    have HW1 : Hid (AtW w p s ((st).sign 40) w1) := ⟨hR, HW0.out.aside.trans hA⟩
    clear hR hA HSG
    cases z1 with
    | true =>
      rw [if_pos rfl] at hP
      obtain ⟨⟨q, s1⟩, h1, h2⟩ := Option.map_eq_some_iff.1 hP
      simp only [Prod.mk.injEq] at h2
      have h0 := HO.out.sign0 Hz1.out.symm
      have hq := sign_eq 40 st
      have hlen := sign_true Hz1.out.symm
      have hok := HO.out.sign 40
      have hpre : Pre (st.sign 40).cnt (st.sign 40) .group := ⟨rfl, by omega, hq.2.2.1.trans h0⟩
      have hlt : (st.sign 40).rest.length < s.size := by have := HR.out.len; omega
      have hc := HM.out g (by omega) p s _ q s1 w1 HW1.out.rd hok hpre (HT.out.aside HR.out HW1.out.aside) hlt h1
      have hi := P_inv s.size g .group _ _ q s1 h1 hok hpre
      have HCC : Hid (s1.cnt ≤ 1000000) := by show _ ≤ _; have := hi.ok.cnt; omega
      have HC := hide hc
      have HE1 := hide h2.1
      have HE2 := hide h2.2
      clear hP h1 h2 h0 hq hlen hok hpre hlt hc hi
      unfold PT at HC
      go_wp2_with fail
      refine HC.out.mono ?_
      rintro e w2 ⟨b, rfl, hrb, hR2, hA2⟩
      have HW : Hid (OnW w p s s1 b q w2) := ⟨hR2, hrb, HW1.out.aside.trans hA2⟩
      clear hrb hR2 hA2 HC
      have HCT := hide (counted_any p s (s1) w2 HW.out.rd HCC.out)
      unfold PT at HCT
      go_wp2_with fail
      refine HCT.out.mono ?_
      rintro e wz ⟨rfl, hR, hA⟩
      have HZ := hide (HW.out.read hR hA)
      clear hR hA HCT HW
      go_wp2
      go_ret
      refine ⟨b, rfl, ?_, ?_, HZ.out.aside⟩
      · rw [← HE1.out]; exact HZ.out.re
      · rw [← HE2.out]; exact HZ.out.rd
    | false =>
      rw [if_neg (by simp)] at hP
      obtain ⟨z2, hz2⟩ : ∃ z2, z2 = (st.sign 40).signB 91 := ⟨_, rfl⟩
      have hsg := sign_any p 91 s (st.sign 40) w1 HW1.out.rd
      rw [← hz2] at hsg hP
      have HSG := hide hsg
      have Hz2 := hide hz2
      clear hsg hz2
      unfold PT at HSG
      go_wp2_with fail
      refine HSG.out.mono ?_
      rintro e w2 ⟨rfl, hR, hA⟩
      have HW2 : Hid (AtW w p s ((st.sign 40).sign 91) w2) := ⟨hR, HW1.out.aside.trans hA⟩
      clear hR hA HSG
      cases z2 with
      | true =>
        rw [if_pos rfl] at hP
        obtain ⟨⟨q, s1⟩, h1, h2⟩ := Option.map_eq_some_iff.1 hP
        simp only [Prod.mk.injEq] at h2
        have hok := (HO.out.sign 40).sign 91
        have hce := St_clas s.size g _ q s1 h1 hok
        have HC := hide (class_any g p s _ s1 q w2 HW2.out.rd h1)
        have HCC : Hid (s1.cnt ≤ 1000000) := by show _ ≤ _; have := hok.cnt; omega
        have HE1 := hide h2.1
        have HE2 := hide h2.2
        clear hP h1 h2 hok hce
        unfold PT SV at HC
        go_wp2_with fail
        refine HC.out.mono ?_
        rintro e w3 ⟨rfl, hR3, hA3⟩
        have HW3 : Hid (AtW w p s s1 w3) := ⟨hR3, HW2.out.aside.trans hA3⟩
        clear hR3 hA3 HC
        have HON := hide (one_any q w3 (FL.none _))
        unfold SV at HON
        go_wp2_with fail
        refine HON.out.mono ?_
        rintro e w4 ⟨b, rfl, hrb, hb4⟩
        have HW : Hid (OnW w p s s1 b (rOne q) w4) := ⟨HW3.out.rd.keep hb4, hrb, HW3.out.aside.trans (Aside.of_below hb4)⟩
        clear hrb hb4 HON
        unfold PT
        have HCT := hide (counted_any p s (s1) w4 HW.out.rd HCC.out)
        unfold PT at HCT
        go_wp2_with fail
        refine HCT.out.mono ?_
        rintro e wz ⟨rfl, hR, hA⟩
        have HZ := hide (HW.out.read hR hA)
        clear hR hA HCT HW
        go_wp2
        go_ret
        refine ⟨b, rfl, ?_, ?_, HZ.out.aside⟩
        · rw [← HE1.out]; exact HZ.out.re
        · rw [← HE2.out]; exact HZ.out.rd
      | false =>
        rw [if_neg (by simp)] at hP
        obtain ⟨z3, hz3⟩ : ∃ z3, z3 = ((st.sign 40).sign 91).signB 46 := ⟨_, rfl⟩
        have hsg := sign_any p 46 s ((st.sign 40).sign 91) w2 HW2.out.rd
        rw [← hz3] at hsg hP
        have HSG := hide hsg
        have Hz3 := hide hz3
        clear hsg hz3
        unfold PT at HSG
        go_wp2_with fail
        refine HSG.out.mono ?_
        rintro e w3 ⟨rfl, hR, hA⟩
        have HW3 : Hid (AtW w p s (((st.sign 40).sign 91).sign 46) w3) := ⟨hR, HW2.out.aside.trans hA⟩
        clear hR hA HSG
        have hok := ((HO.out.sign 40).sign 91).sign 46
        cases z3 with
        | true =>
          rw [if_pos rfl] at hP
          injection hP with hP
          injection hP with e1 e2
          have HCC : Hid ((((st.sign 40).sign 91).sign 46).cnt ≤ 1000000) := by show _ ≤ _; have := hok.cnt; omega
          have HE1 := hide e1
          have HE2 := hide e2
          clear e1 e2 hok
          have HAL := hide (all_any w3)
          unfold SV at HAL
          go_wp2_with fail
          refine HAL.out.mono ?_
          rintro e w4 ⟨rfl, hb4⟩
          have HW4 := hide (HW3.out.step hb4)
          clear hb4 HAL
          have HON := hide (one_any allB w4 (FL.none _))
          unfold SV at HON
          go_wp2_with fail
          refine HON.out.mono ?_
          rintro e w5 ⟨b, rfl, hrb, hb5⟩
          have HW : Hid (OnW w p s (((st.sign 40).sign 91).sign 46) b (rOne allB) w5) := ⟨HW4.out.rd.keep hb5, hrb, HW4.out.aside.trans (Aside.of_below hb5)⟩
          clear hrb hb5 HON
          unfold PT
          have HCT := hide (counted_any p s (((st.sign 40).sign 91).sign 46) w5 HW.out.rd HCC.out)
          unfold PT at HCT
          go_wp2_with fail
          refine HCT.out.mono ?_
          rintro e wz ⟨rfl, hR, hA⟩
          have HZ := hide (HW.out.read hR hA)
          clear hR hA HCT HW
          go_wp2
          go_ret
          refine ⟨b, rfl, ?_, ?_, HZ.out.aside⟩
          · rw [← HE1.out]; exact HZ.out.re
          · rw [← HE2.out]; exact HZ.out.rd
        | false =>
          rw [if_neg (by simp)] at hP
          injection hP with hP
          injection hP with e1 e2
          have hbe := byte_eq s.size (((st.sign 40).sign 91).sign 46)
          have HCC : Hid (((((st.sign 40).sign 91).sign 46).byte s.size).cnt ≤ 1000000) := by show _ ≤ _; have := hok.cnt; rw [hbe.2.1]; omega
          have HE1 := hide e1
          have HE2 := hide e2
          clear e1 e2 hok hbe
          have hby := byte_any p s _ w3 HW3.out.rd
          have hv256 := HW3.out.rd.byte256
          obtain ⟨v, hv⟩ : ∃ v, v = (((st.sign 40).sign 91).sign 46).byteV := ⟨_, rfl⟩
          rw [← hv] at hby hv256 HE1
          have HBY := hide hby
          clear hby hv
          unfold PT at HBY
          go_wp2_with fail
          refine HBY.out.mono ?_
          rintro e w4 ⟨rfl, hR4, hA4⟩
          have HW4 : Hid (AtW w p s ((((st.sign 40).sign 91).sign 46).byte s.size) w4) := ⟨hR4, HW3.out.aside.trans hA4⟩
          clear hR4 hA4 HBY
          have hb5 := (Below.refl w4.heap.size w4).alloc (Nat.le_refl _) (.cells #[.int .u8 v] 5)
          have HW5 := hide (HW4.out.step hb5)
          have HOF := hide (of_any [v] (fun x hx => by rw [List.mem_singleton] at hx; subst hx; exact hv256) (w4.alloc (.cells #[.int .u8 v] 5)) (some ⟨w4.heap.size, 0, none⟩) 1 (ofRowV (Blk.newAt rfl _ _)) (by simp))
          clear hb5
          simp only [List.length_singleton] at HOF
          unfold SV at HOF
          go_wp2_with fail
          refine HOF.out.mono ?_
          rintro e w6 ⟨rfl, hb6⟩
          have HW6 := hide (HW5.out.step hb6)
          clear hb6 HOF
          have HON := hide (one_any (setOf [v]) w6 (FL.none _))
          unfold SV at HON
          go_wp2_with fail
          refine HON.out.mono ?_
          rintro e w7 ⟨b, rfl, hrb, hb7⟩
          have HW : Hid (OnW w p s ((((st.sign 40).sign 91).sign 46).byte s.size) b (rOne (setOf [v])) w7) := ⟨HW6.out.rd.keep hb7, hrb, HW6.out.aside.trans (Aside.of_below hb7)⟩
          clear hrb hb7 HON
          unfold PT
          have HCT := hide (counted_any p s ((((st.sign 40).sign 91).sign 46).byte s.size) w7 HW.out.rd HCC.out)
          unfold PT at HCT
          go_wp2_with fail
          refine HCT.out.mono ?_
          rintro e wz ⟨rfl, hR, hA⟩
          have HZ := hide (HW.out.read hR hA)
          clear hR hA HCT HW
          go_wp2
          go_ret
          refine ⟨b, rfl, ?_, ?_, HZ.out.aside⟩
          · rw [← HE1.out]; exact HZ.out.re
          · rw [← HE2.out]; exact HZ.out.rd
end Go.Proofs.YtjlgepahgmkamaaGreatDoor
