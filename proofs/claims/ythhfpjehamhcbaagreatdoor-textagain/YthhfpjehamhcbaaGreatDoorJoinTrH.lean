/- Texts of this claim put together: TrG, TrH. -/
import Derived.Test.YthhfpjehamhcbaaGreatDoorJoinTrF
/- The reader: atom, post. -/
namespace Go.Proofs.YthhfpjehamhcbaaGreatDoor
set_option maxRecDepth 100000
set_option linter.unusedSimpArgs false
set_option linter.unusedVariables false
open Go.RowKit

/-- The reader, in a later world. -/
structure AtW (w : World) (p : Nat) (s : ByteArray) (st : St) (W : World) : Prop where
  rd : RdAt W p s st
  aside : Aside p w W
theorem AtW.step {w W W' : World} {p : Nat} {s : ByteArray} {st : St} (h : AtW w p s st W) (hb : Below W.heap.size W W') : AtW w p s st W' := ⟨h.rd.keep hb, h.aside.trans (Aside.of_below hb)⟩

theorem St_clas (n f : Nat) (st : St) (q : BitVec 256) (st' : St) (h : St.clas n f st = some (q, st')) (ho : Ok st) : st'.cnt = st.cnt := (clas_eq n f st q st' h ho.bad).2.1
theorem ofRowV {w : World} {c : Nat} {g : Nat} (hg : Blk w g #[.int .u8 c] 5) : ∀ k, k < [c].length → ∃ b off, (some ⟨g, 0, none⟩ : Option Addr) = some ⟨b, off, none⟩ ∧ b < w.heap.size ∧ w.cell? ⟨b, off + k, none⟩ = some (.int .u8 ([c].getD k 0)) := fun k hk => by
  obtain rfl : k = 0 := by simpa using hk
  exact ⟨g, 0, rfl, hg.lt, hg.cell 0⟩
set_option maxHeartbeats 2000000 in
theorem atom_step (F : Nat) (hm : RdG F) : RdC 151 .atom (F + 1) := by
  intro f hf p s st r st' w hR ho hp hT hP
  cases f with
  | zero => simp [St.P] at hP
  | succ g =>
    simp only [St.P] at hP
    have HW0 : Hid (AtW w p s st w) := ⟨hR, Aside.refl _ _⟩
    have HT := hide hT
    have HR := hide hR
    have HM := hide hm
    have HO := hide ho
    have hcn : st.cnt ≤ 65536 := hp.2
    clear hR hT hm ho hp
    unfold PT
    go_enter Tryz.func151, Tryz.ntmps151
    obtain ⟨z1, hz1⟩ : ∃ z1, z1 = (st).signB 40 := ⟨_, rfl⟩
    have hsg := sign_any p 40 s (st) w HW0.out.rd
    rw [← hz1] at hsg hP
    have HSG := hide hsg
    have Hz1 := hide hz1
    clear hsg hz1
    unfold PT at HSG
    go_wp2_with fail
    refine HSG.out.mono ?_
    rintro e w1 ⟨rfl, hR, hA⟩
    have HW1 : Hid (AtW w p s ((st).sign 40) w1) := ⟨hR, HW0.out.aside.trans hA⟩
    clear hR hA HSG
    cases z1 with
    | true =>
      rw [if_pos rfl] at hP
      obtain ⟨⟨q, s1⟩, h1, h2⟩ := Option.map_eq_some_iff.1 hP
      simp only [Prod.mk.injEq] at h2
      have h0 := HO.out.sign0 Hz1.out.symm
      have hq := sign_eq 40 st
      have hlen := sign_true Hz1.out.symm
      have hok := HO.out.sign 40
      have hpre : Pre (st.sign 40).cnt (st.sign 40) .group := ⟨rfl, by omega, hq.2.2.1.trans h0⟩
      have hlt : (st.sign 40).rest.length < s.size := by have := HR.out.len; omega
      have hc := HM.out g (by omega) p s _ q s1 w1 HW1.out.rd hok hpre (HT.out.aside HR.out HW1.out.aside) hlt h1
      have hi := P_inv s.size g .group _ _ q s1 h1 hok hpre
      have HCC : Hid (s1.cnt ≤ 1000000) := by show _ ≤ _; have := hi.ok.cnt; omega
      have HC := hide hc
      have HE1 := hide h2.1
      have HE2 := hide h2.2
      clear hP h1 h2 h0 hq hlen hok hpre hlt hc hi
      unfold PT at HC
      go_wp2_with fail
      refine HC.out.mono ?_
      rintro e w2 ⟨b, rfl, hrb, hR2, hA2⟩
      have HW : Hid (OnW w p s s1 b q w2) := ⟨hR2, hrb, HW1.out.aside.trans hA2⟩
      clear hrb hR2 hA2 HC
      have HCT := hide (counted_any p s (s1) w2 HW.out.rd HCC.out)
      unfold PT at HCT
      go_wp2_with fail
      refine HCT.out.mono ?_
      rintro e wz ⟨rfl, hR, hA⟩
      have HZ := hide (HW.out.read hR hA)
      clear hR hA HCT HW
      go_wp2
      go_ret
      refine ⟨b, rfl, ?_, ?_, HZ.out.aside⟩
      · rw [← HE1.out]; exact HZ.out.re
      · rw [← HE2.out]; exact HZ.out.rd
    | false =>
      rw [if_neg (by simp)] at hP
      obtain ⟨z2, hz2⟩ : ∃ z2, z2 = (st.sign 40).signB 91 := ⟨_, rfl⟩
      have hsg := sign_any p 91 s (st.sign 40) w1 HW1.out.rd
      rw [← hz2] at hsg hP
      have HSG := hide hsg
      have Hz2 := hide hz2
      clear hsg hz2
      unfold PT at HSG
      go_wp2_with fail
      refine HSG.out.mono ?_
      rintro e w2 ⟨rfl, hR, hA⟩
      have HW2 : Hid (AtW w p s ((st.sign 40).sign 91) w2) := ⟨hR, HW1.out.aside.trans hA⟩
      clear hR hA HSG
      cases z2 with
      | true =>
        rw [if_pos rfl] at hP
        obtain ⟨⟨q, s1⟩, h1, h2⟩ := Option.map_eq_some_iff.1 hP
        simp only [Prod.mk.injEq] at h2
        have hok := (HO.out.sign 40).sign 91
        have hce := St_clas s.size g _ q s1 h1 hok
        have HC := hide (class_any g p s _ s1 q w2 HW2.out.rd h1)
        have HCC : Hid (s1.cnt ≤ 1000000) := by show _ ≤ _; have := hok.cnt; omega
        have HE1 := hide h2.1
        have HE2 := hide h2.2
        clear hP h1 h2 hok hce
        unfold PT SV at HC
        go_wp2_with fail
        refine HC.out.mono ?_
        rintro e w3 ⟨rfl, hR3, hA3⟩
        have HW3 : Hid (AtW w p s s1 w3) := ⟨hR3, HW2.out.aside.trans hA3⟩
        clear hR3 hA3 HC
        have HON := hide (one_any q w3)
        unfold SV at HON
        go_wp2_with fail
        refine HON.out.mono ?_
        rintro e w4 ⟨b, rfl, hrb, hb4⟩
        have HW : Hid (OnW w p s s1 b (rOne q) w4) := ⟨HW3.out.rd.keep hb4, hrb, HW3.out.aside.trans (Aside.of_below hb4)⟩
        clear hrb hb4 HON
        unfold PT
        have HCT := hide (counted_any p s (s1) w4 HW.out.rd HCC.out)
        unfold PT at HCT
        go_wp2_with fail
        refine HCT.out.mono ?_
        rintro e wz ⟨rfl, hR, hA⟩
        have HZ := hide (HW.out.read hR hA)
        clear hR hA HCT HW
        go_wp2
        go_ret
        refine ⟨b, rfl, ?_, ?_, HZ.out.aside⟩
        · rw [← HE1.out]; exact HZ.out.re
        · rw [← HE2.out]; exact HZ.out.rd
      | false =>
        rw [if_neg (by simp)] at hP
        obtain ⟨z3, hz3⟩ : ∃ z3, z3 = ((st.sign 40).sign 91).signB 46 := ⟨_, rfl⟩
        have hsg := sign_any p 46 s ((st.sign 40).sign 91) w2 HW2.out.rd
        rw [← hz3] at hsg hP
        have HSG := hide hsg
        have Hz3 := hide hz3
        clear hsg hz3
        unfold PT at HSG
        go_wp2_with fail
        refine HSG.out.mono ?_
        rintro e w3 ⟨rfl, hR, hA⟩
        have HW3 : Hid (AtW w p s (((st.sign 40).sign 91).sign 46) w3) := ⟨hR, HW2.out.aside.trans hA⟩
        clear hR hA HSG
        have hok := ((HO.out.sign 40).sign 91).sign 46
        cases z3 with
        | true =>
          rw [if_pos rfl] at hP
          injection hP with hP
          injection hP with e1 e2
          have HCC : Hid ((((st.sign 40).sign 91).sign 46).cnt ≤ 1000000) := by show _ ≤ _; have := hok.cnt; omega
          have HE1 := hide e1
          have HE2 := hide e2
          clear e1 e2 hok
          have HAL := hide (all_any w3)
          unfold SV at HAL
          go_wp2_with fail
          refine HAL.out.mono ?_
          rintro e w4 ⟨rfl, hb4⟩
          have HW4 := hide (HW3.out.step hb4)
          clear hb4 HAL
          have HON := hide (one_any allB w4)
          unfold SV at HON
          go_wp2_with fail
          refine HON.out.mono ?_
          rintro e w5 ⟨b, rfl, hrb, hb5⟩
          have HW : Hid (OnW w p s (((st.sign 40).sign 91).sign 46) b (rOne allB) w5) := ⟨HW4.out.rd.keep hb5, hrb, HW4.out.aside.trans (Aside.of_below hb5)⟩
          clear hrb hb5 HON
          unfold PT
          have HCT := hide (counted_any p s (((st.sign 40).sign 91).sign 46) w5 HW.out.rd HCC.out)
          unfold PT at HCT
          go_wp2_with fail
          refine HCT.out.mono ?_
          rintro e wz ⟨rfl, hR, hA⟩
          have HZ := hide (HW.out.read hR hA)
          clear hR hA HCT HW
          go_wp2
          go_ret
          refine ⟨b, rfl, ?_, ?_, HZ.out.aside⟩
          · rw [← HE1.out]; exact HZ.out.re
          · rw [← HE2.out]; exact HZ.out.rd
        | false =>
          rw [if_neg (by simp)] at hP
          injection hP with hP
          injection hP with e1 e2
          have hbe := byte_eq s.size (((st.sign 40).sign 91).sign 46)
          have HCC : Hid (((((st.sign 40).sign 91).sign 46).byte s.size).cnt ≤ 1000000) := by show _ ≤ _; have := hok.cnt; rw [hbe.2.1]; omega
          have HE1 := hide e1
          have HE2 := hide e2
          clear e1 e2 hok hbe
          have hby := byte_any p s _ w3 HW3.out.rd
          have hv256 := HW3.out.rd.byte256
          obtain ⟨v, hv⟩ : ∃ v, v = (((st.sign 40).sign 91).sign 46).byteV := ⟨_, rfl⟩
          rw [← hv] at hby hv256 HE1
          have HBY := hide hby
          clear hby hv
          unfold PT at HBY
          go_wp2_with fail
          refine HBY.out.mono ?_
          rintro e w4 ⟨rfl, hR4, hA4⟩
          have HW4 : Hid (AtW w p s ((((st.sign 40).sign 91).sign 46).byte s.size) w4) := ⟨hR4, HW3.out.aside.trans hA4⟩
          clear hR4 hA4 HBY
          have hb5 := (Below.refl w4.heap.size w4).alloc (Nat.le_refl _) (.cells #[.int .u8 v] 5)
          have HW5 := hide (HW4.out.step hb5)
          have HOF := hide (of_any [v] (fun x hx => by rw [List.mem_singleton] at hx; subst hx; exact hv256) (w4.alloc (.cells #[.int .u8 v] 5)) (some ⟨w4.heap.size, 0, none⟩) 1 (ofRowV (Blk.newAt rfl _ _)) (by simp))
          clear hb5
          simp only [List.length_singleton] at HOF
          unfold SV at HOF
          go_wp2_with fail
          refine HOF.out.mono ?_
          rintro e w6 ⟨rfl, hb6⟩
          have HW6 := hide (HW5.out.step hb6)
          clear hb6 HOF
          have HON := hide (one_any (setOf [v]) w6)
          unfold SV at HON
          go_wp2_with fail
          refine HON.out.mono ?_
          rintro e w7 ⟨b, rfl, hrb, hb7⟩
          have HW : Hid (OnW w p s ((((st.sign 40).sign 91).sign 46).byte s.size) b (rOne (setOf [v])) w7) := ⟨HW6.out.rd.keep hb7, hrb, HW6.out.aside.trans (Aside.of_below hb7)⟩
          clear hrb hb7 HON
          unfold PT
          have HCT := hide (counted_any p s ((((st.sign 40).sign 91).sign 46).byte s.size) w7 HW.out.rd HCC.out)
          unfold PT at HCT
          go_wp2_with fail
          refine HCT.out.mono ?_
          rintro e wz ⟨rfl, hR, hA⟩
          have HZ := hide (HW.out.read hR hA)
          clear hR hA HCT HW
          go_wp2
          go_ret
          refine ⟨b, rfl, ?_, ?_, HZ.out.aside⟩
          · rw [← HE1.out]; exact HZ.out.re
          · rw [← HE2.out]; exact HZ.out.rd
end Go.Proofs.YthhfpjehamhcbaaGreatDoor
/- The reader: post. -/
namespace Go.Proofs.YthhfpjehamhcbaaGreatDoor
set_option maxRecDepth 100000
set_option linter.unusedSimpArgs false
set_option linter.unusedVariables false
open Go.RowKit

theorem post_next {n c0 : Nat} {st s1 : St} {x y : RE} (ho : Ok st) (hp : Pre c0 st (.postL x)) (o1 : Ok s1) (e1 : s1.cnt = st.cnt) (e2 : s1.err = st.err) (e3 : s1.deep = st.deep) (e4 : s1.rest.length + 1 ≤ st.rest.length)
    (wy : Wf y) (hy : y.cnt ≤ 2 + 2 * x.cnt ∨ y.cnt ≤ 3 + x.cnt) : Ok (St.sized n (y, s1)) ∧ Pre c0 (St.sized n (y, s1)) (.postL y) := by
  obtain ⟨hw, hb⟩ := hp
  have h0 : st.err = 0 := ho.err0 fun e => by rw [e] at e4; simp at e4
  obtain ⟨z1, z2, z3, z4, z5⟩ := sized_eq n y s1 o1.bad
  generalize St.sized n (y, s1) = s2 at *
  have hcc := ho.ok h0
  have kb := hb.1 h0
  have kc := hb.2.2
  exact ⟨⟨by rw [z1, e3]; exact ho.deep, fun e => by rw [z1, e3]; omega, z5, by omega⟩, wy, fun e => by have := (z4 e).2; omega, fun e => by omega, by omega⟩
theorem resRowTwo {W : World} {g b1 b2 : Nat} {r1 r2 : RE} (hg : Blk W g #[PT b1, PT b2] 26) (h1 : ReAt W b1 r1) (h2 : ReAt W b2 r2) : ResRow W (.slice (some ⟨g, 0, none⟩) 2 2) [r1, r2] := by
  refine ⟨fun i => if i = 0 then b1 else b2, ⟨⟨by simp, .mk (by omega)⟩, _, _, rfl, fun k hk => ⟨g, 0, rfl, hg.lt, ?_⟩⟩, fun i k hk => ?_⟩
  · rw [hg.cell, Nat.zero_add]
    match k, hk with
    | 0, _ => rfl
    | 1, _ => rfl
  · match i, hk with
    | 0, hk => simp at hk; subst hk; exact h1
    | 1, hk => simp at hk; subst hk; exact h2

theorem ls_bounds2 {l : List RE} (h : cntL l ≤ 1300000000) : l.length ≤ 1099511627776 ∧ (catL l).length ≤ 1099511627776 ∧ (flatL 4 l).length ≤ 1099511627776 ∧ (flatL 6 l).length ≤ 1099511627776 := by
  have a0 := cntL_len l
  have a1 := cntL_len (catL l); have a2 := cntL_catL l
  have b1 := cntL_len (flatL 4 l); have b2 := cntL_flatL 4 l
  have c1 := cntL_len (flatL 6 l); have c2 := cntL_flatL 6 l
  omega
set_option maxHeartbeats 2000000 in
theorem post_step (F : Nat) (hm : RdC 151 .atom F) : RdC 146 .post (F + 1) := by
  intro f hf p s st r st' w hR ho hp hT hP
  cases f with
  | zero => simp [St.P] at hP
  | succ g =>
    simp only [St.P] at hP
    obtain ⟨⟨q, s1⟩, h1, h2⟩ := Option.bind_eq_some_iff.1 hP
    have hc := hm g (by omega) p s st q s1 w hR ho hp hT h1
    have hi := P_inv s.size g .atom st.cnt st q s1 h1 ho hp
    have HI := hide hi
    have HC := hide hc
    have H2 := hide h2
    have HT := hide hT
    have HR := hide hR
    have hgF : g < F + 1 := by omega
    clear hP h1 h2 hc hi hT hR hm ho hf hp
    unfold PT at HC ⊢
    go_enter Tryz.func146, Tryz.ntmps146
    go_wp2_with fail
    refine HC.out.mono ?_
    rintro e w1 ⟨b, rfl, hrb, hR1, hA1⟩
    have HON : Hid (OnW w p s s1 b q w1) := ⟨hR1, hrb, hA1⟩
    clear hrb hR1 hA1 HC
    go_wp2
    go_loopg [3] g (fun k v wr => ∃ b x st1, v = .pointer (some ⟨b, 0, none⟩) ∧ Hid (OnW w p s st1 b x wr ∧ Ok st1 ∧ Pre st.cnt st1 (.postL x) ∧ St.P s.size k (.postL x) st1 = some (r, st') ∧ k ≤ g))
    case atStart => exact ⟨b, q, s1, rfl, HON.out, HI.out.ok, ⟨HI.out.wf, HI.out.bd⟩, H2.out, Nat.le_refl _⟩
    case round =>
      clear HON HI H2
      obtain ⟨b1, x, st1, rfl, hon, hok, hpr, hP, hkg⟩ := hrel
      cases gk with
      | zero => simp [St.P] at hP
      | succ k =>
        simp only [St.P] at hP
        have HON := hide hon
        have HOK := hide hok
        have HPR := hide hpr
        have HQ1 := hide (sign_eq 42 st1)
        have HQ2 := hide (sign_eq 43 (st1.sign 42))
        have HQ3 := hide (sign_eq 63 ((st1.sign 42).sign 43))
        have HN1 := hide (sign_len 42 st1)
        have HN2 := hide (sign_len 43 (st1.sign 42))
        have HK1 := hide (cnt_many x)
        clear hon hok hpr
        obtain ⟨z1, hz1⟩ : ∃ z1, z1 = (st1).signB 42 := ⟨_, rfl⟩
        have hsg := sign_any p 42 s (st1) wr HON.out.rd
        rw [← hz1] at hsg hP
        have HSG := hide hsg
        have Hz1 := hide hz1
        clear hsg hz1
        unfold PT at HSG
        go_wp2_with fail
        refine HSG.out.mono ?_
        rintro e w2 ⟨rfl, hR, hA⟩
        have HO2 := hide (HON.out.read hR hA)
        clear hR hA HSG
        cases z1 with
        | true =>
          rw [if_pos rfl] at hP
          have HK := hide hP
          have HNX : Hid (Ok (St.sized s.size (rMany x, st1.sign 42)) ∧ Pre st.cnt (St.sized s.size (rMany x, st1.sign 42)) (.postL (rMany x))) :=
            post_next HOK.out HPR.out (HOK.out.sign 42) HQ1.out.2.1 HQ1.out.2.2.1 HQ1.out.1 (sign_true Hz1.out.symm) (wf_many HPR.out.1) (.inr (by have := HK1.out; omega))
          have HCC : Hid ((st1.sign 42).cnt ≤ 1000000) := by show _ ≤ _; have := (HOK.out.sign 42).cnt; omega
          have HMN := hide (many_any b1 x w2 HO2.out.re)
          clear hP HOK HPR
          unfold PT at HMN
          go_wp2_with fail
          refine HMN.out.mono ?_
          rintro e w3 ⟨b2, rfl, hrb, hb3⟩
          have HY := hide ((HO2.out.step hb3).new hrb)
          clear hrb hb3 HMN HO2
          obtain ⟨y, hy⟩ : ∃ y, y = rMany x := ⟨_, rfl⟩
          rw [← hy] at HY HK HNX
          have HCT := hide (counted_any p s (st1.sign 42) w3 HY.out.rd HCC.out)
          clear hy
          unfold PT at HCT
          go_wp2_with fail
          refine HCT.out.mono ?_
          rintro e w8 ⟨rfl, hR, hA⟩
          have HY8 := hide (HY.out.read hR hA)
          clear hR hA HCT HY
          have HSZ := hide (size_any b2 y w8 HY8.out.re)
          obtain ⟨sz, hsz⟩ : ∃ sz, sz = y.size := ⟨_, rfl⟩
          rw [← hsz] at HSZ
          have hszl : sz ≤ 9223372036854775807 := by rw [hsz]; exact y.size_le
          unfold PT at HSZ
          go_wp2_with fail
          refine HSZ.out.mono ?_
          rintro e w9 ⟨rfl, rfl⟩
          clear HSZ
          by_cases hbig : 1000 < sz
          · have hd1 : decide ((1000 : Int) < sz) = true := by simp; omega
            have hd2 : decide (1000 < sz) = true := by simp [hbig]
            have HE : Hid (St.sized s.size (y, st1.sign 42) = (St.counted s.size (st1.sign 42)).fail 3 ((St.counted s.size (st1.sign 42)).pos s.size)) := by
              show _ = _
              unfold St.sized
              rw [if_pos (by rw [hsz] at hbig; exact hbig)]
            obtain ⟨at2, hat2⟩ : ∃ a, a = (St.counted s.size (st1.sign 42)).pos s.size := ⟨_, rfl⟩
            have g1 := HY8.out.rd.cells.2.1
            have ea : s.size - (St.counted s.size (st1.sign 42)).rest.length = at2 := hat2.symm
            rw [ea] at g1
            rw [← hat2] at HE
            have HF := hide (fail_any p 3 at2 s _ w9 HY8.out.rd)
            clear hat2 ea hbig hsz
            unfold PT at HF
            go_wp2_with fail
            refine HF.out.mono ?_
            rintro e w10 ⟨rfl, hR, hA⟩
            have HY9 := hide (HY8.out.read hR hA)
            rw [← HE.out] at HY9
            clear hR hA HF HY8 g1
            go_wp2
            go_roundg k
            case measure => omega
            case rel => exact ⟨b2, y, _, rfl, HY9.out, HNX.out.1, HNX.out.2, HK.out, by omega⟩
          · have hd1 : decide ((1000 : Int) < sz) = false := by simp; omega
            have hd2 : decide (1000 < sz) = false := by simp; omega
            have HE : Hid (St.sized s.size (y, st1.sign 42) = St.counted s.size (st1.sign 42)) := by
              show _ = _
              unfold St.sized
              rw [if_neg (by rw [hsz] at hbig; exact hbig)]
            have HY9 := HY8
            rw [← HE.out] at HY9
            clear hbig hsz HY8
            go_wp2
            go_roundg k
            case measure => omega
            case rel => exact ⟨b2, y, _, rfl, HY9.out, HNX.out.1, HNX.out.2, HK.out, by omega⟩
        | false =>
          rw [if_neg (by simp)] at hP
          obtain ⟨z2, hz2⟩ : ∃ z2, z2 = (st1.sign 42).signB 43 := ⟨_, rfl⟩
          have hsg := sign_any p 43 s (st1.sign 42) w2 HO2.out.rd
          rw [← hz2] at hsg hP
          have HSG := hide hsg
          have Hz2 := hide hz2
          clear hsg hz2
          unfold PT at HSG
          go_wp2_with fail
          refine HSG.out.mono ?_
          rintro e w3 ⟨rfl, hR, hA⟩
          have HO3 := hide (HO2.out.read hR hA)
          clear hR hA HSG
          cases z2 with
          | true =>
            rw [if_pos rfl] at hP
            have HK := hide hP
            have hk4 : cntL [x, rMany x] = x.cnt + (rMany x).cnt := by rw [cntL_cons]; simp [cntL]
            have hk2 := cnt_then [x, rMany x]
            have hwl : ∀ y ∈ [x, rMany x], Wf y := fun y hy => by
              simp at hy
              rcases hy with rfl | rfl
              · exact HPR.out.1
              · exact wf_many HPR.out.1
            have HNX : Hid (Ok (St.sized s.size (rThen [x, rMany x], (st1.sign 42).sign 43)) ∧ Pre st.cnt (St.sized s.size (rThen [x, rMany x], (st1.sign 42).sign 43)) (.postL (rThen [x, rMany x]))) :=
              post_next HOK.out HPR.out ((HOK.out.sign 42).sign 43) (by have h1 := HQ1.out.2.1; have h2 := HQ2.out.2.1; omega) (HQ2.out.2.2.1.trans HQ1.out.2.2.1) (by have h1 := HQ1.out.1; have h2 := HQ2.out.1; omega) (by have h1 := sign_true Hz2.out.symm; have h2 := HN1.out; omega) (wf_then hwl) (.inl (by have := HK1.out; omega))
            have HCC : Hid (((st1.sign 42).sign 43).cnt ≤ 1000000) := by show _ ≤ _; have := ((HOK.out.sign 42).sign 43).cnt; omega
            have HBD : Hid (cntL [x, rMany x] ≤ 1300000000) := by
              show _ ≤ _
              have h1 := HPR.out.2.cnt HOK.out
              have := HK1.out
              omega
            have HWL := hide hwl
            have HMN := hide (many_any b1 x w3 HO3.out.re)
            clear hP HOK HPR hk4 hk2 hwl
            unfold PT at HMN
            go_wp2_with fail
            refine HMN.out.mono ?_
            rintro e w4 ⟨b3, rfl, hrb, hb4⟩
            have hO4 := HO3.out.step hb4
            have hb5 := (Below.refl w4.heap.size w4).alloc (Nat.le_refl _) (.cells #[PT b1, PT b3] 26)
            obtain ⟨bd1, bd2, bd3, bd4⟩ := ls_bounds2 HBD.out
            have hth := then_any [x, rMany x] _ _ (resRowTwo (Blk.newAt rfl _ _) (hO4.re.keep hb5) (hrb.keep hb5)) HWL.out bd1 bd2
            have HTH := hide hth
            have HO5 := hide (hO4.step hb5)
            clear hrb hb4 hb5 hth hO4 HMN HO3 bd1 bd2 bd3 bd4
            unfold PT at HTH HO5
            go_wp2_with fail
            refine HTH.out.mono ?_
            rintro e w6 ⟨b2, rfl, hrb, hb6⟩
            have HY := hide ((HO5.out.step hb6).new hrb)
            clear hrb hb6 HTH HO5
            obtain ⟨y, hy⟩ : ∃ y, y = rThen [x, rMany x] := ⟨_, rfl⟩
            rw [← hy] at HY HK HNX
            have HCT := hide (counted_any p s ((st1.sign 42).sign 43) w6 HY.out.rd HCC.out)
            clear hy
            unfold PT at HCT
            go_wp2_with fail
            refine HCT.out.mono ?_
            rintro e w8 ⟨rfl, hR, hA⟩
            have HY8 := hide (HY.out.read hR hA)
            clear hR hA HCT HY
            have HSZ := hide (size_any b2 y w8 HY8.out.re)
            obtain ⟨sz, hsz⟩ : ∃ sz, sz = y.size := ⟨_, rfl⟩
            rw [← hsz] at HSZ
            have hszl : sz ≤ 9223372036854775807 := by rw [hsz]; exact y.size_le
            unfold PT at HSZ
            go_wp2_with fail
            refine HSZ.out.mono ?_
            rintro e w9 ⟨rfl, rfl⟩
            clear HSZ
            by_cases hbig : 1000 < sz
            · have hd1 : decide ((1000 : Int) < sz) = true := by simp; omega
              have hd2 : decide (1000 < sz) = true := by simp [hbig]
              have HE : Hid (St.sized s.size (y, (st1.sign 42).sign 43) = (St.counted s.size ((st1.sign 42).sign 43)).fail 3 ((St.counted s.size ((st1.sign 42).sign 43)).pos s.size)) := by
                show _ = _
                unfold St.sized
                rw [if_pos (by rw [hsz] at hbig; exact hbig)]
              obtain ⟨at2, hat2⟩ : ∃ a, a = (St.counted s.size ((st1.sign 42).sign 43)).pos s.size := ⟨_, rfl⟩
              have g1 := HY8.out.rd.cells.2.1
              have ea : s.size - (St.counted s.size ((st1.sign 42).sign 43)).rest.length = at2 := hat2.symm
              rw [ea] at g1
              rw [← hat2] at HE
              have HF := hide (fail_any p 3 at2 s _ w9 HY8.out.rd)
              clear hat2 ea hbig hsz
              unfold PT at HF
              go_wp2_with fail
              refine HF.out.mono ?_
              rintro e w10 ⟨rfl, hR, hA⟩
              have HY9 := hide (HY8.out.read hR hA)
              rw [← HE.out] at HY9
              clear hR hA HF HY8 g1
              go_wp2
              go_roundg k
              case measure => omega
              case rel => exact ⟨b2, y, _, rfl, HY9.out, HNX.out.1, HNX.out.2, HK.out, by omega⟩
            · have hd1 : decide ((1000 : Int) < sz) = false := by simp; omega
              have hd2 : decide (1000 < sz) = false := by simp; omega
              have HE : Hid (St.sized s.size (y, (st1.sign 42).sign 43) = St.counted s.size ((st1.sign 42).sign 43)) := by
                show _ = _
                unfold St.sized
                rw [if_neg (by rw [hsz] at hbig; exact hbig)]
              have HY9 := HY8
              rw [← HE.out] at HY9
              clear hbig hsz HY8
              go_wp2
              go_roundg k
              case measure => omega
              case rel => exact ⟨b2, y, _, rfl, HY9.out, HNX.out.1, HNX.out.2, HK.out, by omega⟩
          | false =>
            rw [if_neg (by simp)] at hP
            obtain ⟨z3, hz3⟩ : ∃ z3, z3 = ((st1.sign 42).sign 43).signB 63 := ⟨_, rfl⟩
            have hsg := sign_any p 63 s ((st1.sign 42).sign 43) w3 HO3.out.rd
            rw [← hz3] at hsg hP
            have HSG := hide hsg
            have Hz3 := hide hz3
            clear hsg hz3
            unfold PT at HSG
            go_wp2_with fail
            refine HSG.out.mono ?_
            rintro e w4 ⟨rfl, hR, hA⟩
            have HO4 := hide (HO3.out.read hR hA)
            clear hR hA HSG
            cases z3 with
            | true =>
              rw [if_pos rfl] at hP
              have HK := hide hP
              have hk5 : cntL [x, rEmpty] = x.cnt + 1 := by rw [cntL_cons, cntL_cons, cnt_empty]; rfl
              have hk3 := cnt_any [x, rEmpty]
              have hwl : ∀ y ∈ [x, rEmpty], Wf y := fun y hy => by
                simp at hy
                rcases hy with rfl | rfl
                · exact HPR.out.1
                · exact wf_empty
              have HNX : Hid (Ok (St.sized s.size (rAny [x, rEmpty], ((st1.sign 42).sign 43).sign 63)) ∧ Pre st.cnt (St.sized s.size (rAny [x, rEmpty], ((st1.sign 42).sign 43).sign 63)) (.postL (rAny [x, rEmpty]))) :=
                post_next HOK.out HPR.out (((HOK.out.sign 42).sign 43).sign 63) (by have h1 := HQ1.out.2.1; have h2 := HQ2.out.2.1; have h3 := HQ3.out.2.1; omega) (HQ3.out.2.2.1.trans (HQ2.out.2.2.1.trans HQ1.out.2.2.1)) (by have h1 := HQ1.out.1; have h2 := HQ2.out.1; have h3 := HQ3.out.1; omega) (by have h1 := sign_true Hz3.out.symm; have h2 := HN1.out; have h3 := HN2.out; omega) (wf_any hwl) (.inr (by omega))
              have HCC : Hid ((((st1.sign 42).sign 43).sign 63).cnt ≤ 1000000) := by show _ ≤ _; have := (((HOK.out.sign 42).sign 43).sign 63).cnt; omega
              have HBD : Hid (cntL [x, rEmpty] ≤ 1300000000) := by
                show _ ≤ _
                have h1 := HPR.out.2.cnt HOK.out
                omega
              have HWL := hide hwl
              have HEM := hide (empty_re w4)
              clear hP HOK HPR hk5 hk3 hwl
              go_wp2_with fail
              refine HEM.out.mono ?_
              rintro e w5 ⟨b3, rfl, hrb, hb5⟩
              have hO5 := HO4.out.step hb5
              have hb6 := (Below.refl w5.heap.size w5).alloc (Nat.le_refl _) (.cells #[PT b1, PT b3] 26)
              obtain ⟨bd1, bd2, bd3, bd4⟩ := ls_bounds2 HBD.out
              have hO6 := hO5.step hb6
              have hth := any_re [x, rEmpty] _ _ (resRowTwo (Blk.newAt rfl _ _) (hO5.re.keep hb6) (hrb.keep hb6)) HWL.out bd1 bd3 (HT.out.aside HR.out hO6.aside)
              have HTH := hide hth
              have HO6 := hide hO6
              clear hrb hb5 hb6 hth hO5 hO6 HEM HO4 bd1 bd2 bd3 bd4
              unfold PT at HTH HO6 ⊢
              go_wp2_with fail
              refine HTH.out.mono ?_
              rintro e w7 ⟨b2, rfl, hrb, hb7⟩
              have HY := hide ((HO6.out.step hb7).new hrb)
              clear hrb hb7 HTH HO6
              obtain ⟨y, hy⟩ : ∃ y, y = rAny [x, rEmpty] := ⟨_, rfl⟩
              rw [← hy] at HY HK HNX
              have HCT := hide (counted_any p s (((st1.sign 42).sign 43).sign 63) w7 HY.out.rd HCC.out)
              clear hy
              unfold PT at HCT
              go_wp2_with fail
              refine HCT.out.mono ?_
              rintro e w8 ⟨rfl, hR, hA⟩
              have HY8 := hide (HY.out.read hR hA)
              clear hR hA HCT HY
              have HSZ := hide (size_any b2 y w8 HY8.out.re)
              obtain ⟨sz, hsz⟩ : ∃ sz, sz = y.size := ⟨_, rfl⟩
              rw [← hsz] at HSZ
              have hszl : sz ≤ 9223372036854775807 := by rw [hsz]; exact y.size_le
              unfold PT at HSZ
              go_wp2_with fail
              refine HSZ.out.mono ?_
              rintro e w9 ⟨rfl, rfl⟩
              clear HSZ
              by_cases hbig : 1000 < sz
              · have hd1 : decide ((1000 : Int) < sz) = true := by simp; omega
                have hd2 : decide (1000 < sz) = true := by simp [hbig]
                have HE : Hid (St.sized s.size (y, ((st1.sign 42).sign 43).sign 63) = (St.counted s.size (((st1.sign 42).sign 43).sign 63)).fail 3 ((St.counted s.size (((st1.sign 42).sign 43).sign 63)).pos s.size)) := by
                  show _ = _
                  unfold St.sized
                  rw [if_pos (by rw [hsz] at hbig; exact hbig)]
                obtain ⟨at2, hat2⟩ : ∃ a, a = (St.counted s.size (((st1.sign 42).sign 43).sign 63)).pos s.size := ⟨_, rfl⟩
                have g1 := HY8.out.rd.cells.2.1
                have ea : s.size - (St.counted s.size (((st1.sign 42).sign 43).sign 63)).rest.length = at2 := hat2.symm
                rw [ea] at g1
                rw [← hat2] at HE
                have HF := hide (fail_any p 3 at2 s _ w9 HY8.out.rd)
                clear hat2 ea hbig hsz
                unfold PT at HF
                go_wp2_with fail
                refine HF.out.mono ?_
                rintro e w10 ⟨rfl, hR, hA⟩
                have HY9 := hide (HY8.out.read hR hA)
                rw [← HE.out] at HY9
                clear hR hA HF HY8 g1
                go_wp2
                go_roundg k
                case measure => omega
                case rel => exact ⟨b2, y, _, rfl, HY9.out, HNX.out.1, HNX.out.2, HK.out, by omega⟩
              · have hd1 : decide ((1000 : Int) < sz) = false := by simp; omega
                have hd2 : decide (1000 < sz) = false := by simp; omega
                have HE : Hid (St.sized s.size (y, ((st1.sign 42).sign 43).sign 63) = St.counted s.size (((st1.sign 42).sign 43).sign 63)) := by
                  show _ = _
                  unfold St.sized
                  rw [if_neg (by rw [hsz] at hbig; exact hbig)]
                have HY9 := HY8
                rw [← HE.out] at HY9
                clear hbig hsz HY8
                go_wp2
                go_roundg k
                case measure => omega
                case rel => exact ⟨b2, y, _, rfl, HY9.out, HNX.out.1, HNX.out.2, HK.out, by omega⟩
            | false =>
              rw [if_neg (by simp)] at hP
              injection hP with hP
              injection hP with e1 e2
              have HE1 := hide e1
              have HE2 := hide e2
              clear e1 e2 HOK HPR
              go_wp2
              go_ret
              refine ⟨b1, rfl, ?_, ?_, HO4.out.aside⟩
              · rw [← HE1.out]; exact HO4.out.re
              · rw [← HE2.out]; exact HO4.out.rd
end Go.Proofs.YthhfpjehamhcbaaGreatDoor
