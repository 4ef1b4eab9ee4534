/- Texts of this claim put together: TrH, TrI. -/
import Derived.Test.YtjlgepahgmkamaaGreatDoorJoinTrG
/- The reader: post. -/
namespace Go.Proofs.YtjlgepahgmkamaaGreatDoor
set_option maxRecDepth 100000
set_option linter.unusedSimpArgs false
set_option linter.unusedVariables false
open Go.RowKit

theorem post_next {n c0 : Nat} {st s1 : St} {x y : RE} (ho : Ok st) (hp : Pre c0 st (.postL x)) (o1 : Ok s1) (e1 : s1.cnt = st.cnt) (e2 : s1.err = st.err) (e3 : s1.deep = st.deep) (e4 : s1.rest.length + 1 ≤ st.rest.length)
    (wy : Wf y) (hy : y.cnt ≤ 2 + 2 * x.cnt ∨ y.cnt ≤ 3 + x.cnt) : Ok (St.sized n (y, s1)) ∧ Pre c0 (St.sized n (y, s1)) (.postL y) := by
  obtain ⟨hw, hb⟩ := hp
  have h0 : st.err = 0 := ho.err0 fun e => by rw [e] at e4; simp at e4
  obtain ⟨z1, z2, z3, z4, z5⟩ := sized_eq n y s1 o1.bad
  generalize St.sized n (y, s1) = s2 at *
  have hcc := ho.ok h0
  have kb := hb.1 h0
  have kc := hb.2.2
  exact ⟨⟨by rw [z1, e3]; exact ho.deep, fun e => by rw [z1, e3]; omega, z5, by omega⟩, wy, fun e => by have := (z4 e).2; omega, fun e => by omega, by omega⟩
theorem resRowTwo {W : World} {g b1 b2 : Nat} {r1 r2 : RE} (hg : Blk W g #[PT b1, PT b2] 32) (h1 : ReAt W b1 r1) (h2 : ReAt W b2 r2) : ResRow W (.slice (some ⟨g, 0, none⟩) 2 2) [r1, r2] := by
  refine ⟨fun i => if i = 0 then b1 else b2, ⟨⟨by simp, .of (Nat.le_refl _) (FL.none _) fun _ _ _ => fun h => h⟩, _, _, rfl, fun k hk => ⟨g, 0, rfl, hg.lt, ?_⟩⟩, fun i k hk => ?_⟩
  · rw [hg.cell, Nat.zero_add]
    match k, hk with
    | 0, _ => rfl
    | 1, _ => rfl
  · match i, hk with
    | 0, hk => simp at hk; subst hk; exact h1
    | 1, hk => simp at hk; subst hk; exact h2

theorem ls_bounds2 {l : List RE} (h : cntL l ≤ 1300000000) : l.length ≤ 1099511627776 ∧ (catL l).length ≤ 1099511627776 ∧ (flatL 4 l).length ≤ 1099511627776 ∧ (flatL 6 l).length ≤ 1099511627776 := by
  have a0 := cntL_len l
  have a1 := cntL_len (catL l); have a2 := cntL_catL l
  have b1 := cntL_len (flatL 4 l); have b2 := cntL_flatL 4 l
  have c1 := cntL_len (flatL 6 l); have c2 := cntL_flatL 6 l
  omega
set_option maxHeartbeats 2000000 in
theorem post_step (F : Nat) (hm : RdC 131 .atom F) : RdC 130 .post (F + 1) := by
  intro f hf p s st r st' w hR ho hp hT hP
  cases f with
  | zero => simp [St.P] at hP
  | succ g =>
    simp only [St.P] at hP
    obtain ⟨⟨q, s1⟩, h1, h2⟩ := Option.bind_eq_some_iff.1 hP
    have hc := hm g (by omega) p s st q s1 w hR ho hp hT h1
    have hi := P_inv s.size g .atom st.cnt st q s1 h1 ho hp
    have HI := hide hi
    have HC := hide hc
    have H2 := hide h2
    have HT := hide hT
    have HR := hide hR
    have hgF : g < F + 1 := by omega
    clear hP h1 h2 hc hi hT hR hm ho hf hp
    unfold PT at HC ⊢
    go_enter Tryz.func130, Tryz.ntmps130
    go_wp2_with fail
    refine HC.out.mono ?_
    rintro e w1 ⟨b, rfl, hrb, hR1, hA1⟩
    have HON : Hid (OnW w p s s1 b q w1) := ⟨hR1, hrb, hA1⟩
    clear hrb hR1 hA1 HC
    go_wp2
    go_loopg [3] g (fun k v wr => ∃ b x st1, v = .pointer (some ⟨b, 0, none⟩) ∧ Hid (OnW w p s st1 b x wr ∧ Ok st1 ∧ Pre st.cnt st1 (.postL x) ∧ St.P s.size k (.postL x) st1 = some (r, st') ∧ k ≤ g))
    case atStart => exact ⟨b, q, s1, rfl, HON.out, HI.out.ok, ⟨HI.out.wf, HI.out.bd⟩, H2.out, Nat.le_refl _⟩
    case round =>
      clear HON HI H2
      obtain ⟨b1, x, st1, rfl, hon, hok, hpr, hP, hkg⟩ := hrel
      cases gk with
      | zero => simp [St.P] at hP
      | succ k =>
        simp only [St.P] at hP
        have HON := hide hon
        have HOK := hide hok
        have HPR := hide hpr
        have HQ1 := hide (sign_eq 42 st1)
        have HQ2 := hide (sign_eq 43 (st1.sign 42))
        have HQ3 := hide (sign_eq 63 ((st1.sign 42).sign 43))
        have HN1 := hide (sign_len 42 st1)
        have HN2 := hide (sign_len 43 (st1.sign 42))
        have HK1 := hide (cnt_many x)
        clear hon hok hpr
        obtain ⟨z1, hz1⟩ : ∃ z1, z1 = (st1).signB 42 := ⟨_, rfl⟩
        have hsg := sign_any p 42 s (st1) wr HON.out.rd
        rw [← hz1] at hsg hP
        have HSG := hide hsg
        have Hz1 := hide hz1
        clear hsg hz1
        unfold PT at HSG
        go_wp2_with fail
        refine HSG.out.mono ?_
        rintro e w2 ⟨rfl, hR, hA⟩
        have HO2 := hide (HON.out.read hR hA)
        clear hR hA HSG
        cases z1 with
        | true =>
          rw [if_pos rfl] at hP
          have HK := hide hP
          have HNX : Hid (Ok (St.sized s.size (rMany x, st1.sign 42)) ∧ Pre st.cnt (St.sized s.size (rMany x, st1.sign 42)) (.postL (rMany x))) :=
            post_next HOK.out HPR.out (HOK.out.sign 42) HQ1.out.2.1 HQ1.out.2.2.1 HQ1.out.1 (sign_true Hz1.out.symm) (wf_many HPR.out.1) (.inr (by have := HK1.out; omega))
          have HCC : Hid ((st1.sign 42).cnt ≤ 1000000) := by show _ ≤ _; have := (HOK.out.sign 42).cnt; omega
          have HMN := hide (many_any b1 x w2 HO2.out.re)
          clear hP HOK HPR
          unfold PT at HMN
          go_wp2_with fail
          refine HMN.out.mono ?_
          rintro e w3 ⟨b2, rfl, hrb, hb3⟩
          have HY := hide ((HO2.out.step hb3).new hrb)
          clear hrb hb3 HMN HO2
          obtain ⟨y, hy⟩ : ∃ y, y = rMany x := ⟨_, rfl⟩
          rw [← hy] at HY HK HNX
          have HCT := hide (counted_any p s (st1.sign 42) w3 HY.out.rd HCC.out)
          clear hy
          unfold PT at HCT
          go_wp2_with fail
          refine HCT.out.mono ?_
          rintro e w8 ⟨rfl, hR, hA⟩
          have HY8 := hide (HY.out.read hR hA)
          clear hR hA HCT HY
          have HSZ := hide (size_any b2 y w8 HY8.out.re)
          obtain ⟨sz, hsz⟩ : ∃ sz, sz = y.size := ⟨_, rfl⟩
          rw [← hsz] at HSZ
          have hszl : sz ≤ 9223372036854775807 := by rw [hsz]; exact y.size_le
          unfold PT at HSZ
          go_wp2_with fail
          refine HSZ.out.mono ?_
          rintro e w9 ⟨rfl, rfl⟩
          clear HSZ
          by_cases hbig : 1000 < sz
          · have hd1 : decide ((1000 : Int) < sz) = true := by simp; omega
            have hd2 : decide (1000 < sz) = true := by simp [hbig]
            have HE : Hid (St.sized s.size (y, st1.sign 42) = (St.counted s.size (st1.sign 42)).fail 3 ((St.counted s.size (st1.sign 42)).pos s.size)) := by
              show _ = _
              unfold St.sized
              rw [if_pos (by rw [hsz] at hbig; exact hbig)]
            obtain ⟨at2, hat2⟩ : ∃ a, a = (St.counted s.size (st1.sign 42)).pos s.size := ⟨_, rfl⟩
            have g1 := HY8.out.rd.cells.2.1
            have ea : s.size - (St.counted s.size (st1.sign 42)).rest.length = at2 := hat2.symm
            rw [ea] at g1
            rw [← hat2] at HE
            have HF := hide (fail_any p 3 at2 s _ w9 HY8.out.rd)
            clear hat2 ea hbig hsz
            unfold PT at HF
            go_wp2_with fail
            refine HF.out.mono ?_
            rintro e w10 ⟨rfl, hR, hA⟩
            have HY9 := hide (HY8.out.read hR hA)
            rw [← HE.out] at HY9
            clear hR hA HF HY8 g1
            go_wp2
            go_roundg k
            case measure => omega
            case rel => exact ⟨b2, y, _, rfl, HY9.out, HNX.out.1, HNX.out.2, HK.out, by omega⟩
          · have hd1 : decide ((1000 : Int) < sz) = false := by simp; omega
            have hd2 : decide (1000 < sz) = false := by simp; omega
            have HE : Hid (St.sized s.size (y, st1.sign 42) = St.counted s.size (st1.sign 42)) := by
              show _ = _
              unfold St.sized
              rw [if_neg (by rw [hsz] at hbig; exact hbig)]
            have HY9 := HY8
            rw [← HE.out] at HY9
            clear hbig hsz HY8
            go_wp2
            go_roundg k
            case measure => omega
            case rel => exact ⟨b2, y, _, rfl, HY9.out, HNX.out.1, HNX.out.2, HK.out, by omega⟩
        | false =>
          rw [if_neg (by simp)] at hP
          obtain ⟨z2, hz2⟩ : ∃ z2, z2 = (st1.sign 42).signB 43 := ⟨_, rfl⟩
          have hsg := sign_any p 43 s (st1.sign 42) w2 HO2.out.rd
          rw [← hz2] at hsg hP
          have HSG := hide hsg
          have Hz2 := hide hz2
          clear hsg hz2
          unfold PT at HSG
          go_wp2_with fail
          refine HSG.out.mono ?_
          rintro e w3 ⟨rfl, hR, hA⟩
          have HO3 := hide (HO2.out.read hR hA)
          clear hR hA HSG
          cases z2 with
          | true =>
            rw [if_pos rfl] at hP
            have HK := hide hP
            have hk4 : cntL [x, rMany x] = x.cnt + (rMany x).cnt := by rw [cntL_cons]; simp [cntL]
            have hk2 := cnt_then [x, rMany x]
            have hwl : ∀ y ∈ [x, rMany x], Wf y := fun y hy => by
              simp at hy
              rcases hy with rfl | rfl
              · exact HPR.out.1
              · exact wf_many HPR.out.1
            have HNX : Hid (Ok (St.sized s.size (rThen [x, rMany x], (st1.sign 42).sign 43)) ∧ Pre st.cnt (St.sized s.size (rThen [x, rMany x], (st1.sign 42).sign 43)) (.postL (rThen [x, rMany x]))) :=
              post_next HOK.out HPR.out ((HOK.out.sign 42).sign 43) (by have h1 := HQ1.out.2.1; have h2 := HQ2.out.2.1; omega) (HQ2.out.2.2.1.trans HQ1.out.2.2.1) (by have h1 := HQ1.out.1; have h2 := HQ2.out.1; omega) (by have h1 := sign_true Hz2.out.symm; have h2 := HN1.out; omega) (wf_then hwl) (.inl (by have := HK1.out; omega))
            have HCC : Hid (((st1.sign 42).sign 43).cnt ≤ 1000000) := by show _ ≤ _; have := ((HOK.out.sign 42).sign 43).cnt; omega
            have HBD : Hid (cntL [x, rMany x] ≤ 1300000000) := by
              show _ ≤ _
              have h1 := HPR.out.2.cnt HOK.out
              have := HK1.out
              omega
            have HWL := hide hwl
            have HMN := hide (many_any b1 x w3 HO3.out.re)
            clear hP HOK HPR hk4 hk2 hwl
            unfold PT at HMN
            go_wp2_with fail
            refine HMN.out.mono ?_
            rintro e w4 ⟨b3, rfl, hrb, hb4⟩
            have hO4 := HO3.out.step hb4
            have hb5 := (Below.refl w4.heap.size w4).alloc (Nat.le_refl _) (.cells #[PT b1, PT b3] 32)
            obtain ⟨bd1, bd2, bd3, bd4⟩ := ls_bounds2 HBD.out
            have hth := then_any [x, rMany x] _ _ (resRowTwo (Blk.newAt rfl _ _) (hO4.re.keep hb5) (hrb.keep hb5)) HWL.out bd1 bd2
            have HTH := hide hth
            have HO5 := hide (hO4.step hb5)
            clear hrb hb4 hb5 hth hO4 HMN HO3 bd1 bd2 bd3 bd4
            unfold PT at HTH HO5
            go_wp2_with fail
            refine HTH.out.mono ?_
            rintro e w6 ⟨b2, rfl, hrb, hb6⟩
            have HY := hide ((HO5.out.step hb6).new hrb)
            clear hrb hb6 HTH HO5
            obtain ⟨y, hy⟩ : ∃ y, y = rThen [x, rMany x] := ⟨_, rfl⟩
            rw [← hy] at HY HK HNX
            have HCT := hide (counted_any p s ((st1.sign 42).sign 43) w6 HY.out.rd HCC.out)
            clear hy
            unfold PT at HCT
            go_wp2_with fail
            refine HCT.out.mono ?_
            rintro e w8 ⟨rfl, hR, hA⟩
            have HY8 := hide (HY.out.read hR hA)
            clear hR hA HCT HY
            have HSZ := hide (size_any b2 y w8 HY8.out.re)
            obtain ⟨sz, hsz⟩ : ∃ sz, sz = y.size := ⟨_, rfl⟩
            rw [← hsz] at HSZ
            have hszl : sz ≤ 9223372036854775807 := by rw [hsz]; exact y.size_le
            unfold PT at HSZ
            go_wp2_with fail
            refine HSZ.out.mono ?_
            rintro e w9 ⟨rfl, rfl⟩
            clear HSZ
            by_cases hbig : 1000 < sz
            · have hd1 : decide ((1000 : Int) < sz) = true := by simp; omega
              have hd2 : decide (1000 < sz) = true := by simp [hbig]
              have HE : Hid (St.sized s.size (y, (st1.sign 42).sign 43) = (St.counted s.size ((st1.sign 42).sign 43)).fail 3 ((St.counted s.size ((st1.sign 42).sign 43)).pos s.size)) := by
                show _ = _
                unfold St.sized
                rw [if_pos (by rw [hsz] at hbig; exact hbig)]
              obtain ⟨at2, hat2⟩ : ∃ a, a = (St.counted s.size ((st1.sign 42).sign 43)).pos s.size := ⟨_, rfl⟩
              have g1 := HY8.out.rd.cells.2.1
              have ea : s.size - (St.counted s.size ((st1.sign 42).sign 43)).rest.length = at2 := hat2.symm
              rw [ea] at g1
              rw [← hat2] at HE
              have HF := hide (fail_any p 3 at2 s _ w9 HY8.out.rd)
              clear hat2 ea hbig hsz
              unfold PT at HF
              go_wp2_with fail
              refine HF.out.mono ?_
              rintro e w10 ⟨rfl, hR, hA⟩
              have HY9 := hide (HY8.out.read hR hA)
              rw [← HE.out] at HY9
              clear hR hA HF HY8 g1
              go_wp2
              go_roundg k
              case measure => omega
              case rel => exact ⟨b2, y, _, rfl, HY9.out, HNX.out.1, HNX.out.2, HK.out, by omega⟩
            · have hd1 : decide ((1000 : Int) < sz) = false := by simp; omega
              have hd2 : decide (1000 < sz) = false := by simp; omega
              have HE : Hid (St.sized s.size (y, (st1.sign 42).sign 43) = St.counted s.size ((st1.sign 42).sign 43)) := by
                show _ = _
                unfold St.sized
                rw [if_neg (by rw [hsz] at hbig; exact hbig)]
              have HY9 := HY8
              rw [← HE.out] at HY9
              clear hbig hsz HY8
              go_wp2
              go_roundg k
              case measure => omega
              case rel => exact ⟨b2, y, _, rfl, HY9.out, HNX.out.1, HNX.out.2, HK.out, by omega⟩
          | false =>
            rw [if_neg (by simp)] at hP
            obtain ⟨z3, hz3⟩ : ∃ z3, z3 = ((st1.sign 42).sign 43).signB 63 := ⟨_, rfl⟩
            have hsg := sign_any p 63 s ((st1.sign 42).sign 43) w3 HO3.out.rd
            rw [← hz3] at hsg hP
            have HSG := hide hsg
            have Hz3 := hide hz3
            clear hsg hz3
            unfold PT at HSG
            go_wp2_with fail
            refine HSG.out.mono ?_
            rintro e w4 ⟨rfl, hR, hA⟩
            have HO4 := hide (HO3.out.read hR hA)
            clear hR hA HSG
            cases z3 with
            | true =>
              rw [if_pos rfl] at hP
              have HK := hide hP
              have hk5 : cntL [x, rEmpty] = x.cnt + 1 := by rw [cntL_cons, cntL_cons, cnt_empty]; rfl
              have hk3 := cnt_any [x, rEmpty]
              have hwl : ∀ y ∈ [x, rEmpty], Wf y := fun y hy => by
                simp at hy
                rcases hy with rfl | rfl
                · exact HPR.out.1
                · exact wf_empty
              have HNX : Hid (Ok (St.sized s.size (rAny [x, rEmpty], ((st1.sign 42).sign 43).sign 63)) ∧ Pre st.cnt (St.sized s.size (rAny [x, rEmpty], ((st1.sign 42).sign 43).sign 63)) (.postL (rAny [x, rEmpty]))) :=
                post_next HOK.out HPR.out (((HOK.out.sign 42).sign 43).sign 63) (by have h1 := HQ1.out.2.1; have h2 := HQ2.out.2.1; have h3 := HQ3.out.2.1; omega) (HQ3.out.2.2.1.trans (HQ2.out.2.2.1.trans HQ1.out.2.2.1)) (by have h1 := HQ1.out.1; have h2 := HQ2.out.1; have h3 := HQ3.out.1; omega) (by have h1 := sign_true Hz3.out.symm; have h2 := HN1.out; have h3 := HN2.out; omega) (wf_any hwl) (.inr (by omega))
              have HCC : Hid ((((st1.sign 42).sign 43).sign 63).cnt ≤ 1000000) := by show _ ≤ _; have := (((HOK.out.sign 42).sign 43).sign 63).cnt; omega
              have HBD : Hid (cntL [x, rEmpty] ≤ 1300000000) := by
                show _ ≤ _
                have h1 := HPR.out.2.cnt HOK.out
                omega
              have HWL := hide hwl
              have HEM := hide (empty_re w4 (FL.none _))
              clear hP HOK HPR hk5 hk3 hwl
              go_wp2_with fail
              refine HEM.out.mono ?_
              rintro e w5 ⟨b3, rfl, hrb, hb5⟩
              have hO5 := HO4.out.step hb5
              have hb6 := (Below.refl w5.heap.size w5).alloc (Nat.le_refl _) (.cells #[PT b1, PT b3] 32)
              obtain ⟨bd1, bd2, bd3, bd4⟩ := ls_bounds2 HBD.out
              have hO6 := hO5.step hb6
              have hth := any_re [x, rEmpty] _ _ (resRowTwo (Blk.newAt rfl _ _) (hO5.re.keep hb6) (hrb.keep hb6)) HWL.out bd1 bd3 (HT.out.aside HR.out hO6.aside)
              have HTH := hide hth
              have HO6 := hide hO6
              clear hrb hb5 hb6 hth hO5 hO6 HEM HO4 bd1 bd2 bd3 bd4
              unfold PT at HTH HO6 ⊢
              go_wp2_with fail
              refine HTH.out.mono ?_
              rintro e w7 ⟨b2, rfl, hrb, hb7⟩
              have HY := hide ((HO6.out.step hb7).new hrb)
              clear hrb hb7 HTH HO6
              obtain ⟨y, hy⟩ : ∃ y, y = rAny [x, rEmpty] := ⟨_, rfl⟩
              rw [← hy] at HY HK HNX
              have HCT := hide (counted_any p s (((st1.sign 42).sign 43).sign 63) w7 HY.out.rd HCC.out)
              clear hy
              unfold PT at HCT
              go_wp2_with fail
              refine HCT.out.mono ?_
              rintro e w8 ⟨rfl, hR, hA⟩
              have HY8 := hide (HY.out.read hR hA)
              clear hR hA HCT HY
              have HSZ := hide (size_any b2 y w8 HY8.out.re)
              obtain ⟨sz, hsz⟩ : ∃ sz, sz = y.size := ⟨_, rfl⟩
              rw [← hsz] at HSZ
              have hszl : sz ≤ 9223372036854775807 := by rw [hsz]; exact y.size_le
              unfold PT at HSZ
              go_wp2_with fail
              refine HSZ.out.mono ?_
              rintro e w9 ⟨rfl, rfl⟩
              clear HSZ
              by_cases hbig : 1000 < sz
              · have hd1 : decide ((1000 : Int) < sz) = true := by simp; omega
                have hd2 : decide (1000 < sz) = true := by simp [hbig]
                have HE : Hid (St.sized s.size (y, ((st1.sign 42).sign 43).sign 63) = (St.counted s.size (((st1.sign 42).sign 43).sign 63)).fail 3 ((St.counted s.size (((st1.sign 42).sign 43).sign 63)).pos s.size)) := by
                  show _ = _
                  unfold St.sized
                  rw [if_pos (by rw [hsz] at hbig; exact hbig)]
                obtain ⟨at2, hat2⟩ : ∃ a, a = (St.counted s.size (((st1.sign 42).sign 43).sign 63)).pos s.size := ⟨_, rfl⟩
                have g1 := HY8.out.rd.cells.2.1
                have ea : s.size - (St.counted s.size (((st1.sign 42).sign 43).sign 63)).rest.length = at2 := hat2.symm
                rw [ea] at g1
                rw [← hat2] at HE
                have HF := hide (fail_any p 3 at2 s _ w9 HY8.out.rd)
                clear hat2 ea hbig hsz
                unfold PT at HF
                go_wp2_with fail
                refine HF.out.mono ?_
                rintro e w10 ⟨rfl, hR, hA⟩
                have HY9 := hide (HY8.out.read hR hA)
                rw [← HE.out] at HY9
                clear hR hA HF HY8 g1
                go_wp2
                go_roundg k
                case measure => omega
                case rel => exact ⟨b2, y, _, rfl, HY9.out, HNX.out.1, HNX.out.2, HK.out, by omega⟩
              · have hd1 : decide ((1000 : Int) < sz) = false := by simp; omega
                have hd2 : decide (1000 < sz) = false := by simp; omega
                have HE : Hid (St.sized s.size (y, ((st1.sign 42).sign 43).sign 63) = St.counted s.size (((st1.sign 42).sign 43).sign 63)) := by
                  show _ = _
                  unfold St.sized
                  rw [if_neg (by rw [hsz] at hbig; exact hbig)]
                have HY9 := HY8
                rw [← HE.out] at HY9
                clear hbig hsz HY8
                go_wp2
                go_roundg k
                case measure => omega
                case rel => exact ⟨b2, y, _, rfl, HY9.out, HNX.out.1, HNX.out.2, HK.out, by omega⟩
            | false =>
              rw [if_neg (by simp)] at hP
              injection hP with hP
              injection hP with e1 e2
              have HE1 := hide e1
              have HE2 := hide e2
              clear e1 e2 HOK HPR
              go_wp2
              go_ret
              refine ⟨b1, rfl, ?_, ?_, HO4.out.aside⟩
              · rw [← HE1.out]; exact HO4.out.re
              · rw [← HE2.out]; exact HO4.out.rd
end Go.Proofs.YtjlgepahgmkamaaGreatDoor
/- The reader: cat; all of them. -/
namespace Go.Proofs.YtjlgepahgmkamaaGreatDoor
set_option maxRecDepth 100000
set_option linter.unusedSimpArgs false
set_option linter.unusedVariables false
open Go.RowKit

section
variable {ops : Array Oper} {S S' : World → Prop} {Q : Exit → Act → World → Prop} {fuel : Nat} {listed : Array Bool} {a : Act} {w : World} {oi : Oper} {rest : List Oper}
theorem h_skip (i : Nat) (hi : ops.toList.drop i = oi :: rest) (hs : Region.noSelect ops = true) (hf : Region.free .any ops listed i = true) (hr : (Region.ready .any ops listed).contains i = true)
    (hw : Region.wanted oi (yielded ops a.tmps) = false) (hS : S w)
    (h : wpAnyH Tryz.prog .any ops (NoPanic Q) S fuel (listed.setIfInBounds i true) (a.put oi.dst undef) w) : wpAnyH Tryz.prog .any ops (NoPanic Q) S (fuel + 1) listed a w :=
  wpAnyH_take (at_drop hi) hs hf hr (fun _ _ _ h => (h : False).elim) (.inr ⟨hw, rfl⟩) hS h
theorem wpAnyH_weaken (hS : ∀ w, S' w → S w) : ∀ (fuel : Nat) (listed : Array Bool) (a : Act) (w : World), wpAnyH Tryz.prog .any ops Q S' fuel listed a w → wpAnyH Tryz.prog .any ops Q S fuel listed a w
  | 0, _, _, _, h => h
  | fuel + 1, _, _, _, h => ⟨h.1, fun i hi => wpOp_mono (fun a' w' h' => ⟨hS w' h'.1, wpAnyH_weaken hS fuel _ a' w' h'.2⟩) (h.2 i hi)⟩
end

set_option maxHeartbeats 4000000 in
theorem cat_step (F : Nat) (hm : RdC 130 .post F) : RdC 128 .cat (F + 1) := by
  intro f hf p s st r st' w hR ho hp hT hP
  cases f with
  | zero => simp [St.P] at hP
  | succ g =>
    simp only [St.P] at hP
    obtain ⟨⟨q, s1⟩, h1, h2⟩ := Option.bind_eq_some_iff.1 hP
    have hc := hm g (by omega) p s st q s1 w hR ho hp hT h1
    have hi := P_inv s.size g .post st.cnt st q s1 h1 ho hp
    have HI := hide hi
    have HC := hide hc
    have H2 := hide h2
    have HT := hide hT
    have HR := hide hR
    have HM := hide hm
    have HPL := hide hR.blk.lt
    have hgF : g < F + 1 := by omega
    clear hP h1 h2 hc hi hT hR hm ho hf hp
    unfold PT at HC ⊢
    go_enter Tryz.func128, Tryz.ntmps128
    go_wp2_with fail
    refine HC.out.mono ?_
    rintro e w1 ⟨b, rfl, hrb, hR1, hA1⟩
    have hls := LsW.one hR1 hA1 hrb HPL.out
    have HLS := hide hls
    clear hrb hR1 hA1 hls HC
    unfold PT at HLS
    go_wp2
    go_loopg [3] g (fun k v wr => Hid (∃ ps st1, LsW w p s st1 v ps wr ∧ Ok st1 ∧ Pre st.cnt st1 (.catL (ps.map Prod.snd)) ∧ St.P s.size k (.catL (ps.map Prod.snd)) st1 = some (r, st') ∧ k ≤ g))
    case atStart => exact ⟨[(b, q)], s1, HLS.out, HI.out.ok, ⟨by simp, fun x hx => by simp at hx; subst hx; exact HI.out.wf, HI.out.bd.one, by have := HI.out.bd.lt (by simp only [offM]; omega); simp; omega⟩, H2.out, Nat.le_refl _⟩
    case round =>
      clear HLS HI H2
      obtain ⟨ps, st1, hls, hok, hpr, hP, hkg⟩ := hrel
      cases gk with
      | zero => simp [St.P] at hP
      | succ k =>
        simp only [St.P] at hP
        obtain ⟨g3, cap3, hv3⟩ := hls.own.slice
        subst hv3
        have hen := end_any p s st1 { wr with drawn := wr.drawn + 1 } (hls.rd.keep ⟨rfl, rfl, rfl, Nat.le_refl _, fun _ _ => rfl⟩)
        have hl1 := hls.step (⟨rfl, rfl, rfl, Nat.le_refl _, fun _ _ => rfl⟩ : Below wr.heap.size wr { wr with drawn := wr.drawn + 1 })
        obtain ⟨q, hq⟩ : ∃ q, q = st1.skip.rest.isEmpty := ⟨_, rfl⟩
        rw [← hq] at hen
        have HEN := hide hen
        have HL1 := hide hl1
        have HOK := hide hok
        have HPR := hide hpr
        have HQ := hide hq
        have hpl : ps.length ≤ 1000000 := by
          have h1 := hpr.2.2.2
          have h2 := hok.cnt
          simp at h1; omega
        clear hen hls hok hpr hq hl1
        go_wp2
        rw [show Value.pointer (some ⟨p, 0, none⟩) = PT p from rfl]
        refine wp_region_noPanic (wp_region_held (S := fun _ => True) (by kernel_rfl) ?_)
        show wpAnyH _ _ _ _ _ 16 #[false, false, false, false, false, false, false, false, false, false, false, false, false, false, false, false] _ _
        generalize ({ wr with drawn := wr.drawn + 1 } : World) = W1 at HEN HL1 ⊢
        refine h_take 0 (PT p) rfl (by kernel_rfl) (by kernel_rfl) (by kernel_rfl) rfl (fun w hw => x_move _ _ _ _ _ _ _ _ rfl w) trivial ?_
        simp only [Act.put, List.setIfInBounds_toArray, List.set_cons_succ, List.set_cons_zero]
        refine h_callE 1 86 #[PT p] (fun v w' => v = .bool q ∧ RdAt w' p s st1.skip ∧ Aside p W1 w') rfl (by kernel_rfl) rfl (x_call1 _ _ _ _ _ _ _ _ _ _ rfl rfl (enters_of Tryz.func86 (by kernel_rfl) rfl) _) (HEN.out.mono fun e w' h => ⟨_, h.1, rfl, h.2⟩) (fun v w' h => trivial) ?_
        rintro v2 W2 ⟨rfl, hR2, hA2⟩
        simp only [Act.put, List.setIfInBounds_toArray, List.set_cons_succ, List.set_cons_zero]
        have HL2 := hide (HL1.out.read hR2 hA2)
        clear hR2 hA2 HEN HL1
        obtain ⟨S', hS'⟩ : ∃ S' : World → Prop, S' = fun W => Below W2.heap.size W2 W := ⟨_, rfl⟩
        refine wpAnyH_weaken (S' := S') (fun _ _ => trivial) _ _ _ _ ?_
        have hSW : S' W2 := by rw [hS']; exact Below.refl _ _
        have HSB : Hid (∀ W, S' W → Below W2.heap.size W2 W) := fun W h => by rw [hS'] at h; exact h
        have HSG : Hid (∀ W W', S' W → W' = W → S' W') := fun W W' h e => e ▸ h
        clear hS'
        cases q with
        | true =>
          have HX : Hid (st1.skip.rest = []) := by show _ = _; simpa using HQ.out.symm
          have hP : some (rThen (ps.map Prod.snd), st1.skip) = some (r, st') := by
            have := hP
            rw [HX.out] at this
            exact this
          injection hP with hP
          injection hP with e1 e2
          have HE1 := hide e1
          have HE2 := hide e2
          clear e1 e2
          refine h_take 2 (.bool false) rfl (by kernel_rfl) (by kernel_rfl) (by kernel_rfl) rfl (fun w hw => x_notBool _ _ _ _ _ _ _ true rfl w) hSW ?_
          simp only [Act.put, List.setIfInBounds_toArray, List.set_cons_succ, List.set_cons_zero]
          refine h_take 3 (.bool false) rfl (by kernel_rfl) (by kernel_rfl) (by kernel_rfl) rfl (fun w hw => x_move _ _ _ _ _ _ _ _ rfl w) hSW ?_
          simp only [Act.put, List.setIfInBounds_toArray, List.set_cons_succ, List.set_cons_zero]
          refine h_skip 4 rfl (by kernel_rfl) (by kernel_rfl) (by kernel_rfl) (by kernel_rfl) hSW ?_
          simp only [Act.put, List.setIfInBounds_toArray, List.set_cons_succ, List.set_cons_zero]
          refine h_skip 5 rfl (by kernel_rfl) (by kernel_rfl) (by kernel_rfl) (by kernel_rfl) hSW ?_
          simp only [Act.put, List.setIfInBounds_toArray, List.set_cons_succ, List.set_cons_zero]
          refine h_skip 6 rfl (by kernel_rfl) (by kernel_rfl) (by kernel_rfl) (by kernel_rfl) hSW ?_
          simp only [Act.put, List.setIfInBounds_toArray, List.set_cons_succ, List.set_cons_zero]
          refine h_skip 7 rfl (by kernel_rfl) (by kernel_rfl) (by kernel_rfl) (by kernel_rfl) hSW ?_
          simp only [Act.put, List.setIfInBounds_toArray, List.set_cons_succ, List.set_cons_zero]
          refine h_skip 8 rfl (by kernel_rfl) (by kernel_rfl) (by kernel_rfl) (by kernel_rfl) hSW ?_
          simp only [Act.put, List.setIfInBounds_toArray, List.set_cons_succ, List.set_cons_zero]
          refine h_skip 9 rfl (by kernel_rfl) (by kernel_rfl) (by kernel_rfl) (by kernel_rfl) hSW ?_
          simp only [Act.put, List.setIfInBounds_toArray, List.set_cons_succ, List.set_cons_zero]
          refine h_skip 10 rfl (by kernel_rfl) (by kernel_rfl) (by kernel_rfl) (by kernel_rfl) hSW ?_
          simp only [Act.put, List.setIfInBounds_toArray, List.set_cons_succ, List.set_cons_zero]
          refine h_skip 11 rfl (by kernel_rfl) (by kernel_rfl) (by kernel_rfl) (by kernel_rfl) hSW ?_
          simp only [Act.put, List.setIfInBounds_toArray, List.set_cons_succ, List.set_cons_zero]
          refine h_skip 12 rfl (by kernel_rfl) (by kernel_rfl) (by kernel_rfl) (by kernel_rfl) hSW ?_
          simp only [Act.put, List.setIfInBounds_toArray, List.set_cons_succ, List.set_cons_zero]
          refine h_skip 13 rfl (by kernel_rfl) (by kernel_rfl) (by kernel_rfl) (by kernel_rfl) hSW ?_
          simp only [Act.put, List.setIfInBounds_toArray, List.set_cons_succ, List.set_cons_zero]
          refine h_skip 14 rfl (by kernel_rfl) (by kernel_rfl) (by kernel_rfl) (by kernel_rfl) hSW ?_
          simp only [Act.put, List.setIfInBounds_toArray, List.set_cons_succ, List.set_cons_zero]
          refine h_take 15 (.bool false) rfl (by kernel_rfl) (by kernel_rfl) (by kernel_rfl) rfl (fun w hw => x_pick _ _ _ _ _ _ _ _ _ false undef (.bool false) rfl rfl rfl w) hSW ?_
          simp only [Act.put, List.setIfInBounds_toArray, List.set_cons_succ, List.set_cons_zero]
          refine wpAnyH_done (by kernel_rfl) ?_ _
          refine NoPanic.normal ?_
          have HLX := hide HL2.out
          obtain ⟨WX, hWX⟩ : ∃ WX, WX = W2 := ⟨_, rfl⟩
          rw [← hWX] at HLX ⊢
          clear hWX hSW HSB HSG HL2
          obtain ⟨p1, p2, p3, p4⟩ := HPR.out
          have hcb := p3.cnt HOK.out
          obtain ⟨b1, b2, b3, b4⟩ := ls_bounds (l := ps.map Prod.snd) (by omega)
          have hca := then_any (ps.map Prod.snd) _ WX (HLX.out.row (by omega)) p2 b1 b2
          rw [HE1.out] at hca
          have HCA := hide hca
          clear hca p1 p2 p3 p4 hcb b1 b2 b3 b4 HOK HPR
          unfold PT
          go_wp2_with fail
          refine HCA.out.mono ?_
          rintro e w3 ⟨b, rfl, hrb, hb3⟩
          have HRB := hide hrb
          have HL3 := hide (HLX.out.step hb3)
          clear hrb hb3 HCA HLX
          unfold PT
          go_wp2
          go_ret
          refine ⟨b, rfl, HRB.out, ?_, HL3.out.aside⟩
          rw [← HE2.out]; exact HL3.out.rd
        | false =>
          obtain ⟨c, rr, hx⟩ : ∃ c rr, st1.skip.rest = c :: rr := by
            cases h : st1.skip.rest with
            | nil => have := HQ.out; rw [h] at this; cases this
            | cons c rr => exact ⟨c, rr, rfl⟩
          have HX := hide hx
          rw [hx] at hP
          simp only [] at hP
          obtain ⟨at1, hat⟩ : ∃ a, a = s.size - st1.skip.rest.length := ⟨_, rfl⟩
          obtain ⟨-, hcc, -⟩ := HL2.out.rd.next hx
          rw [← hat] at hcc
          have hc256 : c < 256 := bN_lt s c (List.mem_of_getElem? hcc)
          have hc0 : ∀ W, S' W → W.cell? ⟨p, 0, none⟩ = some (.string s) := fun W hW => (HL2.out.rd.keep (HSB.out W hW)).cells.1
          have hc1 : ∀ W, S' W → W.cell? ⟨p, 1, none⟩ = some (.int .i64 at1) := fun W hW => by rw [hat]; exact (HL2.out.rd.keep (HSB.out W hW)).cells.2.1
          have ews : bytesN ⟨#[124, 45, 38, 41]⟩ = [124, 45, 38, 41] := by decide +kernel
          obtain ⟨z, hz0⟩ : ∃ z, z = idxI [124, 45, 38, 41] c := ⟨_, rfl⟩
          have hqi : ∀ W, S' W → Calls Tryz.prog 38 #[.string ⟨#[124, 45, 38, 41]⟩, .int .u8 c] W fun e w' => e = .returned (.int .i64 z) ∧ S' w' := fun W hW => by
            rw [hz0, ← ews]; exact (indexByte_any _ c hc256 W).mono fun e w' ⟨h1, h2⟩ => ⟨h1, HSG.out W w' hW h2⟩
          have hzz : decide (z < 0) = !([124, 45, 38, 41].contains c) := by rw [hz0]; exact idxI_neg _ _
          clear ews hz0 hx hat
          cases hst : [124, 45, 38, 41].contains c with
          | true =>
            rw [hst] at hP hzz
            rw [if_pos rfl] at hP
            have hz : decide (z < 0) = false := hzz
            injection hP with hP
            injection hP with e1 e2
            have HE1 := hide e1
            have HE2 := hide e2
            clear e1 e2 hst hzz
            refine h_take 2 (.bool true) rfl (by kernel_rfl) (by kernel_rfl) (by kernel_rfl) rfl (fun w hw => x_notBool _ _ _ _ _ _ _ false rfl w) hSW ?_
            simp only [Act.put, List.setIfInBounds_toArray, List.set_cons_succ, List.set_cons_zero]
            refine h_take 3 (.bool true) rfl (by kernel_rfl) (by kernel_rfl) (by kernel_rfl) rfl (fun w hw => x_move _ _ _ _ _ _ _ _ rfl w) hSW ?_
            simp only [Act.put, List.setIfInBounds_toArray, List.set_cons_succ, List.set_cons_zero]
            refine h_take 4 (PT p) rfl (by kernel_rfl) (by kernel_rfl) (by kernel_rfl) rfl (fun w hw => x_move _ _ _ _ _ _ _ _ rfl w) hSW ?_
            simp only [Act.put, List.setIfInBounds_toArray, List.set_cons_succ, List.set_cons_zero]
            refine h_take 5 (PT p) rfl (by kernel_rfl) (by kernel_rfl) (by kernel_rfl) rfl (fun w hw => x_nilCheck _ _ _ _ _ _ _ _ rfl w) hSW ?_
            simp only [Act.put, List.setIfInBounds_toArray, List.set_cons_succ, List.set_cons_zero]
            refine h_take 6 (PT p) rfl (by kernel_rfl) (by kernel_rfl) (by kernel_rfl) rfl (fun w hw => x_fieldR0 _ _ _ _ _ _ _ p rfl w) hSW ?_
            simp only [Act.put, List.setIfInBounds_toArray, List.set_cons_succ, List.set_cons_zero]
            refine h_take 7 (.string s) rfl (by kernel_rfl) (by kernel_rfl) (by kernel_rfl) rfl (fun w hw => x_loadStr _ _ _ _ _ _ _ p 0 _ rfl w (hc0 w hw)) hSW ?_
            simp only [Act.put, List.setIfInBounds_toArray, List.set_cons_succ, List.set_cons_zero]
            refine h_take 8 (PT p) rfl (by kernel_rfl) (by kernel_rfl) (by kernel_rfl) rfl (fun w hw => x_move _ _ _ _ _ _ _ _ rfl w) hSW ?_
            simp only [Act.put, List.setIfInBounds_toArray, List.set_cons_succ, List.set_cons_zero]
            refine h_take 9 (PT p) rfl (by kernel_rfl) (by kernel_rfl) (by kernel_rfl) rfl (fun w hw => x_nilCheck _ _ _ _ _ _ _ _ rfl w) hSW ?_
            simp only [Act.put, List.setIfInBounds_toArray, List.set_cons_succ, List.set_cons_zero]
            refine h_take 10 (.pointer (some ⟨p, 1, none⟩)) rfl (by kernel_rfl) (by kernel_rfl) (by kernel_rfl) rfl (fun w hw => x_fieldR1 _ _ _ _ _ _ _ p rfl w) hSW ?_
            simp only [Act.put, List.setIfInBounds_toArray, List.set_cons_succ, List.set_cons_zero]
            refine h_take 11 (.int .i64 at1) rfl (by kernel_rfl) (by kernel_rfl) (by kernel_rfl) rfl (fun w hw => x_loadInt _ _ _ _ _ _ _ p 1 _ rfl w (hc1 w hw)) hSW ?_
            simp only [Act.put, List.setIfInBounds_toArray, List.set_cons_succ, List.set_cons_zero]
            refine h_take 12 (.int .u8 c) rfl (by kernel_rfl) (by kernel_rfl) (by kernel_rfl) rfl (fun w hw => x_strIdx _ _ _ _ _ _ _ _ s at1 c hcc rfl rfl w) hSW ?_
            simp only [Act.put, List.setIfInBounds_toArray, List.set_cons_succ, List.set_cons_zero]
            refine h_call 13 38 #[.string ⟨#[124, 45, 38, 41]⟩, .int .u8 c] (.int .i64 z) rfl (by kernel_rfl) rfl (x_call2 _ _ _ _ _ _ _ _ _ _ _ _ _ rfl rfl rfl (enters_of Tryz.func38 (by kernel_rfl) rfl) _) (hqi _ hSW) ?_
            intro W3 hSW
            simp only [Act.put, List.setIfInBounds_toArray, List.set_cons_succ, List.set_cons_zero]
            refine h_take 14 (.bool false) rfl (by kernel_rfl) (by kernel_rfl) (by kernel_rfl) rfl (fun w hw => x_lssB _ _ _ _ _ _ _ _ z 0 false hz rfl rfl w) hSW ?_
            simp only [Act.put, List.setIfInBounds_toArray, List.set_cons_succ, List.set_cons_zero]
            refine h_take 15 (.bool false) rfl (by kernel_rfl) (by kernel_rfl) (by kernel_rfl) rfl (fun w hw => x_pick _ _ _ _ _ _ _ _ _ true (.bool false) (.bool false) rfl rfl rfl w) hSW ?_
            simp only [Act.put, List.setIfInBounds_toArray, List.set_cons_succ, List.set_cons_zero]
            refine wpAnyH_done (by kernel_rfl) ?_ _
            refine NoPanic.normal ?_
            have HLX := hide (HL2.out.step (HSB.out _ hSW))
            obtain ⟨WX, hWX⟩ : ∃ WX, WX = W3 := ⟨_, rfl⟩
            rw [← hWX] at HLX ⊢
            clear hWX hSW HSB HSG HL2 hc0 hc1 hqi hcc hz
            obtain ⟨p1, p2, p3, p4⟩ := HPR.out
            have hcb := p3.cnt HOK.out
            obtain ⟨b1, b2, b3, b4⟩ := ls_bounds (l := ps.map Prod.snd) (by omega)
            have hca := then_any (ps.map Prod.snd) _ WX (HLX.out.row (by omega)) p2 b1 b2
            rw [HE1.out] at hca
            have HCA := hide hca
            clear hca p1 p2 p3 p4 hcb b1 b2 b3 b4 HOK HPR
            unfold PT
            go_wp2_with fail
            refine HCA.out.mono ?_
            rintro e w3 ⟨b, rfl, hrb, hb3⟩
            have HRB := hide hrb
            have HL3 := hide (HLX.out.step hb3)
            clear hrb hb3 HCA HLX
            unfold PT
            go_wp2
            go_ret
            refine ⟨b, rfl, HRB.out, ?_, HL3.out.aside⟩
            rw [← HE2.out]; exact HL3.out.rd
          | false =>
            rw [hst] at hP hzz
            rw [if_neg (by simp)] at hP
            have hz : decide (z < 0) = true := hzz
            clear hst hzz
            refine h_take 2 (.bool true) rfl (by kernel_rfl) (by kernel_rfl) (by kernel_rfl) rfl (fun w hw => x_notBool _ _ _ _ _ _ _ false rfl w) hSW ?_
            simp only [Act.put, List.setIfInBounds_toArray, List.set_cons_succ, List.set_cons_zero]
            refine h_take 3 (.bool true) rfl (by kernel_rfl) (by kernel_rfl) (by kernel_rfl) rfl (fun w hw => x_move _ _ _ _ _ _ _ _ rfl w) hSW ?_
            simp only [Act.put, List.setIfInBounds_toArray, List.set_cons_succ, List.set_cons_zero]
            refine h_take 4 (PT p) rfl (by kernel_rfl) (by kernel_rfl) (by kernel_rfl) rfl (fun w hw => x_move _ _ _ _ _ _ _ _ rfl w) hSW ?_
            simp only [Act.put, List.setIfInBounds_toArray, List.set_cons_succ, List.set_cons_zero]
            refine h_take 5 (PT p) rfl (by kernel_rfl) (by kernel_rfl) (by kernel_rfl) rfl (fun w hw => x_nilCheck _ _ _ _ _ _ _ _ rfl w) hSW ?_
            simp only [Act.put, List.setIfInBounds_toArray, List.set_cons_succ, List.set_cons_zero]
            refine h_take 6 (PT p) rfl (by kernel_rfl) (by kernel_rfl) (by kernel_rfl) rfl (fun w hw => x_fieldR0 _ _ _ _ _ _ _ p rfl w) hSW ?_
            simp only [Act.put, List.setIfInBounds_toArray, List.set_cons_succ, List.set_cons_zero]
            refine h_take 7 (.string s) rfl (by kernel_rfl) (by kernel_rfl) (by kernel_rfl) rfl (fun w hw => x_loadStr _ _ _ _ _ _ _ p 0 _ rfl w (hc0 w hw)) hSW ?_
            simp only [Act.put, List.setIfInBounds_toArray, List.set_cons_succ, List.set_cons_zero]
            refine h_take 8 (PT p) rfl (by kernel_rfl) (by kernel_rfl) (by kernel_rfl) rfl (fun w hw => x_move _ _ _ _ _ _ _ _ rfl w) hSW ?_
            simp only [Act.put, List.setIfInBounds_toArray, List.set_cons_succ, List.set_cons_zero]
            refine h_take 9 (PT p) rfl (by kernel_rfl) (by kernel_rfl) (by kernel_rfl) rfl (fun w hw => x_nilCheck _ _ _ _ _ _ _ _ rfl w) hSW ?_
            simp only [Act.put, List.setIfInBounds_toArray, List.set_cons_succ, List.set_cons_zero]
            refine h_take 10 (.pointer (some ⟨p, 1, none⟩)) rfl (by kernel_rfl) (by kernel_rfl) (by kernel_rfl) rfl (fun w hw => x_fieldR1 _ _ _ _ _ _ _ p rfl w) hSW ?_
            simp only [Act.put, List.setIfInBounds_toArray, List.set_cons_succ, List.set_cons_zero]
            refine h_take 11 (.int .i64 at1) rfl (by kernel_rfl) (by kernel_rfl) (by kernel_rfl) rfl (fun w hw => x_loadInt _ _ _ _ _ _ _ p 1 _ rfl w (hc1 w hw)) hSW ?_
            simp only [Act.put, List.setIfInBounds_toArray, List.set_cons_succ, List.set_cons_zero]
            refine h_take 12 (.int .u8 c) rfl (by kernel_rfl) (by kernel_rfl) (by kernel_rfl) rfl (fun w hw => x_strIdx _ _ _ _ _ _ _ _ s at1 c hcc rfl rfl w) hSW ?_
            simp only [Act.put, List.setIfInBounds_toArray, List.set_cons_succ, List.set_cons_zero]
            refine h_call 13 38 #[.string ⟨#[124, 45, 38, 41]⟩, .int .u8 c] (.int .i64 z) rfl (by kernel_rfl) rfl (x_call2 _ _ _ _ _ _ _ _ _ _ _ _ _ rfl rfl rfl (enters_of Tryz.func38 (by kernel_rfl) rfl) _) (hqi _ hSW) ?_
            intro W3 hSW
            simp only [Act.put, List.setIfInBounds_toArray, List.set_cons_succ, List.set_cons_zero]
            refine h_take 14 (.bool true) rfl (by kernel_rfl) (by kernel_rfl) (by kernel_rfl) rfl (fun w hw => x_lssB _ _ _ _ _ _ _ _ z 0 true hz rfl rfl w) hSW ?_
            simp only [Act.put, List.setIfInBounds_toArray, List.set_cons_succ, List.set_cons_zero]
            refine h_take 15 (.bool true) rfl (by kernel_rfl) (by kernel_rfl) (by kernel_rfl) rfl (fun w hw => x_pick _ _ _ _ _ _ _ _ _ true (.bool true) (.bool false) rfl rfl rfl w) hSW ?_
            simp only [Act.put, List.setIfInBounds_toArray, List.set_cons_succ, List.set_cons_zero]
            refine wpAnyH_done (by kernel_rfl) ?_ _
            refine NoPanic.normal ?_
            have HLX := hide (HL2.out.step (HSB.out _ hSW))
            obtain ⟨WX, hWX⟩ : ∃ WX, WX = W3 := ⟨_, rfl⟩
            rw [← hWX] at HLX ⊢
            clear hWX hSW HSB HSG HL2 hc0 hc1 hqi hcc hz
            obtain ⟨⟨q, s2⟩, h1, h2⟩ := Option.bind_eq_some_iff.1 hP
            have hs0 : st1.err = 0 := HOK.out.skip.err0 (by rw [HX.out]; simp)
            have hcp := (HOK.out.ok hs0).1
            have hpre : Pre st1.skip.cnt st1.skip .post := ⟨rfl, by show st1.cnt ≤ _; omega⟩
            have hc := HM.out k (by omega) p s _ q s2 WX HLX.out.rd HOK.out.skip hpre (HT.out.aside HR.out HLX.out.aside) h1
            have hi := P_inv s.size k .post _ _ q s2 h1 HOK.out.skip hpre
            have hb1 : Bd (q.cnt + 10) 0 st1.cnt s2 := hi.bd
            have HPR2 : Hid (Pre st.cnt s2 (.catL (ps.map Prod.snd ++ [q]))) := by
              obtain ⟨p1, p2, p3, p4⟩ := HPR.out
              refine ⟨by simp, fun x hx => ?_, Bd.snoc (x := 0) (y := 0) p3 hs0 hb1, ?_⟩
              · rcases List.mem_append.1 hx with hx | hx
                · exact p2 x hx
                · rw [List.mem_singleton] at hx; subst hx; exact hi.wf
              · have := hb1.lt (by omega)
                rw [List.length_append, List.length_singleton]; omega
            have HI := hide hi
            have HC := hide hc
            have H2 := hide h2
            clear hP h1 h2 hc hi hs0 hcp hpre hb1 HOK HPR
            unfold PT at HC ⊢
            go_wp2_with fail
            refine HC.out.mono ?_
            rintro e w3 ⟨b, rfl, hrb, hR3, hA3⟩
            have hl3 := HLX.out.read hR3 hA3
            have hb3 := (Below.refl w3.heap.size w3).alloc (Nat.le_refl _) (.cells #[PT b] 32)
            obtain ⟨v3, W4, hr3, hl4⟩ := (hl3.step hb3).append 63 w3.heap.size b q (Blk.newAt rfl _ _) (hrb.keep hb3) hpl
            have HL4 := hide hl4
            clear hrb hR3 hA3 hl3 hb3 hl4 HC HLX
            unfold PT at hr3
            go_wp2_with (refine wpList_append_run rfl _ _ _ rfl _ _ _ rfl rfl hr3 ?_)
            go_roundg k
            case measure => omega
            case rel => exact ⟨ps ++ [(b, q)], s2, HL4.out, HI.out.ok, by rw [List.map_append]; exact HPR2.out, by rw [List.map_append]; exact H2.out, by omega⟩

theorem rd_all (F : Nat) : RdC 85 .or F ∧ RdC 101 .minus F ∧ RdC 120 .and F ∧ RdC 128 .cat F ∧ RdC 130 .post F ∧ RdC 131 .atom F ∧ RdG F := by
  induction F with
  | zero => exact ⟨fun f hf => by omega, fun f hf => by omega, fun f hf => by omega, fun f hf => by omega, fun f hf => by omega, fun f hf => by omega, fun f hf => by omega⟩
  | succ F ih =>
    obtain ⟨h1, h2, h3, h4, h5, h6, h7⟩ := ih
    exact ⟨or_step F h2, minus_step F h3, and_step F h4, cat_step F h5, post_step F h6, atom_step F h7, group_step F h1⟩
end Go.Proofs.YtjlgepahgmkamaaGreatDoor
