/- Texts of this claim put together: TrH, TrI, TrJ, LawHead4, RdL, RunA, MathSame. -/
import Derived.Test.YtdbdjjjmomociaaGreatDoorJoinTrG
import Derived.Test.YtdbdjjjmomociaaGreatDoorJoinOpen
import Derived.Test.YtdbdjjjmomociaaGreatDoorJoinRdK
/- The reader: post. -/
namespace Go.Proofs.YtdbdjjjmomociaaGreatDoor
set_option maxRecDepth 100000
set_option linter.unusedSimpArgs false
set_option linter.unusedVariables false
open Go.RowKit

theorem post_next {n c0 : Nat} {st s1 : St} {x y : RE} (ho : Ok st) (hp : Pre c0 st (.postL x)) (o1 : Ok s1) (e1 : s1.cnt = st.cnt) (e2 : s1.err = st.err) (e3 : s1.deep = st.deep) (e4 : s1.rest.length + 1 ≤ st.rest.length)
    (wy : Wf y) (hy : y.cnt ≤ 2 + 2 * x.cnt ∨ y.cnt ≤ 3 + x.cnt) : Ok (St.sized n (y, s1)) ∧ Pre c0 (St.sized n (y, s1)) (.postL y) := by
  obtain ⟨hw, hb⟩ := hp
  have h0 : st.err = 0 := ho.err0 fun e => by rw [e] at e4; simp at e4
  obtain ⟨z1, z2, z3, z4, z5⟩ := sized_eq n y s1 o1.bad
  generalize St.sized n (y, s1) = s2 at *
  have hcc := ho.ok h0
  have kb := hb.1 h0
  have kc := hb.2.2
  exact ⟨⟨by rw [z1, e3]; exact ho.deep, fun e => by rw [z1, e3]; omega, z5, by omega⟩, wy, fun e => by have := (z4 e).2; omega, fun e => by omega, by omega⟩
theorem resRowTwo {W : World} {g b1 b2 : Nat} {r1 r2 : RE} (hg : Blk W g #[PT b1, PT b2] 23) (h1 : ReAt W b1 r1) (h2 : ReAt W b2 r2) : ResRow W (.slice (some ⟨g, 0, none⟩) 2 2) [r1, r2] := by
  refine ⟨fun i => if i = 0 then b1 else b2, ⟨⟨by simp, .mk (by omega)⟩, _, _, rfl, fun k hk => ⟨g, 0, rfl, hg.lt, ?_⟩⟩, fun i k hk => ?_⟩
  · rw [hg.cell, Nat.zero_add]
    match k, hk with
    | 0, _ => rfl
    | 1, _ => rfl
  · match i, hk with
    | 0, hk => simp at hk; subst hk; exact h1
    | 1, hk => simp at hk; subst hk; exact h2

theorem ls_bounds2 {l : List RE} (h : cntL l ≤ 1300000000) : l.length ≤ 1099511627776 ∧ (catL l).length ≤ 1099511627776 ∧ (flatL 4 l).length ≤ 1099511627776 ∧ (flatL 6 l).length ≤ 1099511627776 := by
  have a0 := cntL_len l
  have a1 := cntL_len (catL l); have a2 := cntL_catL l
  have b1 := cntL_len (flatL 4 l); have b2 := cntL_flatL 4 l
  have c1 := cntL_len (flatL 6 l); have c2 := cntL_flatL 6 l
  omega
set_option maxHeartbeats 2000000 in
theorem post_step (F : Nat) (hm : RdC 150 .atom F) : RdC 143 .post (F + 1) := by
  intro f hf p s st r st' w hR ho hp hT hP
  cases f with
  | zero => simp [St.P] at hP
  | succ g =>
    simp only [St.P] at hP
    obtain ⟨⟨q, s1⟩, h1, h2⟩ := Option.bind_eq_some_iff.1 hP
    have hc := hm g (by omega) p s st q s1 w hR ho hp hT h1
    have hi := P_inv s.size g .atom st.cnt st q s1 h1 ho hp
    have HI := hide hi
    have HC := hide hc
    have H2 := hide h2
    have HT := hide hT
    have HR := hide hR
    have hgF : g < F + 1 := by omega
    clear hP h1 h2 hc hi hT hR hm ho hf hp
    unfold PT at HC ⊢
    go_enter Tryz.func143, Tryz.ntmps143
    go_wp2_with fail
    refine HC.out.mono ?_
    rintro e w1 ⟨b, rfl, hrb, hR1, hA1⟩
    have HON : Hid (OnW w p s s1 b q w1) := ⟨hR1, hrb, hA1⟩
    clear hrb hR1 hA1 HC
    go_wp2
    go_loopg [3] g (fun k v wr => ∃ b x st1, v = .pointer (some ⟨b, 0, none⟩) ∧ Hid (OnW w p s st1 b x wr ∧ Ok st1 ∧ Pre st.cnt st1 (.postL x) ∧ St.P s.size k (.postL x) st1 = some (r, st') ∧ k ≤ g))
    case atStart => exact ⟨b, q, s1, rfl, HON.out, HI.out.ok, ⟨HI.out.wf, HI.out.bd⟩, H2.out, Nat.le_refl _⟩
    case round =>
      clear HON HI H2
      obtain ⟨b1, x, st1, rfl, hon, hok, hpr, hP, hkg⟩ := hrel
      cases gk with
      | zero => simp [St.P] at hP
      | succ k =>
        simp only [St.P] at hP
        have HON := hide hon
        have HOK := hide hok
        have HPR := hide hpr
        have HQ1 := hide (sign_eq 42 st1)
        have HQ2 := hide (sign_eq 43 (st1.sign 42))
        have HQ3 := hide (sign_eq 63 ((st1.sign 42).sign 43))
        have HN1 := hide (sign_len 42 st1)
        have HN2 := hide (sign_len 43 (st1.sign 42))
        have HK1 := hide (cnt_many x)
        clear hon hok hpr
        obtain ⟨z1, hz1⟩ : ∃ z1, z1 = (st1).signB 42 := ⟨_, rfl⟩
        have hsg := sign_any p 42 s (st1) wr HON.out.rd
        rw [← hz1] at hsg hP
        have HSG := hide hsg
        have Hz1 := hide hz1
        clear hsg hz1
        unfold PT at HSG
        go_wp2_with fail
        refine HSG.out.mono ?_
        rintro e w2 ⟨rfl, hR, hA⟩
        have HO2 := hide (HON.out.read hR hA)
        clear hR hA HSG
        cases z1 with
        | true =>
          rw [if_pos rfl] at hP
          have HK := hide hP
          have HNX : Hid (Ok (St.sized s.size (rMany x, st1.sign 42)) ∧ Pre st.cnt (St.sized s.size (rMany x, st1.sign 42)) (.postL (rMany x))) :=
            post_next HOK.out HPR.out (HOK.out.sign 42) HQ1.out.2.1 HQ1.out.2.2.1 HQ1.out.1 (sign_true Hz1.out.symm) (wf_many HPR.out.1) (.inr (by have := HK1.out; omega))
          have HCC : Hid ((st1.sign 42).cnt ≤ 1000000) := by show _ ≤ _; have := (HOK.out.sign 42).cnt; omega
          have HMN := hide (many_any b1 x w2 HO2.out.re)
          clear hP HOK HPR
          unfold PT at HMN
          go_wp2_with fail
          refine HMN.out.mono ?_
          rintro e w3 ⟨b2, rfl, hrb, hb3⟩
          have HY := hide ((HO2.out.step hb3).new hrb)
          clear hrb hb3 HMN HO2
          obtain ⟨y, hy⟩ : ∃ y, y = rMany x := ⟨_, rfl⟩
          rw [← hy] at HY HK HNX
          have HCT := hide (counted_any p s (st1.sign 42) w3 HY.out.rd HCC.out)
          clear hy
          unfold PT at HCT
          go_wp2_with fail
          refine HCT.out.mono ?_
          rintro e w8 ⟨rfl, hR, hA⟩
          have HY8 := hide (HY.out.read hR hA)
          clear hR hA HCT HY
          have HSZ := hide (size_any b2 y w8 HY8.out.re)
          obtain ⟨sz, hsz⟩ : ∃ sz, sz = y.size := ⟨_, rfl⟩
          rw [← hsz] at HSZ
          have hszl : sz ≤ 9223372036854775807 := by rw [hsz]; exact y.size_le
          unfold PT at HSZ
          go_wp2_with fail
          refine HSZ.out.mono ?_
          rintro e w9 ⟨rfl, rfl⟩
          clear HSZ
          by_cases hbig : 1000 < sz
          · have hd1 : decide ((1000 : Int) < sz) = true := by simp; omega
            have hd2 : decide (1000 < sz) = true := by simp [hbig]
            have HE : Hid (St.sized s.size (y, st1.sign 42) = (St.counted s.size (st1.sign 42)).fail 3 ((St.counted s.size (st1.sign 42)).pos s.size)) := by
              show _ = _
              unfold St.sized
              rw [if_pos (by rw [hsz] at hbig; exact hbig)]
            obtain ⟨at2, hat2⟩ : ∃ a, a = (St.counted s.size (st1.sign 42)).pos s.size := ⟨_, rfl⟩
            have g1 := HY8.out.rd.cells.2.1
            have ea : s.size - (St.counted s.size (st1.sign 42)).rest.length = at2 := hat2.symm
            rw [ea] at g1
            rw [← hat2] at HE
            have HF := hide (fail_any p 3 at2 s _ w9 HY8.out.rd)
            clear hat2 ea hbig hsz
            unfold PT at HF
            go_wp2_with fail
            refine HF.out.mono ?_
            rintro e w10 ⟨rfl, hR, hA⟩
            have HY9 := hide (HY8.out.read hR hA)
            rw [← HE.out] at HY9
            clear hR hA HF HY8 g1
            go_wp2
            go_roundg k
            case measure => omega
            case rel => exact ⟨b2, y, _, rfl, HY9.out, HNX.out.1, HNX.out.2, HK.out, by omega⟩
          · have hd1 : decide ((1000 : Int) < sz) = false := by simp; omega
            have hd2 : decide (1000 < sz) = false := by simp; omega
            have HE : Hid (St.sized s.size (y, st1.sign 42) = St.counted s.size (st1.sign 42)) := by
              show _ = _
              unfold St.sized
              rw [if_neg (by rw [hsz] at hbig; exact hbig)]
            have HY9 := HY8
            rw [← HE.out] at HY9
            clear hbig hsz HY8
            go_wp2
            go_roundg k
            case measure => omega
            case rel => exact ⟨b2, y, _, rfl, HY9.out, HNX.out.1, HNX.out.2, HK.out, by omega⟩
        | false =>
          rw [if_neg (by simp)] at hP
          obtain ⟨z2, hz2⟩ : ∃ z2, z2 = (st1.sign 42).signB 43 := ⟨_, rfl⟩
          have hsg := sign_any p 43 s (st1.sign 42) w2 HO2.out.rd
          rw [← hz2] at hsg hP
          have HSG := hide hsg
          have Hz2 := hide hz2
          clear hsg hz2
          unfold PT at HSG
          go_wp2_with fail
          refine HSG.out.mono ?_
          rintro e w3 ⟨rfl, hR, hA⟩
          have HO3 := hide (HO2.out.read hR hA)
          clear hR hA HSG
          cases z2 with
          | true =>
            rw [if_pos rfl] at hP
            have HK := hide hP
            have hk4 : cntL [x, rMany x] = x.cnt + (rMany x).cnt := by rw [cntL_cons]; simp [cntL]
            have hk2 := cnt_then [x, rMany x]
            have hwl : ∀ y ∈ [x, rMany x], Wf y := fun y hy => by
              simp at hy
              rcases hy with rfl | rfl
              · exact HPR.out.1
              · exact wf_many HPR.out.1
            have HNX : Hid (Ok (St.sized s.size (rThen [x, rMany x], (st1.sign 42).sign 43)) ∧ Pre st.cnt (St.sized s.size (rThen [x, rMany x], (st1.sign 42).sign 43)) (.postL (rThen [x, rMany x]))) :=
              post_next HOK.out HPR.out ((HOK.out.sign 42).sign 43) (by have h1 := HQ1.out.2.1; have h2 := HQ2.out.2.1; omega) (HQ2.out.2.2.1.trans HQ1.out.2.2.1) (by have h1 := HQ1.out.1; have h2 := HQ2.out.1; omega) (by have h1 := sign_true Hz2.out.symm; have h2 := HN1.out; omega) (wf_then hwl) (.inl (by have := HK1.out; omega))
            have HCC : Hid (((st1.sign 42).sign 43).cnt ≤ 1000000) := by show _ ≤ _; have := ((HOK.out.sign 42).sign 43).cnt; omega
            have HBD : Hid (cntL [x, rMany x] ≤ 1300000000) := by
              show _ ≤ _
              have h1 := HPR.out.2.cnt HOK.out
              have := HK1.out
              omega
            have HWL := hide hwl
            have HMN := hide (many_any b1 x w3 HO3.out.re)
            clear hP HOK HPR hk4 hk2 hwl
            unfold PT at HMN
            go_wp2_with fail
            refine HMN.out.mono ?_
            rintro e w4 ⟨b3, rfl, hrb, hb4⟩
            have hO4 := HO3.out.step hb4
            have hb5 := (Below.refl w4.heap.size w4).alloc (Nat.le_refl _) (.cells #[PT b1, PT b3] 23)
            obtain ⟨bd1, bd2, bd3, bd4⟩ := ls_bounds2 HBD.out
            have hth := then_any [x, rMany x] _ _ (resRowTwo (Blk.newAt rfl _ _) (hO4.re.keep hb5) (hrb.keep hb5)) HWL.out bd1 bd2
            have HTH := hide hth
            have HO5 := hide (hO4.step hb5)
            clear hrb hb4 hb5 hth hO4 HMN HO3 bd1 bd2 bd3 bd4
            unfold PT at HTH HO5
            go_wp2_with fail
            refine HTH.out.mono ?_
            rintro e w6 ⟨b2, rfl, hrb, hb6⟩
            have HY := hide ((HO5.out.step hb6).new hrb)
            clear hrb hb6 HTH HO5
            obtain ⟨y, hy⟩ : ∃ y, y = rThen [x, rMany x] := ⟨_, rfl⟩
            rw [← hy] at HY HK HNX
            have HCT := hide (counted_any p s ((st1.sign 42).sign 43) w6 HY.out.rd HCC.out)
            clear hy
            unfold PT at HCT
            go_wp2_with fail
            refine HCT.out.mono ?_
            rintro e w8 ⟨rfl, hR, hA⟩
            have HY8 := hide (HY.out.read hR hA)
            clear hR hA HCT HY
            have HSZ := hide (size_any b2 y w8 HY8.out.re)
            obtain ⟨sz, hsz⟩ : ∃ sz, sz = y.size := ⟨_, rfl⟩
            rw [← hsz] at HSZ
            have hszl : sz ≤ 9223372036854775807 := by rw [hsz]; exact y.size_le
            unfold PT at HSZ
            go_wp2_with fail
            refine HSZ.out.mono ?_
            rintro e w9 ⟨rfl, rfl⟩
            clear HSZ
            by_cases hbig : 1000 < sz
            · have hd1 : decide ((1000 : Int) < sz) = true := by simp; omega
              have hd2 : decide (1000 < sz) = true := by simp [hbig]
              have HE : Hid (St.sized s.size (y, (st1.sign 42).sign 43) = (St.counted s.size ((st1.sign 42).sign 43)).fail 3 ((St.counted s.size ((st1.sign 42).sign 43)).pos s.size)) := by
                show _ = _
                unfold St.sized
                rw [if_pos (by rw [hsz] at hbig; exact hbig)]
              obtain ⟨at2, hat2⟩ : ∃ a, a = (St.counted s.size ((st1.sign 42).sign 43)).pos s.size := ⟨_, rfl⟩
              have g1 := HY8.out.rd.cells.2.1
              have ea : s.size - (St.counted s.size ((st1.sign 42).sign 43)).rest.length = at2 := hat2.symm
              rw [ea] at g1
              rw [← hat2] at HE
              have HF := hide (fail_any p 3 at2 s _ w9 HY8.out.rd)
              clear hat2 ea hbig hsz
              unfold PT at HF
              go_wp2_with fail
              refine HF.out.mono ?_
              rintro e w10 ⟨rfl, hR, hA⟩
              have HY9 := hide (HY8.out.read hR hA)
              rw [← HE.out] at HY9
              clear hR hA HF HY8 g1
              go_wp2
              go_roundg k
              case measure => omega
              case rel => exact ⟨b2, y, _, rfl, HY9.out, HNX.out.1, HNX.out.2, HK.out, by omega⟩
            · have hd1 : decide ((1000 : Int) < sz) = false := by simp; omega
              have hd2 : decide (1000 < sz) = false := by simp; omega
              have HE : Hid (St.sized s.size (y, (st1.sign 42).sign 43) = St.counted s.size ((st1.sign 42).sign 43)) := by
                show _ = _
                unfold St.sized
                rw [if_neg (by rw [hsz] at hbig; exact hbig)]
              have HY9 := HY8
              rw [← HE.out] at HY9
              clear hbig hsz HY8
              go_wp2
              go_roundg k
              case measure => omega
              case rel => exact ⟨b2, y, _, rfl, HY9.out, HNX.out.1, HNX.out.2, HK.out, by omega⟩
          | false =>
            rw [if_neg (by simp)] at hP
            obtain ⟨z3, hz3⟩ : ∃ z3, z3 = ((st1.sign 42).sign 43).signB 63 := ⟨_, rfl⟩
            have hsg := sign_any p 63 s ((st1.sign 42).sign 43) w3 HO3.out.rd
            rw [← hz3] at hsg hP
            have HSG := hide hsg
            have Hz3 := hide hz3
            clear hsg hz3
            unfold PT at HSG
            go_wp2_with fail
            refine HSG.out.mono ?_
            rintro e w4 ⟨rfl, hR, hA⟩
            have HO4 := hide (HO3.out.read hR hA)
            clear hR hA HSG
            cases z3 with
            | true =>
              rw [if_pos rfl] at hP
              have HK := hide hP
              have hk5 : cntL [x, rEmpty] = x.cnt + 1 := by rw [cntL_cons, cntL_cons, cnt_empty]; rfl
              have hk3 := cnt_any [x, rEmpty]
              have hwl : ∀ y ∈ [x, rEmpty], Wf y := fun y hy => by
                simp at hy
                rcases hy with rfl | rfl
                · exact HPR.out.1
                · exact wf_empty
              have HNX : Hid (Ok (St.sized s.size (rAny [x, rEmpty], ((st1.sign 42).sign 43).sign 63)) ∧ Pre st.cnt (St.sized s.size (rAny [x, rEmpty], ((st1.sign 42).sign 43).sign 63)) (.postL (rAny [x, rEmpty]))) :=
                post_next HOK.out HPR.out (((HOK.out.sign 42).sign 43).sign 63) (by have h1 := HQ1.out.2.1; have h2 := HQ2.out.2.1; have h3 := HQ3.out.2.1; omega) (HQ3.out.2.2.1.trans (HQ2.out.2.2.1.trans HQ1.out.2.2.1)) (by have h1 := HQ1.out.1; have h2 := HQ2.out.1; have h3 := HQ3.out.1; omega) (by have h1 := sign_true Hz3.out.symm; have h2 := HN1.out; have h3 := HN2.out; omega) (wf_any hwl) (.inr (by omega))
              have HCC : Hid ((((st1.sign 42).sign 43).sign 63).cnt ≤ 1000000) := by show _ ≤ _; have := (((HOK.out.sign 42).sign 43).sign 63).cnt; omega
              have HBD : Hid (cntL [x, rEmpty] ≤ 1300000000) := by
                show _ ≤ _
                have h1 := HPR.out.2.cnt HOK.out
                omega
              have HWL := hide hwl
              have HEM := hide (empty_re w4)
              clear hP HOK HPR hk5 hk3 hwl
              go_wp2_with fail
              refine HEM.out.mono ?_
              rintro e w5 ⟨b3, rfl, hrb, hb5⟩
              have hO5 := HO4.out.step hb5
              have hb6 := (Below.refl w5.heap.size w5).alloc (Nat.le_refl _) (.cells #[PT b1, PT b3] 23)
              obtain ⟨bd1, bd2, bd3, bd4⟩ := ls_bounds2 HBD.out
              have hO6 := hO5.step hb6
              have hth := any_re [x, rEmpty] _ _ (resRowTwo (Blk.newAt rfl _ _) (hO5.re.keep hb6) (hrb.keep hb6)) HWL.out bd1 bd3 (HT.out.aside HR.out hO6.aside)
              have HTH := hide hth
              have HO6 := hide hO6
              clear hrb hb5 hb6 hth hO5 hO6 HEM HO4 bd1 bd2 bd3 bd4
              unfold PT at HTH HO6 ⊢
              go_wp2_with fail
              refine HTH.out.mono ?_
              rintro e w7 ⟨b2, rfl, hrb, hb7⟩
              have HY := hide ((HO6.out.step hb7).new hrb)
              clear hrb hb7 HTH HO6
              obtain ⟨y, hy⟩ : ∃ y, y = rAny [x, rEmpty] := ⟨_, rfl⟩
              rw [← hy] at HY HK HNX
              have HCT := hide (counted_any p s (((st1.sign 42).sign 43).sign 63) w7 HY.out.rd HCC.out)
              clear hy
              unfold PT at HCT
              go_wp2_with fail
              refine HCT.out.mono ?_
              rintro e w8 ⟨rfl, hR, hA⟩
              have HY8 := hide (HY.out.read hR hA)
              clear hR hA HCT HY
              have HSZ := hide (size_any b2 y w8 HY8.out.re)
              obtain ⟨sz, hsz⟩ : ∃ sz, sz = y.size := ⟨_, rfl⟩
              rw [← hsz] at HSZ
              have hszl : sz ≤ 9223372036854775807 := by rw [hsz]; exact y.size_le
              unfold PT at HSZ
              go_wp2_with fail
              refine HSZ.out.mono ?_
              rintro e w9 ⟨rfl, rfl⟩
              clear HSZ
              by_cases hbig : 1000 < sz
              · have hd1 : decide ((1000 : Int) < sz) = true := by simp; omega
                have hd2 : decide (1000 < sz) = true := by simp [hbig]
                have HE : Hid (St.sized s.size (y, ((st1.sign 42).sign 43).sign 63) = (St.counted s.size (((st1.sign 42).sign 43).sign 63)).fail 3 ((St.counted s.size (((st1.sign 42).sign 43).sign 63)).pos s.size)) := by
                  show _ = _
                  unfold St.sized
                  rw [if_pos (by rw [hsz] at hbig; exact hbig)]
                obtain ⟨at2, hat2⟩ : ∃ a, a = (St.counted s.size (((st1.sign 42).sign 43).sign 63)).pos s.size := ⟨_, rfl⟩
                have g1 := HY8.out.rd.cells.2.1
                have ea : s.size - (St.counted s.size (((st1.sign 42).sign 43).sign 63)).rest.length = at2 := hat2.symm
                rw [ea] at g1
                rw [← hat2] at HE
                have HF := hide (fail_any p 3 at2 s _ w9 HY8.out.rd)
                clear hat2 ea hbig hsz
                unfold PT at HF
                go_wp2_with fail
                refine HF.out.mono ?_
                rintro e w10 ⟨rfl, hR, hA⟩
                have HY9 := hide (HY8.out.read hR hA)
                rw [← HE.out] at HY9
                clear hR hA HF HY8 g1
                go_wp2
                go_roundg k
                case measure => omega
                case rel => exact ⟨b2, y, _, rfl, HY9.out, HNX.out.1, HNX.out.2, HK.out, by omega⟩
              · have hd1 : decide ((1000 : Int) < sz) = false := by simp; omega
                have hd2 : decide (1000 < sz) = false := by simp; omega
                have HE : Hid (St.sized s.size (y, ((st1.sign 42).sign 43).sign 63) = St.counted s.size (((st1.sign 42).sign 43).sign 63)) := by
                  show _ = _
                  unfold St.sized
                  rw [if_neg (by rw [hsz] at hbig; exact hbig)]
                have HY9 := HY8
                rw [← HE.out] at HY9
                clear hbig hsz HY8
                go_wp2
                go_roundg k
                case measure => omega
                case rel => exact ⟨b2, y, _, rfl, HY9.out, HNX.out.1, HNX.out.2, HK.out, by omega⟩
            | false =>
              rw [if_neg (by simp)] at hP
              injection hP with hP
              injection hP with e1 e2
              have HE1 := hide e1
              have HE2 := hide e2
              clear e1 e2 HOK HPR
              go_wp2
              go_ret
              refine ⟨b1, rfl, ?_, ?_, HO4.out.aside⟩
              · rw [← HE1.out]; exact HO4.out.re
              · rw [← HE2.out]; exact HO4.out.rd
end Go.Proofs.YtdbdjjjmomociaaGreatDoor
/- The reader: cat; all of them. -/
namespace Go.Proofs.YtdbdjjjmomociaaGreatDoor
set_option maxRecDepth 100000
set_option linter.unusedSimpArgs false
set_option linter.unusedVariables false
open Go.RowKit

section
variable {ops : Array Oper} {S S' : World → Prop} {Q : Exit → Act → World → Prop} {fuel : Nat} {listed : Array Bool} {a : Act} {w : World} {oi : Oper} {rest : List Oper}
theorem h_skip (i : Nat) (hi : ops.toList.drop i = oi :: rest) (hs : Region.noSelect ops = true) (hf : Region.free .any ops listed i = true) (hr : (Region.ready .any ops listed).contains i = true)
    (hw : Region.wanted oi (yielded ops a.tmps) = false) (hS : S w)
    (h : wpAnyH Tryz.prog .any ops (NoPanic Q) S fuel (listed.setIfInBounds i true) (a.put oi.dst undef) w) : wpAnyH Tryz.prog .any ops (NoPanic Q) S (fuel + 1) listed a w :=
  wpAnyH_take (at_drop hi) hs hf hr (fun _ _ _ h => (h : False).elim) (.inr ⟨hw, rfl⟩) hS h
theorem wpAnyH_weaken (hS : ∀ w, S' w → S w) : ∀ (fuel : Nat) (listed : Array Bool) (a : Act) (w : World), wpAnyH Tryz.prog .any ops Q S' fuel listed a w → wpAnyH Tryz.prog .any ops Q S fuel listed a w
  | 0, _, _, _, h => h
  | fuel + 1, _, _, _, h => ⟨h.1, fun i hi => wpOp_mono (fun a' w' h' => ⟨hS w' h'.1, wpAnyH_weaken hS fuel _ a' w' h'.2⟩) (h.2 i hi)⟩
end

set_option maxHeartbeats 4000000 in
theorem cat_step (F : Nat) (hm : RdC 143 .post F) : RdC 123 .cat (F + 1) := by
  intro f hf p s st r st' w hR ho hp hT hP
  cases f with
  | zero => simp [St.P] at hP
  | succ g =>
    simp only [St.P] at hP
    obtain ⟨⟨q, s1⟩, h1, h2⟩ := Option.bind_eq_some_iff.1 hP
    have hc := hm g (by omega) p s st q s1 w hR ho hp hT h1
    have hi := P_inv s.size g .post st.cnt st q s1 h1 ho hp
    have HI := hide hi
    have HC := hide hc
    have H2 := hide h2
    have HT := hide hT
    have HR := hide hR
    have HM := hide hm
    have HPL := hide hR.blk.lt
    have hgF : g < F + 1 := by omega
    clear hP h1 h2 hc hi hT hR hm ho hf hp
    unfold PT at HC ⊢
    go_enter Tryz.func123, Tryz.ntmps123
    go_wp2_with fail
    refine HC.out.mono ?_
    rintro e w1 ⟨b, rfl, hrb, hR1, hA1⟩
    have hls := LsW.one hR1 hA1 hrb HPL.out
    have HLS := hide hls
    clear hrb hR1 hA1 hls HC
    unfold PT at HLS
    go_wp2
    go_loopg [3] g (fun k v wr => Hid (∃ ps st1, LsW w p s st1 v ps wr ∧ Ok st1 ∧ Pre st.cnt st1 (.catL (ps.map Prod.snd)) ∧ St.P s.size k (.catL (ps.map Prod.snd)) st1 = some (r, st') ∧ k ≤ g))
    case atStart => exact ⟨[(b, q)], s1, HLS.out, HI.out.ok, ⟨by simp, fun x hx => by simp at hx; subst hx; exact HI.out.wf, HI.out.bd.one, by have := HI.out.bd.lt (by simp only [offM]; omega); simp; omega⟩, H2.out, Nat.le_refl _⟩
    case round =>
      clear HLS HI H2
      obtain ⟨ps, st1, hls, hok, hpr, hP, hkg⟩ := hrel
      cases gk with
      | zero => simp [St.P] at hP
      | succ k =>
        simp only [St.P] at hP
        obtain ⟨g3, cap3, hv3⟩ := hls.own.slice
        subst hv3
        have hen := end_any p s st1 { wr with drawn := wr.drawn + 1 } (hls.rd.keep ⟨rfl, rfl, rfl, Nat.le_refl _, fun _ _ => rfl⟩)
        have hl1 := hls.step (⟨rfl, rfl, rfl, Nat.le_refl _, fun _ _ => rfl⟩ : Below wr.heap.size wr { wr with drawn := wr.drawn + 1 })
        obtain ⟨q, hq⟩ : ∃ q, q = st1.skip.rest.isEmpty := ⟨_, rfl⟩
        rw [← hq] at hen
        have HEN := hide hen
        have HL1 := hide hl1
        have HOK := hide hok
        have HPR := hide hpr
        have HQ := hide hq
        have hpl : ps.length ≤ 1000000 := by
          have h1 := hpr.2.2.2
          have h2 := hok.cnt
          simp at h1; omega
        clear hen hls hok hpr hq hl1
        go_wp2
        rw [show Value.pointer (some ⟨p, 0, none⟩) = PT p from rfl]
        refine wp_region_noPanic (wp_region_held (S := fun _ => True) (by kernel_rfl) ?_)
        show wpAnyH _ _ _ _ _ 16 #[false, false, false, false, false, false, false, false, false, false, false, false, false, false, false, false] _ _
        generalize ({ wr with drawn := wr.drawn + 1 } : World) = W1 at HEN HL1 ⊢
        refine h_take 0 (PT p) rfl (by kernel_rfl) (by kernel_rfl) (by kernel_rfl) rfl (fun w hw => x_move _ _ _ _ _ _ _ _ rfl w) trivial ?_
        simp only [Act.put, List.setIfInBounds_toArray, List.set_cons_succ, List.set_cons_zero]
        refine h_callE 1 36 #[PT p] (fun v w' => v = .bool q ∧ RdAt w' p s st1.skip ∧ Aside p W1 w') rfl (by kernel_rfl) rfl (x_call1 _ _ _ _ _ _ _ _ _ _ rfl rfl (enters_of Tryz.func36 (by kernel_rfl) rfl) _) (HEN.out.mono fun e w' h => ⟨_, h.1, rfl, h.2⟩) (fun v w' h => trivial) ?_
        rintro v2 W2 ⟨rfl, hR2, hA2⟩
        simp only [Act.put, List.setIfInBounds_toArray, List.set_cons_succ, List.set_cons_zero]
        have HL2 := hide (HL1.out.read hR2 hA2)
        clear hR2 hA2 HEN HL1
        obtain ⟨S', hS'⟩ : ∃ S' : World → Prop, S' = fun W => Below W2.heap.size W2 W := ⟨_, rfl⟩
        refine wpAnyH_weaken (S' := S') (fun _ _ => trivial) _ _ _ _ ?_
        have hSW : S' W2 := by rw [hS']; exact Below.refl _ _
        have HSB : Hid (∀ W, S' W → Below W2.heap.size W2 W) := fun W h => by rw [hS'] at h; exact h
        have HSG : Hid (∀ W W', S' W → W' = W → S' W') := fun W W' h e => e ▸ h
        clear hS'
        cases q with
        | true =>
          have HX : Hid (st1.skip.rest = []) := by show _ = _; simpa using HQ.out.symm
          have hP : some (rThen (ps.map Prod.snd), st1.skip) = some (r, st') := by
            have := hP
            rw [HX.out] at this
            exact this
          injection hP with hP
          injection hP with e1 e2
          have HE1 := hide e1
          have HE2 := hide e2
          clear e1 e2
          refine h_take 2 (.bool false) rfl (by kernel_rfl) (by kernel_rfl) (by kernel_rfl) rfl (fun w hw => x_notBool _ _ _ _ _ _ _ true rfl w) hSW ?_
          simp only [Act.put, List.setIfInBounds_toArray, List.set_cons_succ, List.set_cons_zero]
          refine h_take 3 (.bool false) rfl (by kernel_rfl) (by kernel_rfl) (by kernel_rfl) rfl (fun w hw => x_move _ _ _ _ _ _ _ _ rfl w) hSW ?_
          simp only [Act.put, List.setIfInBounds_toArray, List.set_cons_succ, List.set_cons_zero]
          refine h_skip 4 rfl (by kernel_rfl) (by kernel_rfl) (by kernel_rfl) (by kernel_rfl) hSW ?_
          simp only [Act.put, List.setIfInBounds_toArray, List.set_cons_succ, List.set_cons_zero]
          refine h_skip 5 rfl (by kernel_rfl) (by kernel_rfl) (by kernel_rfl) (by kernel_rfl) hSW ?_
          simp only [Act.put, List.setIfInBounds_toArray, List.set_cons_succ, List.set_cons_zero]
          refine h_skip 6 rfl (by kernel_rfl) (by kernel_rfl) (by kernel_rfl) (by kernel_rfl) hSW ?_
          simp only [Act.put, List.setIfInBounds_toArray, List.set_cons_succ, List.set_cons_zero]
          refine h_skip 7 rfl (by kernel_rfl) (by kernel_rfl) (by kernel_rfl) (by kernel_rfl) hSW ?_
          simp only [Act.put, List.setIfInBounds_toArray, List.set_cons_succ, List.set_cons_zero]
          refine h_skip 8 rfl (by kernel_rfl) (by kernel_rfl) (by kernel_rfl) (by kernel_rfl) hSW ?_
          simp only [Act.put, List.setIfInBounds_toArray, List.set_cons_succ, List.set_cons_zero]
          refine h_skip 9 rfl (by kernel_rfl) (by kernel_rfl) (by kernel_rfl) (by kernel_rfl) hSW ?_
          simp only [Act.put, List.setIfInBounds_toArray, List.set_cons_succ, List.set_cons_zero]
          refine h_skip 10 rfl (by kernel_rfl) (by kernel_rfl) (by kernel_rfl) (by kernel_rfl) hSW ?_
          simp only [Act.put, List.setIfInBounds_toArray, List.set_cons_succ, List.set_cons_zero]
          refine h_skip 11 rfl (by kernel_rfl) (by kernel_rfl) (by kernel_rfl) (by kernel_rfl) hSW ?_
          simp only [Act.put, List.setIfInBounds_toArray, List.set_cons_succ, List.set_cons_zero]
          refine h_skip 12 rfl (by kernel_rfl) (by kernel_rfl) (by kernel_rfl) (by kernel_rfl) hSW ?_
          simp only [Act.put, List.setIfInBounds_toArray, List.set_cons_succ, List.set_cons_zero]
          refine h_skip 13 rfl (by kernel_rfl) (by kernel_rfl) (by kernel_rfl) (by kernel_rfl) hSW ?_
          simp only [Act.put, List.setIfInBounds_toArray, List.set_cons_succ, List.set_cons_zero]
          refine h_skip 14 rfl (by kernel_rfl) (by kernel_rfl) (by kernel_rfl) (by kernel_rfl) hSW ?_
          simp only [Act.put, List.setIfInBounds_toArray, List.set_cons_succ, List.set_cons_zero]
          refine h_take 15 (.bool false) rfl (by kernel_rfl) (by kernel_rfl) (by kernel_rfl) rfl (fun w hw => x_pick _ _ _ _ _ _ _ _ _ false undef (.bool false) rfl rfl rfl w) hSW ?_
          simp only [Act.put, List.setIfInBounds_toArray, List.set_cons_succ, List.set_cons_zero]
          refine wpAnyH_done (by kernel_rfl) ?_ _
          refine NoPanic.normal ?_
          have HLX := hide HL2.out
          obtain ⟨WX, hWX⟩ : ∃ WX, WX = W2 := ⟨_, rfl⟩
          rw [← hWX] at HLX ⊢
          clear hWX hSW HSB HSG HL2
          obtain ⟨p1, p2, p3, p4⟩ := HPR.out
          have hcb := p3.cnt HOK.out
          obtain ⟨b1, b2, b3, b4⟩ := ls_bounds (l := ps.map Prod.snd) (by omega)
          have hca := then_any (ps.map Prod.snd) _ WX (HLX.out.row (by omega)) p2 b1 b2
          rw [HE1.out] at hca
          have HCA := hide hca
          clear hca p1 p2 p3 p4 hcb b1 b2 b3 b4 HOK HPR
          unfold PT
          go_wp2_with fail
          refine HCA.out.mono ?_
          rintro e w3 ⟨b, rfl, hrb, hb3⟩
          have HRB := hide hrb
          have HL3 := hide (HLX.out.step hb3)
          clear hrb hb3 HCA HLX
          unfold PT
          go_wp2
          go_ret
          refine ⟨b, rfl, HRB.out, ?_, HL3.out.aside⟩
          rw [← HE2.out]; exact HL3.out.rd
        | false =>
          obtain ⟨c, rr, hx⟩ : ∃ c rr, st1.skip.rest = c :: rr := by
            cases h : st1.skip.rest with
            | nil => have := HQ.out; rw [h] at this; cases this
            | cons c rr => exact ⟨c, rr, rfl⟩
          have HX := hide hx
          rw [hx] at hP
          simp only [] at hP
          obtain ⟨at1, hat⟩ : ∃ a, a = s.size - st1.skip.rest.length := ⟨_, rfl⟩
          obtain ⟨-, hcc, -⟩ := HL2.out.rd.next hx
          rw [← hat] at hcc
          have hc256 : c < 256 := bN_lt s c (List.mem_of_getElem? hcc)
          have hc0 : ∀ W, S' W → W.cell? ⟨p, 0, none⟩ = some (.string s) := fun W hW => (HL2.out.rd.keep (HSB.out W hW)).cells.1
          have hc1 : ∀ W, S' W → W.cell? ⟨p, 1, none⟩ = some (.int .i64 at1) := fun W hW => by rw [hat]; exact (HL2.out.rd.keep (HSB.out W hW)).cells.2.1
          have ews : bytesN ⟨#[124, 45, 38, 41]⟩ = [124, 45, 38, 41] := by decide +kernel
          obtain ⟨z, hz0⟩ : ∃ z, z = idxI [124, 45, 38, 41] c := ⟨_, rfl⟩
          have hqi : ∀ W, S' W → Calls Tryz.prog 73 #[.string ⟨#[124, 45, 38, 41]⟩, .int .u8 c] W fun e w' => e = .returned (.int .i64 z) ∧ S' w' := fun W hW => by
            rw [hz0, ← ews]; exact (indexByte_any _ c hc256 W).mono fun e w' ⟨h1, h2⟩ => ⟨h1, HSG.out W w' hW h2⟩
          have hzz : decide (z < 0) = !([124, 45, 38, 41].contains c) := by rw [hz0]; exact idxI_neg _ _
          clear ews hz0 hx hat
          cases hst : [124, 45, 38, 41].contains c with
          | true =>
            rw [hst] at hP hzz
            rw [if_pos rfl] at hP
            have hz : decide (z < 0) = false := hzz
            injection hP with hP
            injection hP with e1 e2
            have HE1 := hide e1
            have HE2 := hide e2
            clear e1 e2 hst hzz
            refine h_take 2 (.bool true) rfl (by kernel_rfl) (by kernel_rfl) (by kernel_rfl) rfl (fun w hw => x_notBool _ _ _ _ _ _ _ false rfl w) hSW ?_
            simp only [Act.put, List.setIfInBounds_toArray, List.set_cons_succ, List.set_cons_zero]
            refine h_take 3 (.bool true) rfl (by kernel_rfl) (by kernel_rfl) (by kernel_rfl) rfl (fun w hw => x_move _ _ _ _ _ _ _ _ rfl w) hSW ?_
            simp only [Act.put, List.setIfInBounds_toArray, List.set_cons_succ, List.set_cons_zero]
            refine h_take 4 (PT p) rfl (by kernel_rfl) (by kernel_rfl) (by kernel_rfl) rfl (fun w hw => x_move _ _ _ _ _ _ _ _ rfl w) hSW ?_
            simp only [Act.put, List.setIfInBounds_toArray, List.set_cons_succ, List.set_cons_zero]
            refine h_take 5 (PT p) rfl (by kernel_rfl) (by kernel_rfl) (by kernel_rfl) rfl (fun w hw => x_nilCheck _ _ _ _ _ _ _ _ rfl w) hSW ?_
            simp only [Act.put, List.setIfInBounds_toArray, List.set_cons_succ, List.set_cons_zero]
            refine h_take 6 (PT p) rfl (by kernel_rfl) (by kernel_rfl) (by kernel_rfl) rfl (fun w hw => x_fieldR0 _ _ _ _ _ _ _ p rfl w) hSW ?_
            simp only [Act.put, List.setIfInBounds_toArray, List.set_cons_succ, List.set_cons_zero]
            refine h_take 7 (.string s) rfl (by kernel_rfl) (by kernel_rfl) (by kernel_rfl) rfl (fun w hw => x_loadStr _ _ _ _ _ _ _ p 0 _ rfl w (hc0 w hw)) hSW ?_
            simp only [Act.put, List.setIfInBounds_toArray, List.set_cons_succ, List.set_cons_zero]
            refine h_take 8 (PT p) rfl (by kernel_rfl) (by kernel_rfl) (by kernel_rfl) rfl (fun w hw => x_move _ _ _ _ _ _ _ _ rfl w) hSW ?_
            simp only [Act.put, List.setIfInBounds_toArray, List.set_cons_succ, List.set_cons_zero]
            refine h_take 9 (PT p) rfl (by kernel_rfl) (by kernel_rfl) (by kernel_rfl) rfl (fun w hw => x_nilCheck _ _ _ _ _ _ _ _ rfl w) hSW ?_
            simp only [Act.put, List.setIfInBounds_toArray, List.set_cons_succ, List.set_cons_zero]
            refine h_take 10 (.pointer (some ⟨p, 1, none⟩)) rfl (by kernel_rfl) (by kernel_rfl) (by kernel_rfl) rfl (fun w hw => x_fieldR1 _ _ _ _ _ _ _ p rfl w) hSW ?_
            simp only [Act.put, List.setIfInBounds_toArray, List.set_cons_succ, List.set_cons_zero]
            refine h_take 11 (.int .i64 at1) rfl (by kernel_rfl) (by kernel_rfl) (by kernel_rfl) rfl (fun w hw => x_loadInt _ _ _ _ _ _ _ p 1 _ rfl w (hc1 w hw)) hSW ?_
            simp only [Act.put, List.setIfInBounds_toArray, List.set_cons_succ, List.set_cons_zero]
            refine h_take 12 (.int .u8 c) rfl (by kernel_rfl) (by kernel_rfl) (by kernel_rfl) rfl (fun w hw => x_strIdx _ _ _ _ _ _ _ _ s at1 c hcc rfl rfl w) hSW ?_
            simp only [Act.put, List.setIfInBounds_toArray, List.set_cons_succ, List.set_cons_zero]
            refine h_call 13 73 #[.string ⟨#[124, 45, 38, 41]⟩, .int .u8 c] (.int .i64 z) rfl (by kernel_rfl) rfl (x_call2 _ _ _ _ _ _ _ _ _ _ _ _ _ rfl rfl rfl (enters_of Tryz.func73 (by kernel_rfl) rfl) _) (hqi _ hSW) ?_
            intro W3 hSW
            simp only [Act.put, List.setIfInBounds_toArray, List.set_cons_succ, List.set_cons_zero]
            refine h_take 14 (.bool false) rfl (by kernel_rfl) (by kernel_rfl) (by kernel_rfl) rfl (fun w hw => x_lssB _ _ _ _ _ _ _ _ z 0 false hz rfl rfl w) hSW ?_
            simp only [Act.put, List.setIfInBounds_toArray, List.set_cons_succ, List.set_cons_zero]
            refine h_take 15 (.bool false) rfl (by kernel_rfl) (by kernel_rfl) (by kernel_rfl) rfl (fun w hw => x_pick _ _ _ _ _ _ _ _ _ true (.bool false) (.bool false) rfl rfl rfl w) hSW ?_
            simp only [Act.put, List.setIfInBounds_toArray, List.set_cons_succ, List.set_cons_zero]
            refine wpAnyH_done (by kernel_rfl) ?_ _
            refine NoPanic.normal ?_
            have HLX := hide (HL2.out.step (HSB.out _ hSW))
            obtain ⟨WX, hWX⟩ : ∃ WX, WX = W3 := ⟨_, rfl⟩
            rw [← hWX] at HLX ⊢
            clear hWX hSW HSB HSG HL2 hc0 hc1 hqi hcc hz
            obtain ⟨p1, p2, p3, p4⟩ := HPR.out
            have hcb := p3.cnt HOK.out
            obtain ⟨b1, b2, b3, b4⟩ := ls_bounds (l := ps.map Prod.snd) (by omega)
            have hca := then_any (ps.map Prod.snd) _ WX (HLX.out.row (by omega)) p2 b1 b2
            rw [HE1.out] at hca
            have HCA := hide hca
            clear hca p1 p2 p3 p4 hcb b1 b2 b3 b4 HOK HPR
            unfold PT
            go_wp2_with fail
            refine HCA.out.mono ?_
            rintro e w3 ⟨b, rfl, hrb, hb3⟩
            have HRB := hide hrb
            have HL3 := hide (HLX.out.step hb3)
            clear hrb hb3 HCA HLX
            unfold PT
            go_wp2
            go_ret
            refine ⟨b, rfl, HRB.out, ?_, HL3.out.aside⟩
            rw [← HE2.out]; exact HL3.out.rd
          | false =>
            rw [hst] at hP hzz
            rw [if_neg (by simp)] at hP
            have hz : decide (z < 0) = true := hzz
            clear hst hzz
            refine h_take 2 (.bool true) rfl (by kernel_rfl) (by kernel_rfl) (by kernel_rfl) rfl (fun w hw => x_notBool _ _ _ _ _ _ _ false rfl w) hSW ?_
            simp only [Act.put, List.setIfInBounds_toArray, List.set_cons_succ, List.set_cons_zero]
            refine h_take 3 (.bool true) rfl (by kernel_rfl) (by kernel_rfl) (by kernel_rfl) rfl (fun w hw => x_move _ _ _ _ _ _ _ _ rfl w) hSW ?_
            simp only [Act.put, List.setIfInBounds_toArray, List.set_cons_succ, List.set_cons_zero]
            refine h_take 4 (PT p) rfl (by kernel_rfl) (by kernel_rfl) (by kernel_rfl) rfl (fun w hw => x_move _ _ _ _ _ _ _ _ rfl w) hSW ?_
            simp only [Act.put, List.setIfInBounds_toArray, List.set_cons_succ, List.set_cons_zero]
            refine h_take 5 (PT p) rfl (by kernel_rfl) (by kernel_rfl) (by kernel_rfl) rfl (fun w hw => x_nilCheck _ _ _ _ _ _ _ _ rfl w) hSW ?_
            simp only [Act.put, List.setIfInBounds_toArray, List.set_cons_succ, List.set_cons_zero]
            refine h_take 6 (PT p) rfl (by kernel_rfl) (by kernel_rfl) (by kernel_rfl) rfl (fun w hw => x_fieldR0 _ _ _ _ _ _ _ p rfl w) hSW ?_
            simp only [Act.put, List.setIfInBounds_toArray, List.set_cons_succ, List.set_cons_zero]
            refine h_take 7 (.string s) rfl (by kernel_rfl) (by kernel_rfl) (by kernel_rfl) rfl (fun w hw => x_loadStr _ _ _ _ _ _ _ p 0 _ rfl w (hc0 w hw)) hSW ?_
            simp only [Act.put, List.setIfInBounds_toArray, List.set_cons_succ, List.set_cons_zero]
            refine h_take 8 (PT p) rfl (by kernel_rfl) (by kernel_rfl) (by kernel_rfl) rfl (fun w hw => x_move _ _ _ _ _ _ _ _ rfl w) hSW ?_
            simp only [Act.put, List.setIfInBounds_toArray, List.set_cons_succ, List.set_cons_zero]
            refine h_take 9 (PT p) rfl (by kernel_rfl) (by kernel_rfl) (by kernel_rfl) rfl (fun w hw => x_nilCheck _ _ _ _ _ _ _ _ rfl w) hSW ?_
            simp only [Act.put, List.setIfInBounds_toArray, List.set_cons_succ, List.set_cons_zero]
            refine h_take 10 (.pointer (some ⟨p, 1, none⟩)) rfl (by kernel_rfl) (by kernel_rfl) (by kernel_rfl) rfl (fun w hw => x_fieldR1 _ _ _ _ _ _ _ p rfl w) hSW ?_
            simp only [Act.put, List.setIfInBounds_toArray, List.set_cons_succ, List.set_cons_zero]
            refine h_take 11 (.int .i64 at1) rfl (by kernel_rfl) (by kernel_rfl) (by kernel_rfl) rfl (fun w hw => x_loadInt _ _ _ _ _ _ _ p 1 _ rfl w (hc1 w hw)) hSW ?_
            simp only [Act.put, List.setIfInBounds_toArray, List.set_cons_succ, List.set_cons_zero]
            refine h_take 12 (.int .u8 c) rfl (by kernel_rfl) (by kernel_rfl) (by kernel_rfl) rfl (fun w hw => x_strIdx _ _ _ _ _ _ _ _ s at1 c hcc rfl rfl w) hSW ?_
            simp only [Act.put, List.setIfInBounds_toArray, List.set_cons_succ, List.set_cons_zero]
            refine h_call 13 73 #[.string ⟨#[124, 45, 38, 41]⟩, .int .u8 c] (.int .i64 z) rfl (by kernel_rfl) rfl (x_call2 _ _ _ _ _ _ _ _ _ _ _ _ _ rfl rfl rfl (enters_of Tryz.func73 (by kernel_rfl) rfl) _) (hqi _ hSW) ?_
            intro W3 hSW
            simp only [Act.put, List.setIfInBounds_toArray, List.set_cons_succ, List.set_cons_zero]
            refine h_take 14 (.bool true) rfl (by kernel_rfl) (by kernel_rfl) (by kernel_rfl) rfl (fun w hw => x_lssB _ _ _ _ _ _ _ _ z 0 true hz rfl rfl w) hSW ?_
            simp only [Act.put, List.setIfInBounds_toArray, List.set_cons_succ, List.set_cons_zero]
            refine h_take 15 (.bool true) rfl (by kernel_rfl) (by kernel_rfl) (by kernel_rfl) rfl (fun w hw => x_pick _ _ _ _ _ _ _ _ _ true (.bool true) (.bool false) rfl rfl rfl w) hSW ?_
            simp only [Act.put, List.setIfInBounds_toArray, List.set_cons_succ, List.set_cons_zero]
            refine wpAnyH_done (by kernel_rfl) ?_ _
            refine NoPanic.normal ?_
            have HLX := hide (HL2.out.step (HSB.out _ hSW))
            obtain ⟨WX, hWX⟩ : ∃ WX, WX = W3 := ⟨_, rfl⟩
            rw [← hWX] at HLX ⊢
            clear hWX hSW HSB HSG HL2 hc0 hc1 hqi hcc hz
            obtain ⟨⟨q, s2⟩, h1, h2⟩ := Option.bind_eq_some_iff.1 hP
            have hs0 : st1.err = 0 := HOK.out.skip.err0 (by rw [HX.out]; simp)
            have hcp := (HOK.out.ok hs0).1
            have hpre : Pre st1.skip.cnt st1.skip .post := ⟨rfl, by show st1.cnt ≤ _; omega⟩
            have hc := HM.out k (by omega) p s _ q s2 WX HLX.out.rd HOK.out.skip hpre (HT.out.aside HR.out HLX.out.aside) h1
            have hi := P_inv s.size k .post _ _ q s2 h1 HOK.out.skip hpre
            have hb1 : Bd (q.cnt + 10) 0 st1.cnt s2 := hi.bd
            have HPR2 : Hid (Pre st.cnt s2 (.catL (ps.map Prod.snd ++ [q]))) := by
              obtain ⟨p1, p2, p3, p4⟩ := HPR.out
              refine ⟨by simp, fun x hx => ?_, Bd.snoc (x := 0) (y := 0) p3 hs0 hb1, ?_⟩
              · rcases List.mem_append.1 hx with hx | hx
                · exact p2 x hx
                · rw [List.mem_singleton] at hx; subst hx; exact hi.wf
              · have := hb1.lt (by omega)
                rw [List.length_append, List.length_singleton]; omega
            have HI := hide hi
            have HC := hide hc
            have H2 := hide h2
            clear hP h1 h2 hc hi hs0 hcp hpre hb1 HOK HPR
            unfold PT at HC ⊢
            go_wp2_with fail
            refine HC.out.mono ?_
            rintro e w3 ⟨b, rfl, hrb, hR3, hA3⟩
            have hl3 := HLX.out.read hR3 hA3
            have hb3 := (Below.refl w3.heap.size w3).alloc (Nat.le_refl _) (.cells #[PT b] 23)
            obtain ⟨v3, W4, hr3, hl4⟩ := (hl3.step hb3).append 47 w3.heap.size b q (Blk.newAt rfl _ _) (hrb.keep hb3) hpl
            have HL4 := hide hl4
            clear hrb hR3 hA3 hl3 hb3 hl4 HC HLX
            unfold PT at hr3
            go_wp2_with (refine wpList_append_run rfl _ _ _ rfl _ _ _ rfl rfl hr3 ?_)
            go_roundg k
            case measure => omega
            case rel => exact ⟨ps ++ [(b, q)], s2, HL4.out, HI.out.ok, by rw [List.map_append]; exact HPR2.out, by rw [List.map_append]; exact H2.out, by omega⟩

theorem rd_all (F : Nat) : RdC 35 .or F ∧ RdC 71 .minus F ∧ RdC 97 .and F ∧ RdC 123 .cat F ∧ RdC 143 .post F ∧ RdC 150 .atom F ∧ RdG F := by
  induction F with
  | zero => exact ⟨fun f hf => by omega, fun f hf => by omega, fun f hf => by omega, fun f hf => by omega, fun f hf => by omega, fun f hf => by omega, fun f hf => by omega⟩
  | succ F ih =>
    obtain ⟨h1, h2, h3, h4, h5, h6, h7⟩ := ih
    exact ⟨or_step F h2, minus_step F h3, and_step F h4, cat_step F h5, post_step F h6, atom_step F h7, group_step F h1⟩
end Go.Proofs.YtdbdjjjmomociaaGreatDoor
/- Read: the expression that a text is, or its first error. -/
namespace Go.Proofs.YtdbdjjjmomociaaGreatDoor
set_option maxRecDepth 100000
set_option linter.unusedSimpArgs false
set_option linter.unusedVariables false
open Go.RowKit

/-- What Read answers. -/
def ReadPost (s : ByteArray) (w : World) (e : Ending) (w' : World) : Prop :=
  ((rdEnd (bytesN s)).err = 0 → ∃ b, e = .returned (.tuple #[PT b, .int .i64 (0 : Nat), .int .i64 (0 : Nat)]) ∧ ReAt w' b (readQ (bytesN s)).1 ∧ Below w.heap.size w w') ∧
  ((rdEnd (bytesN s)).err ≠ 0 → e = .returned (.tuple #[.pointer none, .int .i64 (rdEnd (bytesN s)).err, .int .i64 (rdEnd (bytesN s)).wh]) ∧ Below w.heap.size w w')

set_option maxHeartbeats 4000000 in
theorem read_any (s : ByteArray) (w : World) (hs : s.size ≤ 65536) (hT : TabAt w) : Calls Tryz.prog 10 #[.string s] w (ReadPost s w) := by
  obtain ⟨p, hp⟩ : ∃ p, p = w.heap.size := ⟨_, rfl⟩
  have hlen := bN_len s
  have hq := readQ_some (l := bytesN s) (by omega)
  obtain ⟨r, s1, hrs⟩ : ∃ r s1, readQ (bytesN s) = (r, s1) := ⟨_, _, rfl⟩
  rw [hrs, hlen] at hq
  obtain ⟨w0, hw0⟩ : ∃ w0, w0 = w.alloc (.cells (rdC s 0 0 0 0 0) 73) := ⟨_, rfl⟩
  have hb0 : Below w.heap.size w w0 := by rw [hw0]; exact (Below.refl _ _).alloc (Nat.le_refl _) _
  have hR0 : RdAt w0 p s (St.init (bytesN s)) := by
    refine ⟨?_, ?_, by show (bytesN s).length ≤ _; omega, hs⟩
    · rw [hw0]
      have : s.size - (St.init (bytesN s)).rest.length = 0 := by show s.size - (bytesN s).length = 0; omega
      rw [this]
      exact Blk.newAt hp _ _
    · show bytesN s = (bytesN s).drop (s.size - (bytesN s).length)
      rw [hlen, Nat.sub_self]; rfl
  have hok := init_ok (l := bytesN s) (by omega)
  have hpre : Pre (St.init (bytesN s)).cnt (St.init (bytesN s)) .or := ⟨rfl, by show 0 ≤ _; omega⟩
  have hc := (rd_all (20 * s.size + 9)).1 (20 * s.size + 8) (by omega) p s _ r s1 w0 hR0 hok hpre (hT.agree (Agree.of_all (K := fun _ => True) hb0) trivial) hq
  have hi := P_inv s.size _ .or _ _ r s1 hq hok hpre
  have HC := hide hc
  have HI := hide hi
  have HB0 := hide hb0
  have HP := hide hp
  have HRS := hide hrs
  have HP0 : Hid (p < w0.heap.size) := hR0.blk.lt
  have ew : w.alloc (.cells #[.string s, .int .i64 0, .int .i64 0, .int .i64 0, .int .i64 0, .int .i64 0] 73) = w0 := hw0.symm
  clear hc hi hq hok hpre hR0 hb0 hw0 hT hrs
  have hd1 : decide ((65536 : Int) < s.size) = false := by simp; omega
  have hd2 : decide (65536 < s.size) = false := by simp; omega
  unfold PT at HC
  go_enter Tryz.func10, Tryz.ntmps10
  go_wp2_with fail
  rw [← hp]
  clear hp
  refine HC.out.mono ?_
  rintro e w1 ⟨b, rfl, hrb, hR1, hA1⟩
  have HO1 : Hid (OnW w0 p s s1 b r w1) := ⟨hR1, hrb, hA1⟩
  clear hrb hR1 hA1 HC ew
  obtain ⟨q, hq⟩ : ∃ q, q = s1.skip.rest.isEmpty := ⟨_, rfl⟩
  have hen := end_any p s s1 w1 HO1.out.rd
  rw [← hq] at hen
  have HEN := hide hen
  have HQ := hide hq
  clear hen hq
  unfold PT at HEN
  go_wp2_with fail
  refine HEN.out.mono ?_
  rintro e w2 ⟨rfl, hR2, hA2⟩
  have HO2 := hide (HO1.out.read hR2 hA2)
  clear hR2 hA2 HEN HO1
  -- the end of a world
  have HFIN : Hid (∀ (S : St) (W : World), OnW w0 p s S b r W → Below w.heap.size w W ∧ w.heap.size ≤ W.heap.size) := fun S W h => by
    have hb : Below w.heap.size w W := HB0.out.trans (h.aside.below (by have := HP.out; have := HP0.out; omega) (by rw [HP.out]; exact Nat.le_refl _))
    exact ⟨hb, hb.size⟩
  cases q with
  | false =>
    obtain ⟨at2, hat2⟩ : ∃ a, a = s1.skip.pos s.size := ⟨_, rfl⟩
    have g1 := HO2.out.rd.cells.2.1
    have ea : s.size - s1.skip.rest.length = at2 := hat2.symm
    rw [ea] at g1
    have HF := hide (fail_any p 2 at2 s _ w2 HO2.out.rd)
    have HRE : Hid ((rdEnd (bytesN s)).err ≠ 0 ∧ (rdEnd (bytesN s)).err = (s1.skip.fail 2 at2).err ∧ (rdEnd (bytesN s)).wh = (s1.skip.fail 2 at2).wh) := by
      have hne := fail_err 2 at2 s1.skip (by omega)
      have e : rdEnd (bytesN s) = s1.skip.fail 2 at2 := by
        unfold rdEnd
        rw [HRS.out]
        simp only
        rw [← HQ.out, bN_len, ← hat2]
        simp only [Bool.false_eq_true, if_false]
        rw [if_neg (fun h => hne h.1)]
      rw [e]; exact ⟨hne, rfl, rfl⟩
    have HER : Hid ((s1.skip.fail 2 at2).err ≠ 0) := fail_err 2 at2 s1.skip (by omega)
    clear hat2 ea
    unfold PT at HF
    go_wp2_with fail
    refine HF.out.mono ?_
    rintro e WX ⟨rfl, hR3, hA3⟩
    obtain ⟨SX, hSX⟩ : ∃ SX, SX = s1.skip.fail 2 at2 := ⟨_, rfl⟩
    rw [← hSX] at hR3 HER HRE
    have HY := hide (HO2.out.read hR3 hA3)
    have HBL := hide (HFIN.out _ _ HY.out).1
    have HWS := hide (HFIN.out _ _ HY.out).2
    clear hR3 hA3 HF HO2 g1 hSX HFIN
    have c40 := HY.out.rd.cells.2.2.2.2.1
    have hz0 : ((SX.err : Int) == 0) = false := beq_eq_false_iff_ne.2 (by have := HER.out; omega)
    have c4 := HY.out.rd.cells.2.2.2.2.1
    have hne : ((SX.err : Int) != 0) = true := by
      have := HER.out
      simp; omega
    obtain ⟨er, her⟩ : ∃ er, er = SX.err := ⟨_, rfl⟩
    obtain ⟨wh, hwh⟩ : ∃ wh, wh = SX.wh := ⟨_, rfl⟩
    obtain ⟨C, hC⟩ : ∃ C : World → Prop, C = fun W => Below WX.heap.size WX W := ⟨_, rfl⟩
    have HG : Hid (Grows C) := by rw [hC]; exact fun W W' h1 h2 => h1.trans (h2.mono h1.size)
    have HCD : Hid (C { WX with drawn := WX.drawn + 1 }) := by rw [hC]; exact ⟨rfl, rfl, rfl, Nat.le_refl _, fun _ _ => rfl⟩
    have HCB : Hid (∀ W, C W → Below WX.heap.size WX W) := by rw [hC]; exact fun W h => h
    have HC4 : Hid (∀ W, C W → W.cell? ⟨p, 4, none⟩ = some (.int .i64 er)) := fun W hW => by rw [her]; exact (HY.out.rd.keep (HCB.out W hW)).cells.2.2.2.2.1
    have HC5 : Hid (∀ W, C W → W.cell? ⟨p, 5, none⟩ = some (.int .i64 wh)) := fun W hW => by rw [hwh]; exact (HY.out.rd.keep (HCB.out W hW)).cells.2.2.2.2.2.1
    have HER2 := hide her
    have HWH2 := hide hwh
    rw [← her] at c4 hne
    clear hC her hwh
    go_wp2
    have hG := HG.out
    have hc4 := HC4.out
    have hc5 := HC5.out
    refine w_lit (C := C) (by kernel_rfl) (by kernel_rfl) HCD.out ?_
    refine w_value (PT p) (by kernel_rfl) (fun w hw => x_move _ _ _ _ _ _ _ _ rfl w) ?_
    simp only [Act.put, List.setIfInBounds_toArray, List.set_cons_succ, List.set_cons_zero]
    refine w_value (PT p) (by kernel_rfl) (fun w hw => x_nilCheck _ _ _ _ _ _ _ _ rfl w) ?_
    simp only [Act.put, List.setIfInBounds_toArray, List.set_cons_succ, List.set_cons_zero]
    refine w_value (.pointer (some ⟨p, 4, none⟩)) (by kernel_rfl) (fun w hw => x_fieldR4 _ _ _ _ _ _ _ p rfl w) ?_
    simp only [Act.put, List.setIfInBounds_toArray, List.set_cons_succ, List.set_cons_zero]
    refine w_value (.int .i64 er) (by kernel_rfl) (fun w hw => x_loadErr _ _ _ _ _ _ _ p 4 _ rfl w (hc4 w hw)) ?_
    simp only [Act.put, List.setIfInBounds_toArray, List.set_cons_succ, List.set_cons_zero]
    refine w_value (PT p) (by kernel_rfl) (fun w hw => x_move _ _ _ _ _ _ _ _ rfl w) ?_
    simp only [Act.put, List.setIfInBounds_toArray, List.set_cons_succ, List.set_cons_zero]
    refine w_value (PT p) (by kernel_rfl) (fun w hw => x_nilCheck _ _ _ _ _ _ _ _ rfl w) ?_
    simp only [Act.put, List.setIfInBounds_toArray, List.set_cons_succ, List.set_cons_zero]
    refine w_value (.pointer (some ⟨p, 5, none⟩)) (by kernel_rfl) (fun w hw => x_fieldR5 _ _ _ _ _ _ _ p rfl w) ?_
    simp only [Act.put, List.setIfInBounds_toArray, List.set_cons_succ, List.set_cons_zero]
    refine w_value (.int .i64 wh) (by kernel_rfl) (fun w hw => x_loadInt _ _ _ _ _ _ _ p 5 _ rfl w (hc5 w hw)) ?_
    simp only [Act.put, List.setIfInBounds_toArray, List.set_cons_succ, List.set_cons_zero]
    refine w_value (.pointer none) (by kernel_rfl) (fun w hw => x_assign _ _ _ _ _ _ _ _ rfl w) ?_
    simp only [Act.put, List.setIfInBounds_toArray, List.set_cons_succ, List.set_cons_zero]
    refine w_value (.int .i64 er) (by kernel_rfl) (fun w hw => x_assign _ _ _ _ _ _ _ _ rfl w) ?_
    simp only [Act.put, List.setIfInBounds_toArray, List.set_cons_succ, List.set_cons_zero]
    refine w_value (.int .i64 wh) (by kernel_rfl) (fun w hw => x_assign _ _ _ _ _ _ _ _ rfl w) ?_
    simp only [Act.put, List.setIfInBounds_toArray, List.set_cons_succ, List.set_cons_zero]
    refine w_nil ?_
    intro W hW
    have HBX := hide ((HBL.out).trans ((HCB.out W hW).mono HWS.out))
    clear hW hG hc4 hc5
    go_wp2
    refine bodyPost_ret (v := .tuple #[.pointer none, .int .i64 er, .int .i64 wh]) (by simp [results, Tryz.results10, go_sem]) rfl ?_
    refine ⟨fun h => absurd h HRE.out.1, fun _ => ⟨?_, HBX.out⟩⟩
    rw [HRE.out.2.1, HRE.out.2.2, ← HER2.out, ← HWH2.out]
  | true =>
    have HRE0 : Hid (rdEnd (bytesN s) = if s1.skip.err = 0 ∧ 1000 < r.size then s1.skip.fail 3 0 else s1.skip) := by
      show _ = _
      unfold rdEnd
      rw [HRS.out]
      simp only
      rw [← HQ.out]
      simp only [if_true]
    have c4 := HO2.out.rd.cells.2.2.2.2.1
    by_cases he : s1.skip.err = 0
    · rw [he] at c4
      have HSZ := hide (size_any b r w2 HO2.out.re)
      obtain ⟨sz, hsz⟩ : ∃ sz, sz = r.size := ⟨_, rfl⟩
      rw [← hsz] at HSZ HRE0
      have hszl : sz ≤ 9223372036854775807 := by rw [hsz]; exact r.size_le
      have HE0 := hide he
      clear hsz he
      unfold PT at HSZ
      go_wp2_with fail
      refine HSZ.out.mono ?_
      rintro e w3 ⟨rfl, rfl⟩
      clear HSZ
      by_cases hbig : 1000 < sz
      · have hd3 : decide ((1000 : Int) < sz) = true := by simp; omega
        have hd4 : decide (1000 < sz) = true := by simp [hbig]
        have HF := hide (fail_any p 3 0 s _ w3 HO2.out.rd)
        have HRE : Hid ((rdEnd (bytesN s)).err ≠ 0 ∧ (rdEnd (bytesN s)).err = (s1.skip.fail 3 0).err ∧ (rdEnd (bytesN s)).wh = (s1.skip.fail 3 0).wh) := by
          have e : rdEnd (bytesN s) = s1.skip.fail 3 0 := by rw [HRE0.out, if_pos ⟨HE0.out, hbig⟩]
          rw [e]; exact ⟨fail_err 3 0 _ (by omega), rfl, rfl⟩
        have HER : Hid ((s1.skip.fail 3 0).err ≠ 0) := fail_err 3 0 s1.skip (by omega)
        clear hbig
        unfold PT at HF
        go_wp2_with fail
        refine HF.out.mono ?_
        rintro e WX ⟨rfl, hR3, hA3⟩
        obtain ⟨SX, hSX⟩ : ∃ SX, SX = s1.skip.fail 3 0 := ⟨_, rfl⟩
        rw [← hSX] at hR3 HER HRE
        have HY := hide (HO2.out.read hR3 hA3)
        have HBL := hide (HFIN.out _ _ HY.out).1
        have HWS := hide (HFIN.out _ _ HY.out).2
        clear hR3 hA3 HF HO2 hSX HFIN c4
        have c4 := HY.out.rd.cells.2.2.2.2.1
        have hne : ((SX.err : Int) != 0) = true := by
          have := HER.out
          simp; omega
        obtain ⟨er, her⟩ : ∃ er, er = SX.err := ⟨_, rfl⟩
        obtain ⟨wh, hwh⟩ : ∃ wh, wh = SX.wh := ⟨_, rfl⟩
        obtain ⟨C, hC⟩ : ∃ C : World → Prop, C = fun W => Below WX.heap.size WX W := ⟨_, rfl⟩
        have HG : Hid (Grows C) := by rw [hC]; exact fun W W' h1 h2 => h1.trans (h2.mono h1.size)
        have HCD : Hid (C { WX with drawn := WX.drawn + 1 }) := by rw [hC]; exact ⟨rfl, rfl, rfl, Nat.le_refl _, fun _ _ => rfl⟩
        have HCB : Hid (∀ W, C W → Below WX.heap.size WX W) := by rw [hC]; exact fun W h => h
        have HC4 : Hid (∀ W, C W → W.cell? ⟨p, 4, none⟩ = some (.int .i64 er)) := fun W hW => by rw [her]; exact (HY.out.rd.keep (HCB.out W hW)).cells.2.2.2.2.1
        have HC5 : Hid (∀ W, C W → W.cell? ⟨p, 5, none⟩ = some (.int .i64 wh)) := fun W hW => by rw [hwh]; exact (HY.out.rd.keep (HCB.out W hW)).cells.2.2.2.2.2.1
        have HER2 := hide her
        have HWH2 := hide hwh
        rw [← her] at c4 hne
        clear hC her hwh
        go_wp2
        have hG := HG.out
        have hc4 := HC4.out
        have hc5 := HC5.out
        refine w_lit (C := C) (by kernel_rfl) (by kernel_rfl) HCD.out ?_
        refine w_value (PT p) (by kernel_rfl) (fun w hw => x_move _ _ _ _ _ _ _ _ rfl w) ?_
        simp only [Act.put, List.setIfInBounds_toArray, List.set_cons_succ, List.set_cons_zero]
        refine w_value (PT p) (by kernel_rfl) (fun w hw => x_nilCheck _ _ _ _ _ _ _ _ rfl w) ?_
        simp only [Act.put, List.setIfInBounds_toArray, List.set_cons_succ, List.set_cons_zero]
        refine w_value (.pointer (some ⟨p, 4, none⟩)) (by kernel_rfl) (fun w hw => x_fieldR4 _ _ _ _ _ _ _ p rfl w) ?_
        simp only [Act.put, List.setIfInBounds_toArray, List.set_cons_succ, List.set_cons_zero]
        refine w_value (.int .i64 er) (by kernel_rfl) (fun w hw => x_loadErr _ _ _ _ _ _ _ p 4 _ rfl w (hc4 w hw)) ?_
        simp only [Act.put, List.setIfInBounds_toArray, List.set_cons_succ, List.set_cons_zero]
        refine w_value (PT p) (by kernel_rfl) (fun w hw => x_move _ _ _ _ _ _ _ _ rfl w) ?_
        simp only [Act.put, List.setIfInBounds_toArray, List.set_cons_succ, List.set_cons_zero]
        refine w_value (PT p) (by kernel_rfl) (fun w hw => x_nilCheck _ _ _ _ _ _ _ _ rfl w) ?_
        simp only [Act.put, List.setIfInBounds_toArray, List.set_cons_succ, List.set_cons_zero]
        refine w_value (.pointer (some ⟨p, 5, none⟩)) (by kernel_rfl) (fun w hw => x_fieldR5 _ _ _ _ _ _ _ p rfl w) ?_
        simp only [Act.put, List.setIfInBounds_toArray, List.set_cons_succ, List.set_cons_zero]
        refine w_value (.int .i64 wh) (by kernel_rfl) (fun w hw => x_loadInt _ _ _ _ _ _ _ p 5 _ rfl w (hc5 w hw)) ?_
        simp only [Act.put, List.setIfInBounds_toArray, List.set_cons_succ, List.set_cons_zero]
        refine w_value (.pointer none) (by kernel_rfl) (fun w hw => x_assign _ _ _ _ _ _ _ _ rfl w) ?_
        simp only [Act.put, List.setIfInBounds_toArray, List.set_cons_succ, List.set_cons_zero]
        refine w_value (.int .i64 er) (by kernel_rfl) (fun w hw => x_assign _ _ _ _ _ _ _ _ rfl w) ?_
        simp only [Act.put, List.setIfInBounds_toArray, List.set_cons_succ, List.set_cons_zero]
        refine w_value (.int .i64 wh) (by kernel_rfl) (fun w hw => x_assign _ _ _ _ _ _ _ _ rfl w) ?_
        simp only [Act.put, List.setIfInBounds_toArray, List.set_cons_succ, List.set_cons_zero]
        refine w_nil ?_
        intro W hW
        have HBX := hide ((HBL.out).trans ((HCB.out W hW).mono HWS.out))
        clear hW hG hc4 hc5
        go_wp2
        refine bodyPost_ret (v := .tuple #[.pointer none, .int .i64 er, .int .i64 wh]) (by simp [results, Tryz.results10, go_sem]) rfl ?_
        refine ⟨fun h => absurd h HRE.out.1, fun _ => ⟨?_, HBX.out⟩⟩
        rw [HRE.out.2.1, HRE.out.2.2, ← HER2.out, ← HWH2.out]
      · have hd3 : decide ((1000 : Int) < sz) = false := by simp; omega
        have hd4 : decide (1000 < sz) = false := by simp; omega
        have HRE : Hid ((rdEnd (bytesN s)).err = 0) := by
          show _ = _
          rw [HRE0.out, if_neg (fun h => hbig h.2)]; exact HE0.out
        have HBL := hide (HFIN.out _ _ HO2.out).1
        clear hbig
        go_wp2
        refine bodyPost_ret (v := .tuple #[PT b, .int .i64 (0 : Nat), .int .i64 (0 : Nat)]) (by simp [results, Tryz.results10, go_sem, PT]) rfl ?_
        refine ⟨fun _ => ⟨b, rfl, ?_, HBL.out⟩, fun h => absurd HRE.out h⟩
        rw [HRS.out]; exact HO2.out.re
    · have HRE : Hid ((rdEnd (bytesN s)).err ≠ 0 ∧ (rdEnd (bytesN s)).err = s1.skip.err ∧ (rdEnd (bytesN s)).wh = s1.skip.wh) := by
        rw [HRE0.out, if_neg (fun h => he h.1)]; exact ⟨he, rfl, rfl⟩
      have HER : Hid (s1.skip.err ≠ 0) := he
      have hz0 : ((s1.skip.err : Int) == 0) = false := beq_eq_false_iff_ne.2 (by omega)
      obtain ⟨SX, hSX⟩ : ∃ SX, SX = s1.skip := ⟨_, rfl⟩
      obtain ⟨WX, hWX⟩ : ∃ WX, WX = w2 := ⟨_, rfl⟩
      rw [← hSX] at HER HRE HO2 hz0 c4
      rw [← hWX] at HO2 c4 ⊢
      have HY := HO2
      have HBL := hide (HFIN.out _ _ HY.out).1
      have HWS := hide (HFIN.out _ _ HY.out).2
      clear HO2 hSX HFIN he hWX c4
      have c40 := HY.out.rd.cells.2.2.2.2.1
      have c4 := HY.out.rd.cells.2.2.2.2.1
      have hne : ((SX.err : Int) != 0) = true := by
        have := HER.out
        simp; omega
      obtain ⟨er, her⟩ : ∃ er, er = SX.err := ⟨_, rfl⟩
      obtain ⟨wh, hwh⟩ : ∃ wh, wh = SX.wh := ⟨_, rfl⟩
      obtain ⟨C, hC⟩ : ∃ C : World → Prop, C = fun W => Below WX.heap.size WX W := ⟨_, rfl⟩
      have HG : Hid (Grows C) := by rw [hC]; exact fun W W' h1 h2 => h1.trans (h2.mono h1.size)
      have HCD : Hid (C { WX with drawn := WX.drawn + 1 }) := by rw [hC]; exact ⟨rfl, rfl, rfl, Nat.le_refl _, fun _ _ => rfl⟩
      have HCB : Hid (∀ W, C W → Below WX.heap.size WX W) := by rw [hC]; exact fun W h => h
      have HC4 : Hid (∀ W, C W → W.cell? ⟨p, 4, none⟩ = some (.int .i64 er)) := fun W hW => by rw [her]; exact (HY.out.rd.keep (HCB.out W hW)).cells.2.2.2.2.1
      have HC5 : Hid (∀ W, C W → W.cell? ⟨p, 5, none⟩ = some (.int .i64 wh)) := fun W hW => by rw [hwh]; exact (HY.out.rd.keep (HCB.out W hW)).cells.2.2.2.2.2.1
      have HER2 := hide her
      have HWH2 := hide hwh
      rw [← her] at c4 hne
      clear hC her hwh
      go_wp2
      have hG := HG.out
      have hc4 := HC4.out
      have hc5 := HC5.out
      refine w_lit (C := C) (by kernel_rfl) (by kernel_rfl) HCD.out ?_
      refine w_value (PT p) (by kernel_rfl) (fun w hw => x_move _ _ _ _ _ _ _ _ rfl w) ?_
      simp only [Act.put, List.setIfInBounds_toArray, List.set_cons_succ, List.set_cons_zero]
      refine w_value (PT p) (by kernel_rfl) (fun w hw => x_nilCheck _ _ _ _ _ _ _ _ rfl w) ?_
      simp only [Act.put, List.setIfInBounds_toArray, List.set_cons_succ, List.set_cons_zero]
      refine w_value (.pointer (some ⟨p, 4, none⟩)) (by kernel_rfl) (fun w hw => x_fieldR4 _ _ _ _ _ _ _ p rfl w) ?_
      simp only [Act.put, List.setIfInBounds_toArray, List.set_cons_succ, List.set_cons_zero]
      refine w_value (.int .i64 er) (by kernel_rfl) (fun w hw => x_loadErr _ _ _ _ _ _ _ p 4 _ rfl w (hc4 w hw)) ?_
      simp only [Act.put, List.setIfInBounds_toArray, List.set_cons_succ, List.set_cons_zero]
      refine w_value (PT p) (by kernel_rfl) (fun w hw => x_move _ _ _ _ _ _ _ _ rfl w) ?_
      simp only [Act.put, List.setIfInBounds_toArray, List.set_cons_succ, List.set_cons_zero]
      refine w_value (PT p) (by kernel_rfl) (fun w hw => x_nilCheck _ _ _ _ _ _ _ _ rfl w) ?_
      simp only [Act.put, List.setIfInBounds_toArray, List.set_cons_succ, List.set_cons_zero]
      refine w_value (.pointer (some ⟨p, 5, none⟩)) (by kernel_rfl) (fun w hw => x_fieldR5 _ _ _ _ _ _ _ p rfl w) ?_
      simp only [Act.put, List.setIfInBounds_toArray, List.set_cons_succ, List.set_cons_zero]
      refine w_value (.int .i64 wh) (by kernel_rfl) (fun w hw => x_loadInt _ _ _ _ _ _ _ p 5 _ rfl w (hc5 w hw)) ?_
      simp only [Act.put, List.setIfInBounds_toArray, List.set_cons_succ, List.set_cons_zero]
      refine w_value (.pointer none) (by kernel_rfl) (fun w hw => x_assign _ _ _ _ _ _ _ _ rfl w) ?_
      simp only [Act.put, List.setIfInBounds_toArray, List.set_cons_succ, List.set_cons_zero]
      refine w_value (.int .i64 er) (by kernel_rfl) (fun w hw => x_assign _ _ _ _ _ _ _ _ rfl w) ?_
      simp only [Act.put, List.setIfInBounds_toArray, List.set_cons_succ, List.set_cons_zero]
      refine w_value (.int .i64 wh) (by kernel_rfl) (fun w hw => x_assign _ _ _ _ _ _ _ _ rfl w) ?_
      simp only [Act.put, List.setIfInBounds_toArray, List.set_cons_succ, List.set_cons_zero]
      refine w_nil ?_
      intro W hW
      have HBX := hide ((HBL.out).trans ((HCB.out W hW).mono HWS.out))
      clear hW hG hc4 hc5
      go_wp2
      refine bodyPost_ret (v := .tuple #[.pointer none, .int .i64 er, .int .i64 wh]) (by simp [results, Tryz.results10, go_sem]) rfl ?_
      refine ⟨fun h => absurd h HRE.out.1, fun _ => ⟨?_, HBX.out⟩⟩
      rw [HRE.out.2.1, HRE.out.2.2, ← HER2.out, ← HWH2.out]
theorem read_long (s : ByteArray) (w : World) (hs : 65536 < s.size) (hs2 : s.size ≤ 9223372036854775807) : Calls Tryz.prog 10 #[.string s] w fun e w' => e = .returned (.tuple #[.pointer none, .int .i64 (3 : Nat), .int .i64 (0 : Nat)]) ∧ w' = w := by
  have hd1 : decide ((65536 : Int) < s.size) = true := by simp; omega
  have hd2 : decide (65536 < s.size) = true := by simp [hs]
  go_enter Tryz.func10, Tryz.ntmps10
  go_wp2
  exact bodyPost_ret (v := .tuple #[.pointer none, .int .i64 (3 : Nat), .int .i64 (0 : Nat)]) (by simp [results, Tryz.results10, go_sem]) rfl ⟨rfl, rfl⟩
end Go.Proofs.YtdbdjjjmomociaaGreatDoor
/- The document's example, as the statements of layer 4 ask it first. -/
namespace Go.Proofs.YtdbdjjjmomociaaGreatDoor
set_option maxRecDepth 100000
set_option linter.unusedSimpArgs false
set_option linter.unusedVariables false
open Go.RowKit Go.Shelf

set_option maxHeartbeats 1000000 in
theorem head4_any (w : World) (hT : TabAt w) :
    Calls Tryz.prog 9 #[] w fun e w' => e = .returned (.bool true) ∧ Below w.heap.size w w' := by
  have hr := read_any exS w (by decide) hT
  have HR := hide hr
  have HT := hide hT
  clear hr hT
  unfold exS at HR
  go_enter Tryz.func9, Tryz.ntmps9
  go_wp2_with fail
  refine HR.out.mono ?_
  intro e w1 hp
  rw [show (⟨#[40, 97, 124, 98, 41, 42, 99, 45, 97, 98, 99]⟩ : ByteArray) = exS from rfl] at hp
  unfold ReadPost at hp
  rw [exS_b, ex_read] at hp
  obtain ⟨b, rfl, hR, hb⟩ := hp.1 ex_err
  have HB := hide hb
  have HRe := hide hR
  clear hp hR hb HR
  have ho := textOf_any exR b w1 ex_wf HRe.out (by rw [ex_txt]; simp) (HT.out.agree (Agree.of_all (K := fun _ => True) HB.out) trivial)
  rw [exT_b] at ho
  have HO := hide ho
  clear ho
  unfold PT at HO ⊢
  go_wp2_with fail
  refine HO.out.mono ?_
  rintro e w2 ⟨rfl, hb2⟩
  have HB2 := hide (HB.out.trans (hb2.mono HB.out.size))
  clear hb2 HO HRe
  unfold exT
  go_wp2
  go_ret
  exact ⟨rfl, HB2.out⟩
end Go.Proofs.YtdbdjjjmomociaaGreatDoor
/- Read where it reads, where it does not; texts put together. -/
namespace Go.Proofs.YtdbdjjjmomociaaGreatDoor
set_option maxRecDepth 100000
set_option linter.unusedSimpArgs false
set_option linter.unusedVariables false
open Go.RowKit Go.Shelf

/-- What Read answers where it reads. -/
theorem read_ok (s : ByteArray) (l : List Nat) (r : RE) (st : St) (hs : bytesN s = l) (hl : s.size ≤ 65536) (hr : readQ l = (r, st) ∧ (rdEnd l).err = 0) (w : World) (hT : TabAt w) :
    Calls Tryz.prog 10 #[.string s] w fun e w' => ∃ b, e = .returned (.tuple #[PT b, .int .i64 (0 : Nat), .int .i64 (0 : Nat)]) ∧ ReAt w' b r ∧ Below w.heap.size w w' := by
  refine (read_any s w hl hT).mono ?_
  intro e w' hp
  unfold ReadPost at hp
  rw [hs, hr.1] at hp
  exact hp.1 hr.2
theorem read_bad (s : ByteArray) (l : List Nat) (er : Nat) (hs : bytesN s = l) (hl : s.size ≤ 65536) (hr : (rdEnd l).err = er) (h0 : er ≠ 0) (w : World) (hT : TabAt w) :
    Calls Tryz.prog 10 #[.string s] w fun e w' => ∃ wh : Nat, e = .returned (.tuple #[.pointer none, .int .i64 er, .int .i64 wh]) ∧ Below w.heap.size w w' := by
  refine (read_any s w hl hT).mono ?_
  intro e w' hp
  unfold ReadPost at hp
  rw [hs, hr] at hp
  exact ⟨_, hp.2 h0⟩
theorem byteW_lt : ∀ c < 256, ∀ x ∈ byteW c, x < 256 := by decide +kernel
theorem bytesN_strB {l : List Nat} (h : ∀ x ∈ l, x < 256) : bytesN (strB l) = l := by
  simp only [bytesN, strB, strOfNums, List.map_map, Function.comp_def, Int.toNat_natCast]
  have : l.map (fun x => (UInt8.ofNat x).toNat) = l.map id := List.map_congr_left fun x hx => by
    have := h x hx
    simp; omega
  simpa using this
theorem strB_size (l : List Nat) : (strB l).size = l.length := by simp [strB, strOfNums, ByteArray.size]
theorem strB_append (a b : List Nat) : strB (a ++ b) = strB a ++ strB b := by
  apply ByteArray.ext
  simp [strB, strOfNums]
end Go.Proofs.YtdbdjjjmomociaaGreatDoor
/- The reader with as much fuel as it takes; its rules; what it keeps of the first error. -/
namespace Go.Proofs.YtdbdjjjmomociaaGreatDoor
set_option maxRecDepth 100000
set_option linter.unusedSimpArgs false
set_option linter.unusedVariables false
open Go.RowKit Go.Shelf St

theorem classL_mono (n : Nat) : ∀ (f : Nat) (s : BitVec 256) (st : St) (q : BitVec 256 × St), classL n f s st = some q → classL n (f + 1) s st = some q
  | 0, s, st, q, h => by simp [classL] at h
  | f + 1, s, st, q, h => by
    unfold classL at h ⊢
    split at h
    · rename_i hb; rw [if_pos hb]; exact h
    · rename_i hb
      rw [if_neg hb]
      split at h
      · rename_i h0
        rw [if_pos h0]
        exact classL_mono n f _ _ q h
      · rename_i h0
        rw [if_neg h0]; exact h
theorem clas_mono {n f : Nat} {st : St} {q : BitVec 256 × St} (h : clas n f st = some q) : clas n (f + 1) st = some q := by
  unfold clas at h ⊢
  split at h
  · rename_i hb
    rw [if_pos hb]
    obtain ⟨a, h1, h2⟩ := Option.map_eq_some_iff.1 h
    rw [classL_mono n f _ _ _ h1, ← h2]; rfl
  · rename_i hb
    rw [if_neg hb]; exact classL_mono n f _ _ _ h
theorem P_mono (n : Nat) : ∀ (f : Nat) (m : Md) (st : St) (q : RE × St), P n f m st = some q → P n (f + 1) m st = some q
  | 0, m, st, q, h => by simp [P] at h
  | f + 1, .or, st, q, h => by
    rw [P] at h ⊢
    obtain ⟨a, h1, h2⟩ := Option.bind_eq_some_iff.1 h
    rw [P_mono n f _ _ _ h1]; exact P_mono n f _ _ _ h2
  | f + 1, .minus, st, q, h => by
    rw [P] at h ⊢
    obtain ⟨a, h1, h2⟩ := Option.bind_eq_some_iff.1 h
    rw [P_mono n f _ _ _ h1]; exact P_mono n f _ _ _ h2
  | f + 1, .and, st, q, h => by
    rw [P] at h ⊢
    obtain ⟨a, h1, h2⟩ := Option.bind_eq_some_iff.1 h
    rw [P_mono n f _ _ _ h1]; exact P_mono n f _ _ _ h2
  | f + 1, .cat, st, q, h => by
    rw [P] at h ⊢
    obtain ⟨a, h1, h2⟩ := Option.bind_eq_some_iff.1 h
    rw [P_mono n f _ _ _ h1]; exact P_mono n f _ _ _ h2
  | f + 1, .post, st, q, h => by
    rw [P] at h ⊢
    obtain ⟨a, h1, h2⟩ := Option.bind_eq_some_iff.1 h
    rw [P_mono n f _ _ _ h1]; exact P_mono n f _ _ _ h2
  | f + 1, .orL l, st, q, h => by
    rw [P] at h ⊢
    split at h
    · rename_i hb
      rw [if_pos hb]
      obtain ⟨a, h1, h2⟩ := Option.bind_eq_some_iff.1 h
      rw [P_mono n f _ _ _ h1]; exact P_mono n f _ _ _ h2
    · rename_i hb
      rw [if_neg hb]; exact h
  | f + 1, .minusL l, st, q, h => by
    rw [P] at h ⊢
    split at h
    · rename_i hb
      rw [if_pos hb]
      obtain ⟨a, h1, h2⟩ := Option.bind_eq_some_iff.1 h
      rw [P_mono n f _ _ _ h1]; exact P_mono n f _ _ _ h2
    · rename_i hb
      rw [if_neg hb]; exact h
  | f + 1, .andL l, st, q, h => by
    rw [P] at h ⊢
    split at h
    · rename_i hb
      rw [if_pos hb]
      obtain ⟨a, h1, h2⟩ := Option.bind_eq_some_iff.1 h
      rw [P_mono n f _ _ _ h1]; exact P_mono n f _ _ _ h2
    · rename_i hb
      rw [if_neg hb]; exact h
  | f + 1, .catL l, st, q, h => by
    rw [P] at h ⊢
    cases hr : st.skip.rest with
    | nil => rw [hr] at h; exact h
    | cons b t =>
      rw [hr] at h
      simp only at h ⊢
      split at h
      · rename_i hb
        rw [if_pos hb]; exact h
      · rename_i hb
        rw [if_neg hb]
        obtain ⟨a, h1, h2⟩ := Option.bind_eq_some_iff.1 h
        rw [P_mono n f _ _ _ h1]; exact P_mono n f _ _ _ h2
  | f + 1, .postL r, st, q, h => by
    rw [P] at h ⊢
    split at h
    · rename_i hb
      rw [if_pos hb]; exact P_mono n f _ _ _ h
    rename_i hb
    rw [if_neg hb]
    split at h
    · rename_i hb
      rw [if_pos hb]; exact P_mono n f _ _ _ h
    rename_i hb
    rw [if_neg hb]
    split at h
    · rename_i hb
      rw [if_pos hb]; exact P_mono n f _ _ _ h
    rename_i hb
    rw [if_neg hb]; exact h
  | f + 1, .atom, st, q, h => by
    rw [P] at h ⊢
    split at h
    · rename_i hb
      rw [if_pos hb]
      obtain ⟨a, h1, h2⟩ := Option.map_eq_some_iff.1 h
      rw [P_mono n f _ _ _ h1, ← h2]; rfl
    rename_i hb
    rw [if_neg hb]
    split at h
    · rename_i hb
      rw [if_pos hb]
      obtain ⟨a, h1, h2⟩ := Option.map_eq_some_iff.1 h
      rw [clas_mono h1, ← h2]; rfl
    rename_i hb
    rw [if_neg hb]; exact h
  | f + 1, .group, st, q, h => by
    rw [P] at h ⊢
    split at h
    · rename_i hb
      rw [if_pos hb]; exact h
    · rename_i hb
      rw [if_neg hb]
      obtain ⟨a, h1, h2⟩ := Option.map_eq_some_iff.1 h
      rw [P_mono n f _ _ _ h1, ← h2]; rfl
theorem P_add {n f : Nat} (k : Nat) {m : Md} {st : St} {q : RE × St} (h : P n f m st = some q) : P n (f + k) m st = some q := by
  induction k with
  | zero => exact h
  | succ k ih => exact P_mono n (f + k) m st q ih
theorem P_le {n f g : Nat} {m : Md} {st : St} {q : RE × St} (h : P n f m st = some q) (hg : f ≤ g) : P n g m st = some q := by
  have := P_add (g - f) h
  rwa [Nat.add_sub_cancel' hg] at this
theorem clas_le {n f g : Nat} {st : St} {q : BitVec 256 × St} (h : clas n f st = some q) (hg : f ≤ g) : clas n g st = some q := by
  obtain ⟨k, rfl⟩ := Nat.exists_eq_add_of_le hg
  clear hg
  induction k with
  | zero => exact h
  | succ k ih => exact clas_mono ih

/-- What is read, whatever fuel it takes. -/
def Run (n : Nat) (m : Md) (st : St) (q : RE × St) : Prop := ∃ f, P n f m st = some q
def RunC (n : Nat) (st : St) (q : BitVec 256 × St) : Prop := ∃ f, clas n f st = some q
theorem Run.det {n : Nat} {m : Md} {st : St} {q q' : RE × St} (h : Run n m st q) (h' : Run n m st q') : q = q' := by
  obtain ⟨f, h⟩ := h
  obtain ⟨g, h'⟩ := h'
  have h1 := P_le h (Nat.le_max_left f g)
  have h2 := P_le h' (Nat.le_max_right f g)
  rw [h1] at h2
  exact Option.some.inj h2
theorem readQ_run {l : List Nat} {q : RE × St} (hl : l.length ≤ 65536) (h : Run l.length .or (St.init l) q) : readQ l = q :=
  Run.det ⟨_, readQ_some hl⟩ h

section
variable {n : Nat} {st s1 s2 : St} {a : RE} {l : List RE} {z : RE × St}
theorem Run.both {m m' : Md} {sa sb : St} {x y : RE × St} (h1 : Run n m sa x) (h2 : Run n m' sb y) : ∃ f, P n f m sa = some x ∧ P n f m' sb = some y := by
  obtain ⟨f, h1⟩ := h1
  obtain ⟨g, h2⟩ := h2
  exact ⟨max f g, P_le h1 (Nat.le_max_left f g), P_le h2 (Nat.le_max_right f g)⟩
theorem Run.or (h1 : Run n .minus st (a, s1)) (h2 : Run n (.orL [a]) s1 z) : Run n .or st z := by
  obtain ⟨f, h1, h2⟩ := h1.both h2
  exact ⟨f + 1, P_or h1 h2⟩
theorem Run.minus (h1 : Run n .and st (a, s1)) (h2 : Run n (.minusL a) s1 z) : Run n .minus st z := by
  obtain ⟨f, h1, h2⟩ := h1.both h2
  exact ⟨f + 1, P_minus h1 h2⟩
theorem Run.and (h1 : Run n .cat st (a, s1)) (h2 : Run n (.andL [a]) s1 z) : Run n .and st z := by
  obtain ⟨f, h1, h2⟩ := h1.both h2
  exact ⟨f + 1, P_and h1 h2⟩
theorem Run.cat (h1 : Run n .post st (a, s1)) (h2 : Run n (.catL [a]) s1 z) : Run n .cat st z := by
  obtain ⟨f, h1, h2⟩ := h1.both h2
  exact ⟨f + 1, P_cat h1 h2⟩
theorem Run.post (h1 : Run n .atom st (a, s1)) (h2 : Run n (.postL a) s1 z) : Run n .post st z := by
  obtain ⟨f, h1, h2⟩ := h1.both h2
  exact ⟨f + 1, P_post h1 h2⟩
theorem Run.orL (hb : st.signB 124 = true) (h1 : Run n .minus (st.sign 124) (a, s1)) (h2 : Run n (.orL (l ++ [a])) s1 z) : Run n (.orL l) st z := by
  obtain ⟨f, h1, h2⟩ := h1.both h2
  exact ⟨f + 1, P_orL hb h1 h2⟩
theorem Run.orLE (hb : st.signB 124 = false) : Run n (.orL l) st (rAny l, st.sign 124) := ⟨1, P_orLE hb⟩
theorem Run.andL (hb : st.signB 38 = true) (h1 : Run n .cat (st.sign 38) (a, s1)) (h2 : Run n (.andL (l ++ [a])) s1 z) : Run n (.andL l) st z := by
  obtain ⟨f, h1, h2⟩ := h1.both h2
  exact ⟨f + 1, P_andL hb h1 h2⟩
theorem Run.andLE (hb : st.signB 38 = false) : Run n (.andL l) st (rBoth l, st.sign 38) := ⟨1, P_andLE hb⟩
theorem Run.minusL {r : RE} (hb : st.signB 45 = true) (h1 : Run n .and (st.sign 45) (a, s1)) (h2 : Run n (.minusL (rBut r a)) s1 z) : Run n (.minusL r) st z := by
  obtain ⟨f, h1, h2⟩ := h1.both h2
  exact ⟨f + 1, P_minusL hb h1 h2⟩
theorem Run.minusLE {r : RE} (hb : st.signB 45 = false) : Run n (.minusL r) st (r, st.sign 45) := ⟨1, P_minusLE hb⟩
theorem Run.catL {b : Nat} {t : List Nat} (hs : st.skip.rest = b :: t) (hb : [124, 45, 38, 41].contains b = false) (h1 : Run n .post st.skip (a, s1)) (h2 : Run n (.catL (l ++ [a])) s1 z) : Run n (.catL l) st z := by
  obtain ⟨f, h1, h2⟩ := h1.both h2
  exact ⟨f + 1, P_catL hs hb h1 h2⟩
theorem Run.catLE (h : st.skip.rest = [] ∨ ∃ b t, st.skip.rest = b :: t ∧ [124, 45, 38, 41].contains b = true) : Run n (.catL l) st (rThen l, st.skip) := by
  refine ⟨1, ?_⟩
  rw [P]
  rcases h with h | ⟨b, t, h, hb⟩
  · simp only [h]
  · simp only [h]
    rw [if_pos hb]
theorem Run.star {r : RE} (hb : st.signB 42 = true) (h2 : Run n (.postL (rMany r)) (sized n (rMany r, st.sign 42)) z) : Run n (.postL r) st z := by
  obtain ⟨f, h2⟩ := h2
  exact ⟨f + 1, by rw [P, if_pos hb]; exact h2⟩
theorem Run.plus {r : RE} (h0 : st.signB 42 = false) (hb : (st.sign 42).signB 43 = true) (h2 : Run n (.postL (rThen [r, rMany r])) (sized n (rThen [r, rMany r], (st.sign 42).sign 43)) z) : Run n (.postL r) st z := by
  obtain ⟨f, h2⟩ := h2
  exact ⟨f + 1, by rw [P, if_neg (by simp [h0]), if_pos hb]; exact h2⟩
theorem Run.maybe {r : RE} (h0 : st.signB 42 = false) (h1 : (st.sign 42).signB 43 = false) (hb : ((st.sign 42).sign 43).signB 63 = true) (h2 : Run n (.postL (rAny [r, rEmpty])) (sized n (rAny [r, rEmpty], ((st.sign 42).sign 43).sign 63)) z) : Run n (.postL r) st z := by
  obtain ⟨f, h2⟩ := h2
  exact ⟨f + 1, by rw [P, if_neg (by simp [h0]), if_neg (by simp [h1]), if_pos hb]; exact h2⟩
theorem Run.postLE {r : RE} (h0 : st.signB 42 = false) (h1 : (st.sign 42).signB 43 = false) (hb : ((st.sign 42).sign 43).signB 63 = false) : Run n (.postL r) st (r, ((st.sign 42).sign 43).sign 63) :=
  ⟨1, by rw [P, if_neg (by simp [h0]), if_neg (by simp [h1]), if_neg (by simp [hb])]⟩
theorem Run.paren (hb : st.signB 40 = true) (h1 : Run n .group (st.sign 40) (a, s1)) : Run n .atom st (a, s1.counted n) := by
  obtain ⟨f, h1⟩ := h1
  exact ⟨f + 1, P_paren hb h1 rfl⟩
theorem Run.group (hb : (st.deeper n).signB 41 = false) (h1 : Run n .or ((st.deeper n).sign 41) (a, s1)) : Run n .group st (a, (if s1.signB 41 then s1.sign 41 else (s1.sign 41).fail 2 ((s1.sign 41).pos n)).upper) := by
  obtain ⟨f, h1⟩ := h1
  exact ⟨f + 1, P_group hb h1 rfl⟩
theorem Run.groupE (hb : (st.deeper n).signB 41 = true) : Run n .group st (rEmpty, ((st.deeper n).sign 41).upper) := ⟨1, by rw [P, if_pos hb]⟩
theorem Run.set {s : BitVec 256} (h0 : st.signB 40 = false) (hb : (st.sign 40).signB 91 = true) (h1 : RunC n ((st.sign 40).sign 91) (s, s1)) : Run n .atom st (rOne s, s1.counted n) := by
  obtain ⟨f, h1⟩ := h1
  exact ⟨f + 1, by rw [P, if_neg (by simp [h0]), if_pos hb, h1]; rfl⟩
theorem Run.dot (h0 : st.signB 40 = false) (h1 : (st.sign 40).signB 91 = false) (hb : ((st.sign 40).sign 91).signB 46 = true) : Run n .atom st (rOne allB, (((st.sign 40).sign 91).sign 46).counted n) :=
  ⟨1, by rw [P, if_neg (by simp [h0]), if_neg (by simp [h1]), if_pos hb]⟩
theorem Run.byte (h0 : st.signB 40 = false) (h1 : (st.sign 40).signB 91 = false) (hb : ((st.sign 40).sign 91).signB 46 = false) : Run n .atom st (rOne (setOf [(((st.sign 40).sign 91).sign 46).byteV]), ((((st.sign 40).sign 91).sign 46).byte n).counted n) :=
  ⟨1, by rw [P, if_neg (by simp [h0]), if_neg (by simp [h1]), if_neg (by simp [hb])]⟩
end

/-- What holds of the first error and its place, and of each that can come, holds at the end. -/
def Kept (n : Nat) (J : Nat → Nat → Prop) : Prop := ∀ a b e p, J a b → (e = 2 ∨ e = 3 ∨ e = 4) → p ≤ n → J (if a = 0 then e else a) (if a = 0 then p else b)
section
variable {n : Nat} {J : Nat → Nat → Prop}
theorem keep_fail (hJ : Kept n J) {st : St} {e p : Nat} (h : J st.err st.wh) (he : e = 2 ∨ e = 3 ∨ e = 4) (hp : p ≤ n) : J (st.fail e p).err (st.fail e p).wh := hJ _ _ e p h he hp
theorem pos_le (st : St) : st.pos n ≤ n := Nat.sub_le _ _
theorem keep_sign {st : St} (b : Nat) (h : J st.err st.wh) : J (st.sign b).err (st.sign b).wh := by
  obtain ⟨-, -, h3, h4⟩ := sign_eq b st
  rw [h3, h4]; exact h
theorem keep_here {st : St} (b : Nat) (h : J st.err st.wh) : J (st.here b).err (st.here b).wh := by
  obtain ⟨-, -, h3, h4⟩ := here_eq b st
  rw [h3, h4]; exact h
theorem keep_counted (hJ : Kept n J) {st : St} (h : J st.err st.wh) : J (st.counted n).err (st.counted n).wh := by
  unfold counted
  split
  · exact keep_fail hJ (st := ⟨st.rest, st.deep, st.cnt + 1, st.err, st.wh⟩) h (.inr (.inl rfl)) (pos_le _)
  · exact h
theorem keep_byte (hJ : Kept n J) {st : St} (h : J st.err st.wh) : J (st.byte n).err (st.byte n).wh := by
  unfold byte
  split
  · exact keep_fail hJ h (.inl rfl) (pos_le _)
  · exact h
theorem keep_sized (hJ : Kept n J) {r : RE} {st : St} (h : J st.err st.wh) : J (sized n (r, st)).err (sized n (r, st)).wh := by
  unfold sized
  split
  · exact keep_fail hJ (keep_counted hJ h) (.inr (.inl rfl)) (pos_le _)
  · exact keep_counted hJ h
theorem keep_classL (hJ : Kept n J) : ∀ (f : Nat) (s : BitVec 256) (st : St) (q : BitVec 256) (st' : St), classL n f s st = some (q, st') → J st.err st.wh → J st'.err st'.wh
  | 0, s, st, q, st', h, _ => by simp [classL] at h
  | f + 1, s, st, q, st', h, h0 => by
    unfold classL at h
    split at h
    · injection h with h; injection h with h1 h2
      subst h2
      exact keep_here 93 h0
    · split at h
      · simp only at h
        have h2 := keep_byte hJ h0
        generalize st.byte n = st2 at *
        have h3 : J (if st2.isAt 45 = true then (st2.here 45).byte n else st2).err (if st2.isAt 45 = true then (st2.here 45).byte n else st2).wh := by
          split
          · exact keep_byte hJ (keep_here 45 h2)
          · exact h2
        generalize (if st2.isAt 45 = true then (st2.here 45).byte n else st2) = st3 at *
        generalize (if st2.isAt 45 = true then (st2.here 45).byteV else st.byteV) = high at *
        have h4 : J (if high < st.byteV then st3.fail 2 (st3.pos n) else st3).err (if high < st.byteV then st3.fail 2 (st3.pos n) else st3).wh := by
          split
          · exact keep_fail hJ h3 (.inl rfl) (pos_le _)
          · exact h3
        exact keep_classL hJ f _ _ q st' h h4
      · injection h with h; injection h with h1 h2
        subst h2
        exact h0
theorem keep_clas (hJ : Kept n J) {f : Nat} {st : St} {q : BitVec 256} {st' : St} (h : clas n f st = some (q, st')) (h0 : J st.err st.wh) : J st'.err st'.wh := by
  unfold clas at h
  split at h
  · obtain ⟨⟨a, b⟩, h1, h2⟩ := Option.map_eq_some_iff.1 h
    simp at h2
    obtain ⟨-, rfl⟩ := h2
    exact keep_classL hJ f _ _ _ _ h1 (keep_here 94 h0)
  · exact keep_classL hJ f _ _ _ _ h h0
theorem P_keep (hJ : Kept n J) : ∀ (f : Nat) (m : Md) (st : St) (q : RE) (st' : St), P n f m st = some (q, st') → J st.err st.wh → J st'.err st'.wh
  | 0, m, st, q, st', h, _ => by simp [P] at h
  | f + 1, .or, st, q, st', h, h0 => by
    rw [P] at h
    obtain ⟨⟨a, s1⟩, h1, h2⟩ := Option.bind_eq_some_iff.1 h
    exact P_keep hJ f _ _ _ _ h2 (P_keep hJ f _ _ _ _ h1 h0)
  | f + 1, .minus, st, q, st', h, h0 => by
    rw [P] at h
    obtain ⟨⟨a, s1⟩, h1, h2⟩ := Option.bind_eq_some_iff.1 h
    exact P_keep hJ f _ _ _ _ h2 (P_keep hJ f _ _ _ _ h1 h0)
  | f + 1, .and, st, q, st', h, h0 => by
    rw [P] at h
    obtain ⟨⟨a, s1⟩, h1, h2⟩ := Option.bind_eq_some_iff.1 h
    exact P_keep hJ f _ _ _ _ h2 (P_keep hJ f _ _ _ _ h1 h0)
  | f + 1, .cat, st, q, st', h, h0 => by
    rw [P] at h
    obtain ⟨⟨a, s1⟩, h1, h2⟩ := Option.bind_eq_some_iff.1 h
    exact P_keep hJ f _ _ _ _ h2 (P_keep hJ f _ _ _ _ h1 h0)
  | f + 1, .post, st, q, st', h, h0 => by
    rw [P] at h
    obtain ⟨⟨a, s1⟩, h1, h2⟩ := Option.bind_eq_some_iff.1 h
    exact P_keep hJ f _ _ _ _ h2 (P_keep hJ f _ _ _ _ h1 h0)
  | f + 1, .orL l, st, q, st', h, h0 => by
    rw [P] at h
    split at h
    · obtain ⟨⟨a, s1⟩, h1, h2⟩ := Option.bind_eq_some_iff.1 h
      exact P_keep hJ f _ _ _ _ h2 (P_keep hJ f _ _ _ _ h1 (keep_sign _ h0))
    · injection h with h; injection h with h1 h2
      subst h2
      exact keep_sign _ h0
  | f + 1, .minusL l, st, q, st', h, h0 => by
    rw [P] at h
    split at h
    · obtain ⟨⟨a, s1⟩, h1, h2⟩ := Option.bind_eq_some_iff.1 h
      exact P_keep hJ f _ _ _ _ h2 (P_keep hJ f _ _ _ _ h1 (keep_sign _ h0))
    · injection h with h; injection h with h1 h2
      subst h2
      exact keep_sign _ h0
  | f + 1, .andL l, st, q, st', h, h0 => by
    rw [P] at h
    split at h
    · obtain ⟨⟨a, s1⟩, h1, h2⟩ := Option.bind_eq_some_iff.1 h
      exact P_keep hJ f _ _ _ _ h2 (P_keep hJ f _ _ _ _ h1 (keep_sign _ h0))
    · injection h with h; injection h with h1 h2
      subst h2
      exact keep_sign _ h0
  | f + 1, .catL l, st, q, st', h, h0 => by
    rw [P] at h
    split at h
    · injection h with h; injection h with h1 h2
      subst h2
      exact h0
    · split at h
      · injection h with h; injection h with h1 h2
        subst h2
        exact h0
      · obtain ⟨⟨a, s1⟩, h1, h2⟩ := Option.bind_eq_some_iff.1 h
        exact P_keep hJ f _ _ _ _ h2 (P_keep hJ f _ _ _ _ h1 h0)
  | f + 1, .postL r, st, q, st', h, h0 => by
    rw [P] at h
    split at h
    · exact P_keep hJ f _ _ _ _ h (keep_sized hJ (keep_sign _ h0))
    split at h
    · exact P_keep hJ f _ _ _ _ h (keep_sized hJ (keep_sign _ (keep_sign _ h0)))
    split at h
    · exact P_keep hJ f _ _ _ _ h (keep_sized hJ (keep_sign _ (keep_sign _ (keep_sign _ h0))))
    · injection h with h; injection h with h1 h2
      subst h2
      exact keep_sign _ (keep_sign _ (keep_sign _ h0))
  | f + 1, .atom, st, q, st', h, h0 => by
    rw [P] at h
    split at h
    · obtain ⟨⟨a, s1⟩, h1, h2⟩ := Option.map_eq_some_iff.1 h
      injection h2 with h2 h3
      subst h3
      exact keep_counted hJ (P_keep hJ f _ _ _ _ h1 (keep_sign _ h0))
    split at h
    · obtain ⟨⟨a, s1⟩, h1, h2⟩ := Option.map_eq_some_iff.1 h
      injection h2 with h2 h3
      subst h3
      exact keep_counted hJ (keep_clas hJ h1 (keep_sign _ (keep_sign _ h0)))
    split at h
    · injection h with h; injection h with h1 h2
      subst h2
      exact keep_counted hJ (keep_sign _ (keep_sign _ (keep_sign _ h0)))
    · injection h with h; injection h with h1 h2
      subst h2
      exact keep_counted hJ (keep_byte hJ (keep_sign _ (keep_sign _ (keep_sign _ h0))))
  | f + 1, .group, st, q, st', h, h0 => by
    have hd : J (st.deeper n).err (st.deeper n).wh := by
      unfold deeper
      split
      · exact keep_fail hJ (st := ⟨st.rest, st.deep + 1, st.cnt, st.err, st.wh⟩) h0 (.inr (.inr rfl)) (by have := pos_le (n := n) st; show n - st.rest.length - 1 ≤ n; omega)
      · exact h0
    rw [P] at h
    generalize st.deeper n = sd at *
    split at h
    · injection h with h; injection h with h1 h2
      subst h2
      exact keep_sign 41 hd
    · obtain ⟨⟨a, s1⟩, h1, h2⟩ := Option.map_eq_some_iff.1 h
      injection h2 with h2 h3
      subst h3
      have h4 := P_keep hJ f _ _ _ _ h1 (keep_sign _ hd)
      show J (if s1.signB 41 = true then s1.sign 41 else (s1.sign 41).fail 2 ((s1.sign 41).pos n)).err (if s1.signB 41 = true then s1.sign 41 else (s1.sign 41).fail 2 ((s1.sign 41).pos n)).wh
      split
      · exact keep_sign 41 h4
      · exact keep_fail hJ (keep_sign 41 h4) (.inl rfl) (pos_le _)
end
/-- Once there is an error, it stays. -/
theorem Run.err {n : Nat} {m : Md} {st st' : St} {q : RE} (h : Run n m st (q, st')) (h0 : st.err ≠ 0) : st'.err = st.err ∧ st'.wh = st.wh := by
  obtain ⟨f, h⟩ := h
  exact P_keep (n := n) (J := fun a b => a = st.err ∧ b = st.wh) (fun a b e p hj _ _ => by
    obtain ⟨rfl, rfl⟩ := hj
    rw [if_neg h0, if_neg h0]; exact ⟨rfl, rfl⟩) f m st q st' h ⟨rfl, rfl⟩
/-- Which errors there are, and where. -/
theorem Run.errs {n : Nat} {m : Md} {st st' : St} {q : RE} (h : Run n m st (q, st')) (h0 : st.err = 0 ∨ st.err = 2 ∨ st.err = 3 ∨ st.err = 4) (h1 : st.wh ≤ n) : (st'.err = 0 ∨ st'.err = 2 ∨ st'.err = 3 ∨ st'.err = 4) ∧ st'.wh ≤ n := by
  obtain ⟨f, h⟩ := h
  exact P_keep (n := n) (J := fun a b => (a = 0 ∨ a = 2 ∨ a = 3 ∨ a = 4) ∧ b ≤ n) (fun a b e p hj he hp => by
    obtain ⟨hj, hb⟩ := hj
    split
    · exact ⟨.inr he, hp⟩
    · exact ⟨hj, hb⟩) f m st q st' h ⟨h0, h1⟩
/-- It always comes to an end. -/
theorem Run.total {n : Nat} {m : Md} {c0 : Nat} {st : St} (ho : Ok st) (hp : Pre c0 st m) : ∃ r st', Run n m st (r, st') := by
  obtain ⟨⟨r, st'⟩, h⟩ := P_total n (20 * st.rest.length + rankM m + 1) m c0 st ho hp (by omega)
  exact ⟨r, st', _, h⟩
end Go.Proofs.YtdbdjjjmomociaaGreatDoor
/- An expression in the settled form, with its own kids, is itself. -/
namespace Go.Proofs.YtdbdjjjmomociaaGreatDoor
set_option maxRecDepth 100000
set_option linter.unusedSimpArgs false
set_option linter.unusedVariables false
open Go.RowKit

theorem flatL_same {o : Nat} {l : List RE} (h : ∀ k ∈ l, k.op ≠ o) : flatL o l = l := by
  induction l with
  | nil => rfl
  | cons x l ih =>
    have hx := h x (by simp)
    have hl := ih fun k hk => h k (by simp [hk])
    unfold flatL at *
    rw [List.flatMap_cons, if_neg hx, hl]; rfl
theorem catL_same {l : List RE} (h : ∀ k ∈ l, k.op ≠ 1 ∧ k.op ≠ 3) : catL l = l := by
  induction l with
  | nil => rfl
  | cons x l ih =>
    have hx := h x (by simp)
    have hl := ih fun k hk => h k (by simp [hk])
    unfold catL at *
    rw [List.flatMap_cons, hl]
    unfold catK
    rw [if_neg hx.1, if_neg hx.2]; rfl
theorem rOne_set (c : BitVec 256) (h : c ≠ 0#256) : rOne c = .mk 2 c [] := by unfold rOne; rw [if_neg h]
theorem wf_class {r : RE} (hw : Wf r) (h : r.op = 2) : r = rOne r.set ∧ r.set ≠ 0#256 := by
  obtain ⟨h1, h2⟩ := hw.shp.cls h
  refine ⟨?_, h2⟩
  rw [rOne_set _ h2, ← h, ← h1]; exact r.eta
/-- At most one Class: what is gathered of them. -/
theorem orSet_one {l : List RE} : (∀ k ∈ l, k.op ≠ 2) → ∀ s, l.foldl (fun s r => if r.op = 2 then s ||| r.set else s) s = s := by
  induction l with
  | nil => intro _ s; rfl
  | cons x l ih =>
    intro h s
    rw [List.foldl_cons, if_neg (h x (by simp))]
    exact ih (fun k hk => h k (by simp [hk])) s
theorem andSet_one {l : List RE} : (∀ k ∈ l, k.op ≠ 2) → ∀ s, l.foldl (fun s r => if r.op = 2 then s &&& r.set else s) s = s := by
  induction l with
  | nil => intro _ s; rfl
  | cons x l ih =>
    intro h s
    rw [List.foldl_cons, if_neg (h x (by simp))]
    exact ih (fun k hk => h k (by simp [hk])) s
/-- A list with one Class at most, apart. -/
theorem one_class {l : List RE} (hc : (l.filter fun k => k.op == 2).length ≤ 1) : (∀ k ∈ l, k.op ≠ 2) ∨ ∃ a x b, l = a ++ x :: b ∧ x.op = 2 ∧ (∀ k ∈ a, k.op ≠ 2) ∧ ∀ k ∈ b, k.op ≠ 2 := by
  induction l with
  | nil => left; simp
  | cons x l ih =>
    by_cases hx : x.op = 2
    · right
      refine ⟨[], x, l, rfl, hx, by simp, fun k hk e => ?_⟩
      rw [List.filter_cons, if_pos (by simp [hx])] at hc
      have : k ∈ l.filter (fun k => k.op == 2) := List.mem_filter.2 ⟨hk, by simp [e]⟩
      have := List.length_pos_of_mem this
      rw [List.length_cons] at hc
      omega
    · rw [List.filter_cons, if_neg (by simp [hx])] at hc
      rcases ih hc with h | ⟨a, y, b, rfl, h1, h2, h3⟩
      · left
        intro k hk
        rcases List.mem_cons.1 hk with rfl | hk
        · exact hx
        · exact h k hk
      · right
        refine ⟨x :: a, y, b, rfl, h1, fun k hk => ?_, h3⟩
        rcases List.mem_cons.1 hk with rfl | hk
        · exact hx
        · exact h2 k hk
theorem mem_orKeep {l : List RE} (h0 : ∀ k ∈ l, k.op ≠ 0) (r : RE) : r ∈ orKeep l ↔ r ∈ l ∧ r.op ≠ 2 := by
  unfold orKeep
  rw [List.mem_filter]
  constructor
  · rintro ⟨h1, h2⟩; simp at h2; exact ⟨h1, h2.2⟩
  · rintro ⟨h1, h2⟩; exact ⟨h1, by simp [h0 r h1, h2]⟩
theorem any_same {r : RE} (hw : Wf r) (h4 : r.op = 4) : rAny r.kids = r := by
  obtain ⟨h2, hk, hup, hc⟩ := hw.shp.or (.inl h4)
  have hset := hw.shp.set (by omega)
  have hkw := hw.kid
  have hf : flatL 4 r.kids = r.kids := flatL_same fun k hk' => by have := (hk k hk').2; rwa [h4] at this
  have h0 : ∀ k ∈ r.kids, k.op ≠ 0 := fun k hk' => (hk k hk').1
  have key : ∀ ks, (∀ x, x ∈ ks ↔ x ∈ r.kids) → (∀ x ∈ ks, WfK x) → ordL ks = r.kids := fun ks h1 h3 => (ordL_eq h3 hup fun x => (h1 x).symm).symm
  have hne : r.kids ≠ [] := fun e => by rw [e] at h2; simp at h2
  have fin : ∀ ks, (∀ x, x ∈ ks ↔ x ∈ r.kids) → (∀ x ∈ ks, WfK x) → (if ks = [] then rNothing else rJoin 4 (ordL ks)) = r := fun ks h1 h3 => by
    rw [if_neg (fun e => hne (List.eq_nil_iff_forall_not_mem.2 fun x hx => by have := (h1 x).2 hx; rw [e] at this; simp at this)), key ks h1 h3, rJoin_more _ _ (by omega)]
    rw [← hset, ← h4]; exact r.eta.symm
  unfold rAny
  simp only [hf]
  rcases one_class hc with hn | ⟨a, x, b, e, hx, ha, hb⟩
  · have hs : orSet r.kids = 0#256 := orSet_one hn _
    rw [if_pos hs, List.append_nil]
    refine fin _ (fun y => ?_) (fun y hy => (hkw y ((mem_orKeep h0 y).1 hy).1).k)
    rw [mem_orKeep h0]
    exact ⟨fun h => h.1, fun h => ⟨h, hn y h⟩⟩
  · have hxm : x ∈ r.kids := by rw [e]; simp
    obtain ⟨hx1, hx2⟩ := wf_class (hkw x hxm) hx
    have hs : orSet r.kids = x.set := by
      unfold orSet
      rw [e, List.foldl_append, orSet_one ha, List.foldl_cons, if_pos hx, orSet_one hb]; simp
    rw [hs, if_neg hx2, ← hx1]
    have hm : ∀ y, y ∈ orKeep r.kids ++ [x] ↔ y ∈ r.kids := fun y => by
      rw [List.mem_append, mem_orKeep h0]
      constructor
      · rintro (h | h)
        · exact h.1
        · simp at h; subst h; exact hxm
      · intro h
        by_cases hy : y.op = 2
        · right
          rw [e] at h
          rcases List.mem_append.1 h with h | h
          · exact absurd hy (ha y h)
          · rcases List.mem_cons.1 h with rfl | h
            · simp
            · exact absurd hy (hb y h)
        · exact .inl ⟨h, hy⟩
    exact fin _ hm (fun y hy => (hkw y ((hm y).1 hy)).k)
theorem both_same {r : RE} (hw : Wf r) (h6 : r.op = 6) : rBoth r.kids = r := by
  obtain ⟨h2, hk, hup, hc⟩ := hw.shp.or (.inr h6)
  have hset := hw.shp.set (by omega)
  have hkw := hw.kid
  have hf : flatL 6 r.kids = r.kids := flatL_same fun k hk' => by have := (hk k hk').2; rwa [h6] at this
  have h0 : ∀ k ∈ r.kids, k.op ≠ 0 := fun k hk' => (hk k hk').1
  have hany : r.kids.any (fun r => r.op == 0) = false := List.any_eq_false.2 fun k hk' => by simp [h0 k hk']
  have key : ∀ ks, (∀ x, x ∈ ks ↔ x ∈ r.kids) → (∀ x ∈ ks, WfK x) → ordL ks = r.kids := fun ks h1 h3 => (ordL_eq h3 hup fun x => (h1 x).symm).symm
  have hne : r.kids ≠ [] := fun e => by rw [e] at h2; simp at h2
  have fin : ∀ ks, (∀ x, x ∈ ks ↔ x ∈ r.kids) → (∀ x ∈ ks, WfK x) → (if ks = [] then rMany (rOne allB) else rJoin 6 (ordL ks)) = r := fun ks h1 h3 => by
    rw [if_neg (fun e => hne (List.eq_nil_iff_forall_not_mem.2 fun x hx => by have := (h1 x).2 hx; rw [e] at this; simp at this)), key ks h1 h3, rJoin_more _ _ (by omega)]
    rw [← hset, ← h6]; exact r.eta.symm
  unfold rBoth
  simp only [hf]
  rw [if_neg (by rw [hany]; simp)]
  rcases one_class hc with hn | ⟨a, x, b, e, hx, ha, hb⟩
  · have hs : andSet r.kids = allB := andSet_one hn _
    have hm : met r.kids = false := List.any_eq_false.2 fun k hk' => by simp [hn k hk']
    rw [hs, if_neg (by decide +kernel), hm]
    simp only [Bool.false_eq_true, if_false, List.append_nil]
    refine fin _ (fun y => ?_) (fun y hy => (hkw y ((mem_orKeep h0 y).1 hy).1).k)
    rw [mem_orKeep h0]
    exact ⟨fun h => h.1, fun h => ⟨h, hn y h⟩⟩
  · have hxm : x ∈ r.kids := by rw [e]; simp
    obtain ⟨hx1, hx2⟩ := wf_class (hkw x hxm) hx
    have hs : andSet r.kids = x.set := by
      unfold andSet
      rw [e, List.foldl_append, andSet_one ha, List.foldl_cons, if_pos hx, andSet_one hb]
      have : allB = BitVec.allOnes 256 := by decide +kernel
      rw [this, BitVec.allOnes_and]
    have hm' : met r.kids = true := List.any_eq_true.2 ⟨x, hxm, by simp [hx]⟩
    rw [hs, if_neg hx2, hm', if_pos rfl, ← hx1]
    have hm : ∀ y, y ∈ orKeep r.kids ++ [x] ↔ y ∈ r.kids := fun y => by
      rw [List.mem_append, mem_orKeep h0]
      constructor
      · rintro (h | h)
        · exact h.1
        · simp at h; subst h; exact hxm
      · intro h
        by_cases hy : y.op = 2
        · right
          rw [e] at h
          rcases List.mem_append.1 h with h | h
          · exact absurd hy (ha y h)
          · rcases List.mem_cons.1 h with rfl | h
            · simp
            · exact absurd hy (hb y h)
        · exact .inl ⟨h, hy⟩
    exact fin _ hm (fun y hy => (hkw y ((hm y).1 hy)).k)
theorem with_same {r : RE} (hw : Wf r) : rWith r r.kids = r := by
  have hs := hw.shp
  unfold rWith
  split
  · rename_i h3
    obtain ⟨h2, hk⟩ := hs.cat h3
    unfold rThen
    rw [if_neg (by
      rw [List.any_eq_true]
      rintro ⟨k, hk', e⟩
      exact (hk k hk').1 (by simpa using e)), catL_same (fun k hk' => (hk k hk').2), if_neg (fun e => by rw [e] at h2; simp at h2), rJoin_more _ _ (by omega)]
    rw [← hs.set (by omega), ← h3]; exact r.eta.symm
  · split
    · exact any_same hw (by assumption)
    · split
      · exact both_same hw (by assumption)
      · split
        · rename_i h5
          obtain ⟨k, hk, h1, h2, h3⟩ := hs.star h5.1
          rw [hk]
          show rMany k = r
          unfold rMany
          rw [if_neg (by omega), if_neg h3, ← hk, ← hs.set (by omega), ← h5.1]; exact r.eta.symm
        · split
          · rename_i h7
            obtain ⟨a, b, hk, h1, h2, h3, h4⟩ := hs.minus h7.1
            have ha := (hw.kid a (by rw [hk]; simp)).k
            have hb := (hw.kid b (by rw [hk]; simp)).k
            rw [hk]
            show rBut a b = r
            unfold rBut
            rw [if_neg (by omega), if_neg h4, if_neg (fun e => h3 (key_inj ha hb (lexN_zero _ _ e))), ← hk, ← hs.set (by omega), ← h7.1]; exact r.eta.symm
          · rfl
theorem wf_with {r : RE} (hw : Wf r) {l : List RE} (hl : ∀ x ∈ l, Wf x) : Wf (rWith r l) := by
  have hg : ∀ i, Wf (l.getD i rNothing) := fun i => by
    by_cases hi : i < l.length
    · rw [show l.getD i rNothing = l[i] from by simp [List.getD_eq_getElem?_getD, hi]]; exact hl _ (List.getElem_mem hi)
    · rw [show l.getD i rNothing = rNothing from by simp [List.getD_eq_getElem?_getD, hi]]; exact wf_nothing
  unfold rWith
  split
  · exact wf_then hl
  · split
    · exact wf_any hl
    · split
      · exact wf_both hl
      · split
        · exact wf_many (hg 0)
        · split
          · exact wf_but (hg 0) (hg 1)
          · exact hw
end Go.Proofs.YtdbdjjjmomociaaGreatDoor
