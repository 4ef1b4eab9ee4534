/- Many, But. -/
import Derived.Test.YtkjmjppmpcnejaaGreatDoorReJ
namespace Go.Proofs.YtkjmjppmpcnejaaGreatDoor
set_option maxRecDepth 100000
set_option linter.unusedSimpArgs false
set_option linter.unusedVariables false
open Go.RowKit

def rMany (r : RE) : RE := if r.op = 0 ∨ r.op = 1 then rEmpty else if r.op = 5 then r else .mk 5 0#256 [r]
theorem resRow_one {w : World} {b : Nat} {r : RE} {g : Nat} (hg : Blk w g #[PT b] 26) (h : ReAt w b r) : ResRow w (.slice (some ⟨g, 0, none⟩) 1 1) [r] :=
  ⟨fun _ => b, ⟨⟨by simp, .mk (by omega)⟩, _, 1, rfl, fun k hk => ⟨g, 0, rfl, hg.lt, by
    have hk2 : k = 0 := by simp at hk; omega
    subst hk2
    exact hg.cell 0⟩⟩, fun i k hk => by
    have : i = 0 := by have := (List.getElem?_eq_some_iff.1 hk).1; simp at this; omega
    subst this; simp at hk; subst hk; exact h⟩
theorem resRow_two {w : World} {a b : Nat} {r o : RE} {g : Nat} (hg : Blk w g #[PT a, PT b] 26) (h : ReAt w a r) (h' : ReAt w b o) : ResRow w (.slice (some ⟨g, 0, none⟩) 2 2) [r, o] :=
  ⟨fun i => if i = 0 then a else b, ⟨⟨by simp, .mk (by omega)⟩, _, 2, rfl, fun k hk => ⟨g, 0, rfl, hg.lt, by
    have hk2 : k = 0 ∨ k = 1 := by simp at hk; omega
    rcases hk2 with rfl | rfl
    · exact hg.cell 0
    · exact hg.cell 1⟩⟩, fun i k hk => by
    have hi : i = 0 ∨ i = 1 := by have := (List.getElem?_eq_some_iff.1 hk).1; simp at this; omega
    rcases hi with rfl | rfl
    · simp at hk; subst hk; exact h
    · simp at hk; subst hk; exact h'⟩
set_option maxHeartbeats 1000000 in
theorem many_any (b : Nat) (r : RE) (w : World) (h : ReAt w b r) :
    Calls Tryz.prog 37 #[PT b] w fun e w' => ∃ b', e = .returned (PT b') ∧ ReAt w' b' (rMany r) ∧ Below w.heap.size w w' := by
  have c0 := h.cell0
  obtain ⟨res, hres⟩ : ∃ res, res = rMany r := ⟨_, rfl⟩
  rw [← hres]
  unfold rMany at hres
  have HRES := hide hres
  have HR := hide h
  clear hres h
  go_enter Tryz.func37, Tryz.ntmps37
  go_wp2_with fail
  refine (settled_any b r w HR.out).mono ?_
  rintro e w1 ⟨rfl, rfl⟩
  unfold PT
  by_cases h0 : r.op = 0
  · have e0 : ((r.op : Int) == 0) = true := by simp [h0]
    have HX := hide (show res = rEmpty from by have := HRES.out; rw [if_pos (.inl h0)] at this; exact this)
    clear h0
    go_wp2_with fail
    refine (empty_re _).mono ?_
    rintro e w2 ⟨b', rfl, h1, h2⟩
    go_wp2
    go_ret
    exact ⟨b', rfl, by rw [HX.out]; exact h1, h2⟩
  · have e0 : ((r.op : Int) == 0) = false := beq_eq_false_iff_ne.2 (by omega)
    by_cases h1 : r.op = 1
    · have e1 : ((r.op : Int) == 1) = true := by simp [h1]
      have HX := hide (show res = rEmpty from by have := HRES.out; rw [if_pos (.inr h1)] at this; exact this)
      clear h0 h1
      go_wp2_with fail
      refine (empty_re _).mono ?_
      rintro e w2 ⟨b', rfl, h1, h2⟩
      go_wp2
      go_ret
      exact ⟨b', rfl, by rw [HX.out]; exact h1, h2⟩
    · have e1 : ((r.op : Int) == 1) = false := beq_eq_false_iff_ne.2 (by omega)
      by_cases h5 : r.op = 5
      · have e5 : ((r.op : Int) == 5) = true := by simp [h5]
        have HX := hide (show res = r from by have := HRES.out; rw [if_neg (by omega), if_pos h5] at this; exact this)
        clear h0 h1 h5
        go_wp2
        go_ret
        exact ⟨b, rfl, by rw [HX.out]; exact HR.out, Below.refl _ _⟩
      · have e5 : ((r.op : Int) == 5) = false := beq_eq_false_iff_ne.2 (by omega)
        have HX := hide (show res = .mk 5 0#256 [r] from by have := HRES.out; rw [if_neg (by omega), if_neg h5] at this; exact this)
        clear h0 h1 h5
        go_wp2_with fail
        have hb := (Below.refl w1.heap.size w1).alloc (Nat.le_refl _) (.cells #[PT b] 26)
        refine (made_any 5 0#256 [r] _ _ (by omega) (by omega) (resRow_one (Blk.newAt rfl #[PT b] 26) (HR.out.keep hb))).mono ?_
        rintro e w2 ⟨b', rfl, h1, h2⟩
        go_wp2
        go_ret
        exact ⟨b', rfl, by rw [HX.out]; exact h1, hb.trans (h2.mono (by simp))⟩

def rBut (a b : RE) : RE := if a.op = 0 ∨ b.op = 0 then a else if a.op = 2 ∧ b.op = 2 then rOne (a.set &&& ~~~b.set) else if lexN a.key b.key = 0 then rNothing else .mk 7 0#256 [a, b]
set_option maxHeartbeats 1000000 in
theorem but_any (b b' : Nat) (r o : RE) (w : World) (h : ReAt w b r) (h' : ReAt w b' o) (hr : WfK r) (ho : WfK o) (hT : TabAt w) :
    Calls Tryz.prog 29 #[PT b, PT b'] w fun e w' => ∃ c, e = .returned (PT c) ∧ ReAt w' c (rBut r o) ∧ Below w.heap.size w w' := by
  have c0 := h.cell0
  have d0 := h'.cell0
  obtain ⟨res, hres⟩ : ∃ res, res = rBut r o := ⟨_, rfl⟩
  rw [← hres]
  unfold rBut at hres
  have HRES := hide hres
  have HR := hide h
  have HO := hide h'
  have HT := hide hT
  clear hres h h' hT
  go_enter Tryz.func29, Tryz.ntmps29
  go_wp2_with fail
  refine (settled_any b r w HR.out).mono ?_
  rintro e w1 ⟨rfl, rfl⟩
  go_wp2_with fail
  refine (settled_any b' o _ HO.out).mono ?_
  rintro e w1 ⟨rfl, rfl⟩
  unfold PT
  by_cases h0 : r.op = 0
  · have e0 : ((r.op : Int) == 0) = true := by simp [h0]
    have HX := hide (show res = r from by have := HRES.out; rw [if_pos (.inl h0)] at this; exact this)
    clear h0
    go_wp2
    go_ret
    exact ⟨b, rfl, by rw [HX.out]; exact HR.out, Below.refl _ _⟩
  · have e0 : ((r.op : Int) == 0) = false := beq_eq_false_iff_ne.2 (by omega)
    by_cases k0 : o.op = 0
    · have f0 : ((o.op : Int) == 0) = true := by simp [k0]
      have HX := hide (show res = r from by have := HRES.out; rw [if_pos (.inr k0)] at this; exact this)
      clear h0 k0
      go_wp2
      go_ret
      exact ⟨b, rfl, by rw [HX.out]; exact HR.out, Below.refl _ _⟩
    · have f0 : ((o.op : Int) == 0) = false := beq_eq_false_iff_ne.2 (by omega)
      have HX := hide (show res = if r.op = 2 ∧ o.op = 2 then rOne (r.set &&& ~~~o.set) else if lexN r.key o.key = 0 then rNothing else .mk 7 0#256 [r, o] from by have := HRES.out; rw [if_neg (by omega)] at this; exact this)
      clear h0 k0 HRES
      by_cases h22 : r.op = 2 ∧ o.op = 2
      · have e2 : ((r.op : Int) == 2) = true := by simp [h22.1]
        have f2 : ((o.op : Int) == 2) = true := by simp [h22.2]
        have HY := hide (show res = rOne (r.set &&& ~~~o.set) from by have := HX.out; rw [if_pos h22] at this; exact this)
        clear h22 HX
        go_wp2
        rw [show Value.pointer (some ⟨b, 0, none⟩) = PT b from rfl, show Value.pointer (some ⟨b', 0, none⟩) = PT b' from rfl]
        obtain ⟨S, hSd⟩ : ∃ S : World → Prop, S = fun W => Below w1.heap.size w1 W := ⟨_, rfl⟩
        have hSb : ∀ W, S W → Below w1.heap.size w1 W := fun W h => by rw [hSd] at h; exact h
        have hbS : ∀ W, Below w1.heap.size w1 W → S W := fun W h => by rw [hSd]; exact h
        have hS : S { w1 with drawn := w1.drawn + 1 } := hbS _ ⟨rfl, rfl, rfl, Nat.le_refl _, fun _ _ => rfl⟩
        clear hSd
        refine wp_region_noPanic (wp_region_held (S := S) (by kernel_rfl) ?_)
        show wpAnyH _ _ _ _ _ 11 #[false, false, false, false, false, false, false, false, false, false, false] _ _
        generalize ({ w1 with drawn := w1.drawn + 1 } : World) = W at hS ⊢
        refine h_take 0 (PT b) rfl (by kernel_rfl) (by kernel_rfl) (by kernel_rfl) rfl (fun w hw => x_move _ _ _ _ _ _ _ _ rfl w) hS ?_
        simp only [Act.put, List.setIfInBounds_toArray, List.set_cons_succ, List.set_cons_zero]
        refine h_take 1 (PT b) rfl (by kernel_rfl) (by kernel_rfl) (by kernel_rfl) rfl (fun w hw => x_nilCheck _ _ _ _ _ _ _ _ rfl w) hS ?_
        simp only [Act.put, List.setIfInBounds_toArray, List.set_cons_succ, List.set_cons_zero]
        refine h_take 2 (.pointer (some ⟨b, 1, none⟩)) rfl (by kernel_rfl) (by kernel_rfl) (by kernel_rfl) rfl (fun w hw => x_field1 _ _ _ _ _ _ _ _ rfl w) hS ?_
        simp only [Act.put, List.setIfInBounds_toArray, List.set_cons_succ, List.set_cons_zero]
        refine h_take 3 (SV r.set) rfl (by kernel_rfl) (by kernel_rfl) (by kernel_rfl) rfl (fun w hw => x_loadAt _ _ _ _ _ _ _ _ _ _ rfl w (HR.out.keep (hSb w hw)).cellS) hS ?_
        simp only [Act.put, List.setIfInBounds_toArray, List.set_cons_succ, List.set_cons_zero]
        refine h_take 4 (PT b') rfl (by kernel_rfl) (by kernel_rfl) (by kernel_rfl) rfl (fun w hw => x_move _ _ _ _ _ _ _ _ rfl w) hS ?_
        simp only [Act.put, List.setIfInBounds_toArray, List.set_cons_succ, List.set_cons_zero]
        refine h_take 5 (PT b') rfl (by kernel_rfl) (by kernel_rfl) (by kernel_rfl) rfl (fun w hw => x_nilCheck _ _ _ _ _ _ _ _ rfl w) hS ?_
        simp only [Act.put, List.setIfInBounds_toArray, List.set_cons_succ, List.set_cons_zero]
        refine h_take 6 (.pointer (some ⟨b', 1, none⟩)) rfl (by kernel_rfl) (by kernel_rfl) (by kernel_rfl) rfl (fun w hw => x_field1 _ _ _ _ _ _ _ _ rfl w) hS ?_
        simp only [Act.put, List.setIfInBounds_toArray, List.set_cons_succ, List.set_cons_zero]
        refine h_take 7 (SV o.set) rfl (by kernel_rfl) (by kernel_rfl) (by kernel_rfl) rfl (fun w hw => x_loadAt _ _ _ _ _ _ _ _ _ _ rfl w (HO.out.keep (hSb w hw)).cellS) hS ?_
        simp only [Act.put, List.setIfInBounds_toArray, List.set_cons_succ, List.set_cons_zero]
        refine h_callE 8 56 #[SV r.set, SV o.set] (fun v w' => v = SV (r.set &&& ~~~o.set) ∧ Below w1.heap.size w1 w') rfl (by kernel_rfl) rfl (x_call2 _ _ _ _ _ _ _ _ _ _ _ _ _ rfl rfl rfl (enters_of Tryz.func56 (by kernel_rfl) rfl) _) ((minus_any r.set o.set _).mono fun e w' h => ⟨_, h.1, rfl, (hSb _ hS).trans (h.2.mono (hSb _ hS).size)⟩) (fun v w' h => hbS _ h.2) ?_
        rintro v3 W3 ⟨rfl, hb3⟩
        simp only [Act.put, List.setIfInBounds_toArray, List.set_cons_succ, List.set_cons_zero]
        refine h_callE 9 19 #[SV (r.set &&& ~~~o.set)] (fun v w' => ∃ c, v = PT c ∧ ReAt w' c (rOne (r.set &&& ~~~o.set)) ∧ Below w1.heap.size w1 w') rfl (by kernel_rfl) rfl (x_call1 _ _ _ _ _ _ _ _ _ _ rfl rfl (enters_of Tryz.func19 (by kernel_rfl) rfl) _) ((one_any _ _).mono fun e w' ⟨c, h1, h2, h3⟩ => ⟨_, h1, c, rfl, h2, hb3.trans (h3.mono hb3.size)⟩) (fun v w' ⟨c, _, _, h⟩ => hbS _ h) ?_
        rintro v4 W4 ⟨c, rfl, h4, hb4⟩
        simp only [Act.put, List.setIfInBounds_toArray, List.set_cons_succ, List.set_cons_zero]
        have hS4 := hbS _ hb4
        refine h_take 10 (PT c) rfl (by kernel_rfl) (by kernel_rfl) (by kernel_rfl) rfl (fun w hw => x_assign _ _ _ _ _ _ _ _ rfl w) hS4 ?_
        simp only [Act.put, List.setIfInBounds_toArray, List.set_cons_succ, List.set_cons_zero]
        refine wpAnyH_done (by kernel_rfl) ?_ _
        refine NoPanic.normal ?_
        have H4 := hide h4
        have HB4 := hide hb4
        clear hS hSb hbS hb3 h4 hb4 hS4
        go_wp2
        go_ret
        exact ⟨c, rfl, by rw [HY.out]; exact H4.out, HB4.out⟩
      · have HY := hide (show res = if lexN r.key o.key = 0 then rNothing else .mk 7 0#256 [r, o] from by have := HX.out; rw [if_neg h22] at this; exact this)
        have hsame := same_re r o b b' w1 hr ho HR.out HO.out HT.out
        have hgo : ∀ (P : Prop), (((r.op : Int) == 2) = true → ((o.op : Int) == 2) = false → P) → (((r.op : Int) == 2) = false → P) → P := fun P h1 h2 => by
          by_cases e : r.op = 2
          · exact h1 (by simp [e]) (beq_eq_false_iff_ne.2 (by omega))
          · exact h2 (beq_eq_false_iff_ne.2 (by omega))
        clear h22 HX
        refine hgo _ (fun e2 f2 => ?_) (fun e2 => ?_)
        · go_wp2_with fail
          refine hsame.mono ?_
          rintro e w2 ⟨rfl, hm⟩
          have HM := hide hm
          clear hm hsame hgo
          by_cases hz : lexN r.key o.key = 0
          · rw [show (lexN r.key o.key == 0) = true from by simp [hz]]
            have HZ := hide (show res = rNothing from by have := HY.out; rw [if_pos hz] at this; exact this)
            clear hz HY
            go_wp2_with fail
            refine (nothing_any _).mono ?_
            rintro e w3 ⟨c, rfl, h1, h2⟩
            go_wp2
            go_ret
            exact ⟨c, rfl, by rw [HZ.out]; exact h1, HM.out.below.trans (h2.mono HM.out.below.size)⟩
          · rw [show (lexN r.key o.key == 0) = false from beq_eq_false_iff_ne.2 hz]
            have HZ := hide (show res = .mk 7 0#256 [r, o] from by have := HY.out; rw [if_neg hz] at this; exact this)
            clear hz HY
            go_wp2_with fail
            have hb := (Below.refl w2.heap.size w2).alloc (Nat.le_refl _) (.cells #[PT b, PT b'] 26)
            refine (made_any 7 0#256 [r, o] _ _ (by omega) (by simp) (resRow_two (Blk.newAt rfl #[PT b, PT b'] 26) ((HR.out.keep HM.out.below).keep hb) ((HO.out.keep HM.out.below).keep hb))).mono ?_
            rintro e w3 ⟨c, rfl, h1, h2⟩
            go_wp2
            go_ret
            exact ⟨c, rfl, by rw [HZ.out]; exact h1, HM.out.below.trans ((hb.trans (h2.mono (by simp))).mono HM.out.below.size)⟩
        · go_wp2_with fail
          refine hsame.mono ?_
          rintro e w2 ⟨rfl, hm⟩
          have HM := hide hm
          clear hm hsame hgo
          by_cases hz : lexN r.key o.key = 0
          · rw [show (lexN r.key o.key == 0) = true from by simp [hz]]
            have HZ := hide (show res = rNothing from by have := HY.out; rw [if_pos hz] at this; exact this)
            clear hz HY
            go_wp2_with fail
            refine (nothing_any _).mono ?_
            rintro e w3 ⟨c, rfl, h1, h2⟩
            go_wp2
            go_ret
            exact ⟨c, rfl, by rw [HZ.out]; exact h1, HM.out.below.trans (h2.mono HM.out.below.size)⟩
          · rw [show (lexN r.key o.key == 0) = false from beq_eq_false_iff_ne.2 hz]
            have HZ := hide (show res = .mk 7 0#256 [r, o] from by have := HY.out; rw [if_neg hz] at this; exact this)
            clear hz HY
            go_wp2_with fail
            have hb := (Below.refl w2.heap.size w2).alloc (Nat.le_refl _) (.cells #[PT b, PT b'] 26)
            refine (made_any 7 0#256 [r, o] _ _ (by omega) (by simp) (resRow_two (Blk.newAt rfl #[PT b, PT b'] 26) ((HR.out.keep HM.out.below).keep hb) ((HO.out.keep HM.out.below).keep hb))).mono ?_
            rintro e w3 ⟨c, rfl, h1, h2⟩
            go_wp2
            go_ret
            exact ⟨c, rfl, by rw [HZ.out]; exact h1, HM.out.below.trans ((hb.trans (h2.mono (by simp))).mono HM.out.below.size)⟩
end Go.Proofs.YtkjmjppmpcnejaaGreatDoor
