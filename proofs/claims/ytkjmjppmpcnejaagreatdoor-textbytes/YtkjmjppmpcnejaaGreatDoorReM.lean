/- With. -/
import Derived.Test.YtkjmjppmpcnejaaGreatDoorReL
namespace Go.Proofs.YtkjmjppmpcnejaaGreatDoor
set_option maxRecDepth 100000
set_option linter.unusedSimpArgs false
set_option linter.unusedVariables false
open Go.RowKit

def rWith (r : RE) (l : List RE) : RE :=
  if r.op = 3 then rThen l else if r.op = 4 then rAny l else if r.op = 6 then rBoth l else if r.op = 5 ∧ l.length = 1 then rMany (l.getD 0 rNothing) else if r.op = 7 ∧ l.length = 2 then rBut (l.getD 0 rNothing) (l.getD 1 rNothing) else r

set_option maxHeartbeats 1000000 in
theorem with_any (b : Nat) (r : RE) (l : List RE) (v : Value) (w : World) (h : ReAt w b r) (hl : ResRow w v l) (hw : ∀ x ∈ l, Wf x) (h0 : l.length ≤ 1099511627776) (h3 : (catL l).length ≤ 1099511627776) (h4 : (flatL 4 l).length ≤ 1099511627776) (h6 : (flatL 6 l).length ≤ 1099511627776) (hT : TabAt w) :
    Calls Tryz.prog 70 #[PT b, v] w fun e w' => ∃ c, e = .returned (PT c) ∧ ReAt w' c (rWith r l) ∧ Below w.heap.size w w' := by
  have c0 := h.cell0
  obtain ⟨res, hres⟩ : ∃ res, res = rWith r l := ⟨_, rfl⟩
  rw [← hres]
  unfold rWith at hres
  have HRES := hide hres
  have HR := hide h
  have HL := hide hl
  have HT := hide hT
  obtain ⟨hn, ad, cap, rfl, hc⟩ := hl.at
  clear hres h hl hT
  unfold PT
  by_cases e3 : r.op = 3
  · have f3 : ((r.op : Int) == 3) = true := by simp [e3]
    have HX := hide (show res = rThen l from by have := HRES.out; rw [if_pos e3] at this; exact this)
    clear e3 hc
    go_enter Tryz.func70, Tryz.ntmps70
    go_wp2_with fail
    refine (then_any l _ w HL.out hw h0 h3).mono ?_
    rintro e w1 ⟨c, rfl, h1, h2⟩
    go_wp2
    go_ret
    exact ⟨c, rfl, by rw [HX.out]; exact h1, h2⟩
  · have f3 : ((r.op : Int) == 3) = false := beq_eq_false_iff_ne.2 (by omega)
    by_cases e4 : r.op = 4
    · have f4 : ((r.op : Int) == 4) = true := by simp [e4]
      have HX := hide (show res = rAny l from by have := HRES.out; rw [if_neg e3, if_pos e4] at this; exact this)
      clear e3 e4 hc
      go_enter Tryz.func70, Tryz.ntmps70
      go_wp2_with fail
      refine (any_re l _ w HL.out hw h0 h4 HT.out).mono ?_
      rintro e w1 ⟨c, rfl, h1, h2⟩
      go_wp2
      go_ret
      exact ⟨c, rfl, by rw [HX.out]; exact h1, h2⟩
    · have f4 : ((r.op : Int) == 4) = false := beq_eq_false_iff_ne.2 (by omega)
      by_cases e6 : r.op = 6
      · have f6 : ((r.op : Int) == 6) = true := by simp [e6]
        have HX := hide (show res = rBoth l from by have := HRES.out; rw [if_neg e3, if_neg e4, if_pos e6] at this; exact this)
        clear e3 e4 e6 hc
        go_enter Tryz.func70, Tryz.ntmps70
        go_wp2_with fail
        refine (both_re l _ w HL.out hw h0 h6 HT.out).mono ?_
        rintro e w1 ⟨c, rfl, h1, h2⟩
        go_wp2
        go_ret
        exact ⟨c, rfl, by rw [HX.out]; exact h1, h2⟩
      · have f6 : ((r.op : Int) == 6) = false := beq_eq_false_iff_ne.2 (by omega)
        by_cases e5 : r.op = 5 ∧ l.length = 1
        · have f5 : ((r.op : Int) == 5) = true := by simp [e5.1]
          have f5' : ((l.length : Int) == 1) = true := by simp [e5.2]
          have HX := hide (show res = rMany (l.getD 0 rNothing) from by have := HRES.out; rw [if_neg e3, if_neg e4, if_neg e6, if_pos e5] at this; exact this)
          have hl1 := e5.2
          match l, hl1 with
          | [x], _ =>
          obtain ⟨bb, off, b0, rfl, -, d0, r0⟩ := hc 0 (by simp)
          rw [Nat.add_zero] at d0
          unfold PT at d0
          simp only [List.length_cons, List.length_nil] at *
          simp only [List.getElem_cons_zero] at r0
          have HX1 : Hid (res = rMany x) := HX.out
          have HR0 := hide r0
          clear e3 e4 e6 e5 hc r0 HX
          go_enter Tryz.func70, Tryz.ntmps70
          go_wp2_with fail
          refine (many_any b0 _ w HR0.out).mono ?_
          rintro e w1 ⟨c, rfl, h1, h2⟩
          go_wp2
          go_ret
          exact ⟨c, rfl, by rw [HX1.out]; exact h1, h2⟩
        · by_cases e7 : r.op = 7 ∧ l.length = 2
          · have f5 : ((r.op : Int) == 5) = false := beq_eq_false_iff_ne.2 (by omega)
            have f7 : ((r.op : Int) == 7) = true := by simp [e7.1]
            have f7' : ((l.length : Int) == 2) = true := by simp [e7.2]
            have HX := hide (show res = rBut (l.getD 0 rNothing) (l.getD 1 rNothing) from by have := HRES.out; rw [if_neg e3, if_neg e4, if_neg e6, if_neg e5, if_pos e7] at this; exact this)
            have hl2 := e7.2
            match l, hl2 with
            | [x, y], _ =>
            obtain ⟨bb, off, b0, rfl, -, d0, r0⟩ := hc 0 (by simp)
            obtain ⟨bb', off', b1, ee, -, d1, r1⟩ := hc 1 (by simp)
            cases ee
            simp only [List.length_cons, List.length_nil] at *
            simp only [List.getElem_cons_zero, List.getElem_cons_succ] at r0 r1
            have hxy : Hid (res = rBut x y) := HX.out
            have HR0 := hide r0
            have HR1 := hide r1
            have hwx := (hw x (by simp)).k
            have hwy := (hw y (by simp)).k
            clear e3 e4 e6 e5 e7 hc r0 r1 HX
            go_enter Tryz.func70, Tryz.ntmps70
            have HCA : Hid (∀ W, Below w.heap.size w W → W.cell? ⟨bb, off + 0, none⟩ = some (PT b0) ∧ W.cell? ⟨bb, off + 1, none⟩ = some (PT b1)) := fun W hb => by
              have hlt := World.block_lt_of_cell? _ _ d0
              exact ⟨(World.cell?_of_block (w := w) (hb.block _ hlt)).trans d0, (World.cell?_of_block (w := w) (hb.block _ (World.block_lt_of_cell? _ _ d1))).trans d1⟩
            go_wp2
            obtain ⟨S, hSd⟩ : ∃ S : World → Prop, S = fun W => Below w.heap.size w W := ⟨_, rfl⟩
            have hSb : ∀ W, S W → Below w.heap.size w W := fun W h => by rw [hSd] at h; exact h
            have hbS : ∀ W, Below w.heap.size w W → S W := fun W h => by rw [hSd]; exact h
            have hS : S { w with drawn := w.drawn + 1 } := hbS _ ⟨rfl, rfl, rfl, Nat.le_refl _, fun _ _ => rfl⟩
            clear hSd
            refine wp_region_noPanic (wp_region_held (S := S) (by kernel_rfl) ?_)
            show wpAnyH _ _ _ _ _ 8 #[false, false, false, false, false, false, false, false] _ _
            generalize ({ w with drawn := w.drawn + 1 } : World) = W at hS ⊢
            refine h_take 0 (.slice (some ⟨bb, off, none⟩) 2 cap) rfl (by kernel_rfl) (by kernel_rfl) (by kernel_rfl) rfl (fun w hw => x_move _ _ _ _ _ _ _ _ rfl w) hS ?_
            simp only [Act.put, List.setIfInBounds_toArray, List.set_cons_succ, List.set_cons_zero]
            refine h_take 1 (.pointer (some ⟨bb, off + 0, none⟩)) rfl (by kernel_rfl) (by kernel_rfl) (by kernel_rfl) rfl (fun w hw => x_idxP _ _ _ _ _ _ _ _ bb off 2 cap 0 rfl rfl (by omega) w) hS ?_
            simp only [Act.put, List.setIfInBounds_toArray, List.set_cons_succ, List.set_cons_zero]
            refine h_take 2 (PT b0) rfl (by kernel_rfl) (by kernel_rfl) (by kernel_rfl) rfl (fun w hw => x_loadP _ _ _ _ _ _ _ _ _ _ rfl w (HCA.out w (hSb w hw)).1) hS ?_
            simp only [Act.put, List.setIfInBounds_toArray, List.set_cons_succ, List.set_cons_zero]
            refine h_take 3 (.slice (some ⟨bb, off, none⟩) 2 cap) rfl (by kernel_rfl) (by kernel_rfl) (by kernel_rfl) rfl (fun w hw => x_move _ _ _ _ _ _ _ _ rfl w) hS ?_
            simp only [Act.put, List.setIfInBounds_toArray, List.set_cons_succ, List.set_cons_zero]
            refine h_take 4 (.pointer (some ⟨bb, off + 1, none⟩)) rfl (by kernel_rfl) (by kernel_rfl) (by kernel_rfl) rfl (fun w hw => x_idxP _ _ _ _ _ _ _ _ bb off 2 cap 1 rfl rfl (by omega) w) hS ?_
            simp only [Act.put, List.setIfInBounds_toArray, List.set_cons_succ, List.set_cons_zero]
            refine h_take 5 (PT b1) rfl (by kernel_rfl) (by kernel_rfl) (by kernel_rfl) rfl (fun w hw => x_loadP _ _ _ _ _ _ _ _ _ _ rfl w (HCA.out w (hSb w hw)).2) hS ?_
            simp only [Act.put, List.setIfInBounds_toArray, List.set_cons_succ, List.set_cons_zero]
            refine h_callE 6 29 #[PT b0, PT b1] (fun v w' => ∃ c, v = PT c ∧ ReAt w' c (rBut x y) ∧ Below w.heap.size w w') rfl (by kernel_rfl) rfl (x_call2 _ _ _ _ _ _ _ _ _ _ _ _ _ rfl rfl rfl (enters_of Tryz.func29 (by kernel_rfl) rfl) _) ((but_any b0 b1 x y W (HR0.out.keep (hSb _ hS)) (HR1.out.keep (hSb _ hS)) hwx hwy (HT.out.agree (Agree.of_all (K := fun _ => True) (hSb _ hS)) trivial)).mono fun e w' ⟨c, h1, h2, h3⟩ => ⟨_, h1, c, rfl, h2, (hSb _ hS).trans (h3.mono (hSb _ hS).size)⟩) (fun v w' ⟨c, _, _, h⟩ => hbS _ h) ?_
            rintro v4 W4 ⟨c, rfl, h4, hb4⟩
            simp only [Act.put, List.setIfInBounds_toArray, List.set_cons_succ, List.set_cons_zero]
            have hS4 := hbS _ hb4
            refine h_take 7 (PT c) rfl (by kernel_rfl) (by kernel_rfl) (by kernel_rfl) rfl (fun w hw => x_assign _ _ _ _ _ _ _ _ rfl w) hS4 ?_
            simp only [Act.put, List.setIfInBounds_toArray, List.set_cons_succ, List.set_cons_zero]
            refine wpAnyH_done (by kernel_rfl) ?_ _
            refine NoPanic.normal ?_
            have H4 := hide h4
            have HB4 := hide hb4
            clear hS hSb hbS h4 hb4 hS4
            go_wp2
            go_ret
            exact ⟨c, rfl, by rw [hxy.out]; exact H4.out, HB4.out⟩
          · have HX := hide (show res = r from by have := HRES.out; rw [if_neg e3, if_neg e4, if_neg e6, if_neg e5, if_neg e7] at this; exact this)
            have hgo : ∀ (P : Prop), (((r.op : Int) == 5) = true → ((l.length : Int) == 1) = false → ((r.op : Int) == 7) = false → P) → (((r.op : Int) == 5) = false → ((r.op : Int) == 7) = true → ((l.length : Int) == 2) = false → P) → (((r.op : Int) == 5) = false → ((r.op : Int) == 7) = false → P) → P := fun P h1 h2 h3 => by
              by_cases e : r.op = 5
              · exact h1 (by simp [e]) (beq_eq_false_iff_ne.2 (by omega)) (beq_eq_false_iff_ne.2 (by omega))
              · by_cases e' : r.op = 7
                · exact h2 (beq_eq_false_iff_ne.2 (by omega)) (by simp [e']) (beq_eq_false_iff_ne.2 (by omega))
                · exact h3 (beq_eq_false_iff_ne.2 (by omega)) (beq_eq_false_iff_ne.2 (by omega))
            clear e3 e4 e6 e5 e7 hc
            refine hgo _ (fun f5 f5' f7 => ?_) (fun f5 f7 f7' => ?_) (fun f5 f7 => ?_)
            all_goals
              clear hgo
              go_enter Tryz.func70, Tryz.ntmps70
              go_wp2
              go_ret
              exact ⟨b, rfl, by rw [HX.out]; exact HR.out, Below.refl _ _⟩
end Go.Proofs.YtkjmjppmpcnejaaGreatDoor
