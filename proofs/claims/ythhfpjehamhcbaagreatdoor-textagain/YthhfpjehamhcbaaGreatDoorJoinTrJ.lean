/- Texts of this claim put together: TrI, TrJ. -/
import Derived.Test.YthhfpjehamhcbaaGreatDoorJoinTrH
import Derived.Test.YthhfpjehamhcbaaGreatDoorJoinMathRd4
/- The reader: cat; all of them. -/
namespace Go.Proofs.YthhfpjehamhcbaaGreatDoor
set_option maxRecDepth 100000
set_option linter.unusedSimpArgs false
set_option linter.unusedVariables false
open Go.RowKit

section
variable {ops : Array Oper} {S S' : World → Prop} {Q : Exit → Act → World → Prop} {fuel : Nat} {listed : Array Bool} {a : Act} {w : World} {oi : Oper} {rest : List Oper}
theorem h_skip (i : Nat) (hi : ops.toList.drop i = oi :: rest) (hs : Region.noSelect ops = true) (hf : Region.free .any ops listed i = true) (hr : (Region.ready .any ops listed).contains i = true)
    (hw : Region.wanted oi (yielded ops a.tmps) = false) (hS : S w)
    (h : wpAnyH Tryz.prog .any ops (NoPanic Q) S fuel (listed.setIfInBounds i true) (a.put oi.dst undef) w) : wpAnyH Tryz.prog .any ops (NoPanic Q) S (fuel + 1) listed a w :=
  wpAnyH_take (at_drop hi) hs hf hr (fun _ _ _ h => (h : False).elim) (.inr ⟨hw, rfl⟩) hS h
theorem wpAnyH_weaken (hS : ∀ w, S' w → S w) : ∀ (fuel : Nat) (listed : Array Bool) (a : Act) (w : World), wpAnyH Tryz.prog .any ops Q S' fuel listed a w → wpAnyH Tryz.prog .any ops Q S fuel listed a w
  | 0, _, _, _, h => h
  | fuel + 1, _, _, _, h => ⟨h.1, fun i hi => wpOp_mono (fun a' w' h' => ⟨hS w' h'.1, wpAnyH_weaken hS fuel _ a' w' h'.2⟩) (h.2 i hi)⟩
end

set_option maxHeartbeats 4000000 in
theorem cat_step (F : Nat) (hm : RdC 146 .post F) : RdC 127 .cat (F + 1) := by
  intro f hf p s st r st' w hR ho hp hT hP
  cases f with
  | zero => simp [St.P] at hP
  | succ g =>
    simp only [St.P] at hP
    obtain ⟨⟨q, s1⟩, h1, h2⟩ := Option.bind_eq_some_iff.1 hP
    have hc := hm g (by omega) p s st q s1 w hR ho hp hT h1
    have hi := P_inv s.size g .post st.cnt st q s1 h1 ho hp
    have HI := hide hi
    have HC := hide hc
    have H2 := hide h2
    have HT := hide hT
    have HR := hide hR
    have HM := hide hm
    have HPL := hide hR.blk.lt
    have hgF : g < F + 1 := by omega
    clear hP h1 h2 hc hi hT hR hm ho hf hp
    unfold PT at HC ⊢
    go_enter Tryz.func127, Tryz.ntmps127
    go_wp2_with fail
    refine HC.out.mono ?_
    rintro e w1 ⟨b, rfl, hrb, hR1, hA1⟩
    have hls := LsW.one hR1 hA1 hrb HPL.out
    have HLS := hide hls
    clear hrb hR1 hA1 hls HC
    unfold PT at HLS
    go_wp2
    go_loopg [3] g (fun k v wr => Hid (∃ ps st1, LsW w p s st1 v ps wr ∧ Ok st1 ∧ Pre st.cnt st1 (.catL (ps.map Prod.snd)) ∧ St.P s.size k (.catL (ps.map Prod.snd)) st1 = some (r, st') ∧ k ≤ g))
    case atStart => exact ⟨[(b, q)], s1, HLS.out, HI.out.ok, ⟨by simp, fun x hx => by simp at hx; subst hx; exact HI.out.wf, HI.out.bd.one, by have := HI.out.bd.lt (by simp only [offM]; omega); simp; omega⟩, H2.out, Nat.le_refl _⟩
    case round =>
      clear HLS HI H2
      obtain ⟨ps, st1, hls, hok, hpr, hP, hkg⟩ := hrel
      cases gk with
      | zero => simp [St.P] at hP
      | succ k =>
        simp only [St.P] at hP
        obtain ⟨g3, cap3, hv3⟩ := hls.own.slice
        subst hv3
        have hen := end_any p s st1 { wr with drawn := wr.drawn + 1 } (hls.rd.keep ⟨rfl, rfl, rfl, Nat.le_refl _, fun _ _ => rfl⟩)
        have hl1 := hls.step (⟨rfl, rfl, rfl, Nat.le_refl _, fun _ _ => rfl⟩ : Below wr.heap.size wr { wr with drawn := wr.drawn + 1 })
        obtain ⟨q, hq⟩ : ∃ q, q = st1.skip.rest.isEmpty := ⟨_, rfl⟩
        rw [← hq] at hen
        have HEN := hide hen
        have HL1 := hide hl1
        have HOK := hide hok
        have HPR := hide hpr
        have HQ := hide hq
        have hpl : ps.length ≤ 1000000 := by
          have h1 := hpr.2.2.2
          have h2 := hok.cnt
          simp at h1; omega
        clear hen hls hok hpr hq hl1
        go_wp2
        rw [show Value.pointer (some ⟨p, 0, none⟩) = PT p from rfl]
        refine wp_region_noPanic (wp_region_held (S := fun _ => True) (by kernel_rfl) ?_)
        show wpAnyH _ _ _ _ _ 16 #[false, false, false, false, false, false, false, false, false, false, false, false, false, false, false, false] _ _
        generalize ({ wr with drawn := wr.drawn + 1 } : World) = W1 at HEN HL1 ⊢
        refine h_take 0 (PT p) rfl (by kernel_rfl) (by kernel_rfl) (by kernel_rfl) rfl (fun w hw => x_move _ _ _ _ _ _ _ _ rfl w) trivial ?_
        simp only [Act.put, List.setIfInBounds_toArray, List.set_cons_succ, List.set_cons_zero]
        refine h_callE 1 46 #[PT p] (fun v w' => v = .bool q ∧ RdAt w' p s st1.skip ∧ Aside p W1 w') rfl (by kernel_rfl) rfl (x_call1 _ _ _ _ _ _ _ _ _ _ rfl rfl (enters_of Tryz.func46 (by kernel_rfl) rfl) _) (HEN.out.mono fun e w' h => ⟨_, h.1, rfl, h.2⟩) (fun v w' h => trivial) ?_
        rintro v2 W2 ⟨rfl, hR2, hA2⟩
        simp only [Act.put, List.setIfInBounds_toArray, List.set_cons_succ, List.set_cons_zero]
        have HL2 := hide (HL1.out.read hR2 hA2)
        clear hR2 hA2 HEN HL1
        obtain ⟨S', hS'⟩ : ∃ S' : World → Prop, S' = fun W => Below W2.heap.size W2 W := ⟨_, rfl⟩
        refine wpAnyH_weaken (S' := S') (fun _ _ => trivial) _ _ _ _ ?_
        have hSW : S' W2 := by rw [hS']; exact Below.refl _ _
        have HSB : Hid (∀ W, S' W → Below W2.heap.size W2 W) := fun W h => by rw [hS'] at h; exact h
        have HSG : Hid (∀ W W', S' W → W' = W → S' W') := fun W W' h e => e ▸ h
        clear hS'
        cases q with
        | true =>
          have HX : Hid (st1.skip.rest = []) := by show _ = _; simpa using HQ.out.symm
          have hP : some (rThen (ps.map Prod.snd), st1.skip) = some (r, st') := by
            have := hP
            rw [HX.out] at this
            exact this
          injection hP with hP
          injection hP with e1 e2
          have HE1 := hide e1
          have HE2 := hide e2
          clear e1 e2
          refine h_take 2 (.bool false) rfl (by kernel_rfl) (by kernel_rfl) (by kernel_rfl) rfl (fun w hw => x_notBool _ _ _ _ _ _ _ true rfl w) hSW ?_
          simp only [Act.put, List.setIfInBounds_toArray, List.set_cons_succ, List.set_cons_zero]
          refine h_take 3 (.bool false) rfl (by kernel_rfl) (by kernel_rfl) (by kernel_rfl) rfl (fun w hw => x_move _ _ _ _ _ _ _ _ rfl w) hSW ?_
          simp only [Act.put, List.setIfInBounds_toArray, List.set_cons_succ, List.set_cons_zero]
          refine h_skip 4 rfl (by kernel_rfl) (by kernel_rfl) (by kernel_rfl) (by kernel_rfl) hSW ?_
          simp only [Act.put, List.setIfInBounds_toArray, List.set_cons_succ, List.set_cons_zero]
          refine h_skip 5 rfl (by kernel_rfl) (by kernel_rfl) (by kernel_rfl) (by kernel_rfl) hSW ?_
          simp only [Act.put, List.setIfInBounds_toArray, List.set_cons_succ, List.set_cons_zero]
          refine h_skip 6 rfl (by kernel_rfl) (by kernel_rfl) (by kernel_rfl) (by kernel_rfl) hSW ?_
          simp only [Act.put, List.setIfInBounds_toArray, List.set_cons_succ, List.set_cons_zero]
          refine h_skip 7 rfl (by kernel_rfl) (by kernel_rfl) (by kernel_rfl) (by kernel_rfl) hSW ?_
          simp only [Act.put, List.setIfInBounds_toArray, List.set_cons_succ, List.set_cons_zero]
          refine h_skip 8 rfl (by kernel_rfl) (by kernel_rfl) (by kernel_rfl) (by kernel_rfl) hSW ?_
          simp only [Act.put, List.setIfInBounds_toArray, List.set_cons_succ, List.set_cons_zero]
          refine h_skip 9 rfl (by kernel_rfl) (by kernel_rfl) (by kernel_rfl) (by kernel_rfl) hSW ?_
          simp only [Act.put, List.setIfInBounds_toArray, List.set_cons_succ, List.set_cons_zero]
          refine h_skip 10 rfl (by kernel_rfl) (by kernel_rfl) (by kernel_rfl) (by kernel_rfl) hSW ?_
          simp only [Act.put, List.setIfInBounds_toArray, List.set_cons_succ, List.set_cons_zero]
          refine h_skip 11 rfl (by kernel_rfl) (by kernel_rfl) (by kernel_rfl) (by kernel_rfl) hSW ?_
          simp only [Act.put, List.setIfInBounds_toArray, List.set_cons_succ, List.set_cons_zero]
          refine h_skip 12 rfl (by kernel_rfl) (by kernel_rfl) (by kernel_rfl) (by kernel_rfl) hSW ?_
          simp only [Act.put, List.setIfInBounds_toArray, List.set_cons_succ, List.set_cons_zero]
          refine h_skip 13 rfl (by kernel_rfl) (by kernel_rfl) (by kernel_rfl) (by kernel_rfl) hSW ?_
          simp only [Act.put, List.setIfInBounds_toArray, List.set_cons_succ, List.set_cons_zero]
          refine h_skip 14 rfl (by kernel_rfl) (by kernel_rfl) (by kernel_rfl) (by kernel_rfl) hSW ?_
          simp only [Act.put, List.setIfInBounds_toArray, List.set_cons_succ, List.set_cons_zero]
          refine h_take 15 (.bool false) rfl (by kernel_rfl) (by kernel_rfl) (by kernel_rfl) rfl (fun w hw => x_pick _ _ _ _ _ _ _ _ _ false undef (.bool false) rfl rfl rfl w) hSW ?_
          simp only [Act.put, List.setIfInBounds_toArray, List.set_cons_succ, List.set_cons_zero]
          refine wpAnyH_done (by kernel_rfl) ?_ _
          refine NoPanic.normal ?_
          have HLX := hide HL2.out
          obtain ⟨WX, hWX⟩ : ∃ WX, WX = W2 := ⟨_, rfl⟩
          rw [← hWX] at HLX ⊢
          clear hWX hSW HSB HSG HL2
          obtain ⟨p1, p2, p3, p4⟩ := HPR.out
          have hcb := p3.cnt HOK.out
          obtain ⟨b1, b2, b3, b4⟩ := ls_bounds (l := ps.map Prod.snd) (by omega)
          have hca := then_any (ps.map Prod.snd) _ WX (HLX.out.row (by omega)) p2 b1 b2
          rw [HE1.out] at hca
          have HCA := hide hca
          clear hca p1 p2 p3 p4 hcb b1 b2 b3 b4 HOK HPR
          unfold PT
          go_wp2_with fail
          refine HCA.out.mono ?_
          rintro e w3 ⟨b, rfl, hrb, hb3⟩
          have HRB := hide hrb
          have HL3 := hide (HLX.out.step hb3)
          clear hrb hb3 HCA HLX
          unfold PT
          go_wp2
          go_ret
          refine ⟨b, rfl, HRB.out, ?_, HL3.out.aside⟩
          rw [← HE2.out]; exact HL3.out.rd
        | false =>
          obtain ⟨c, rr, hx⟩ : ∃ c rr, st1.skip.rest = c :: rr := by
            cases h : st1.skip.rest with
            | nil => have := HQ.out; rw [h] at this; cases this
            | cons c rr => exact ⟨c, rr, rfl⟩
          have HX := hide hx
          rw [hx] at hP
          simp only [] at hP
          obtain ⟨at1, hat⟩ : ∃ a, a = s.size - st1.skip.rest.length := ⟨_, rfl⟩
          obtain ⟨-, hcc, -⟩ := HL2.out.rd.next hx
          rw [← hat] at hcc
          have hc256 : c < 256 := bN_lt s c (List.mem_of_getElem? hcc)
          have hc0 : ∀ W, S' W → W.cell? ⟨p, 0, none⟩ = some (.string s) := fun W hW => (HL2.out.rd.keep (HSB.out W hW)).cells.1
          have hc1 : ∀ W, S' W → W.cell? ⟨p, 1, none⟩ = some (.int .i64 at1) := fun W hW => by rw [hat]; exact (HL2.out.rd.keep (HSB.out W hW)).cells.2.1
          have ews : bytesN ⟨#[124, 45, 38, 41]⟩ = [124, 45, 38, 41] := by decide +kernel
          obtain ⟨z, hz0⟩ : ∃ z, z = idxI [124, 45, 38, 41] c := ⟨_, rfl⟩
          have hqi : ∀ W, S' W → Calls Tryz.prog 77 #[.string ⟨#[124, 45, 38, 41]⟩, .int .u8 c] W fun e w' => e = .returned (.int .i64 z) ∧ S' w' := fun W hW => by
            rw [hz0, ← ews]; exact (indexByte_any _ c hc256 W).mono fun e w' ⟨h1, h2⟩ => ⟨h1, HSG.out W w' hW h2⟩
          have hzz : decide (z < 0) = !([124, 45, 38, 41].contains c) := by rw [hz0]; exact idxI_neg _ _
          clear ews hz0 hx hat
          cases hst : [124, 45, 38, 41].contains c with
          | true =>
            rw [hst] at hP hzz
            rw [if_pos rfl] at hP
            have hz : decide (z < 0) = false := hzz
            injection hP with hP
            injection hP with e1 e2
            have HE1 := hide e1
            have HE2 := hide e2
            clear e1 e2 hst hzz
            refine h_take 2 (.bool true) rfl (by kernel_rfl) (by kernel_rfl) (by kernel_rfl) rfl (fun w hw => x_notBool _ _ _ _ _ _ _ false rfl w) hSW ?_
            simp only [Act.put, List.setIfInBounds_toArray, List.set_cons_succ, List.set_cons_zero]
            refine h_take 3 (.bool true) rfl (by kernel_rfl) (by kernel_rfl) (by kernel_rfl) rfl (fun w hw => x_move _ _ _ _ _ _ _ _ rfl w) hSW ?_
            simp only [Act.put, List.setIfInBounds_toArray, List.set_cons_succ, List.set_cons_zero]
            refine h_take 4 (PT p) rfl (by kernel_rfl) (by kernel_rfl) (by kernel_rfl) rfl (fun w hw => x_move _ _ _ _ _ _ _ _ rfl w) hSW ?_
            simp only [Act.put, List.setIfInBounds_toArray, List.set_cons_succ, List.set_cons_zero]
            refine h_take 5 (PT p) rfl (by kernel_rfl) (by kernel_rfl) (by kernel_rfl) rfl (fun w hw => x_nilCheck _ _ _ _ _ _ _ _ rfl w) hSW ?_
            simp only [Act.put, List.setIfInBounds_toArray, List.set_cons_succ, List.set_cons_zero]
            refine h_take 6 (PT p) rfl (by kernel_rfl) (by kernel_rfl) (by kernel_rfl) rfl (fun w hw => x_fieldR0 _ _ _ _ _ _ _ p rfl w) hSW ?_
            simp only [Act.put, List.setIfInBounds_toArray, List.set_cons_succ, List.set_cons_zero]
            refine h_take 7 (.string s) rfl (by kernel_rfl) (by kernel_rfl) (by kernel_rfl) rfl (fun w hw => x_loadStr _ _ _ _ _ _ _ p 0 _ rfl w (hc0 w hw)) hSW ?_
            simp only [Act.put, List.setIfInBounds_toArray, List.set_cons_succ, List.set_cons_zero]
            refine h_take 8 (PT p) rfl (by kernel_rfl) (by kernel_rfl) (by kernel_rfl) rfl (fun w hw => x_move _ _ _ _ _ _ _ _ rfl w) hSW ?_
            simp only [Act.put, List.setIfInBounds_toArray, List.set_cons_succ, List.set_cons_zero]
            refine h_take 9 (PT p) rfl (by kernel_rfl) (by kernel_rfl) (by kernel_rfl) rfl (fun w hw => x_nilCheck _ _ _ _ _ _ _ _ rfl w) hSW ?_
            simp only [Act.put, List.setIfInBounds_toArray, List.set_cons_succ, List.set_cons_zero]
            refine h_take 10 (.pointer (some ⟨p, 1, none⟩)) rfl (by kernel_rfl) (by kernel_rfl) (by kernel_rfl) rfl (fun w hw => x_fieldR1 _ _ _ _ _ _ _ p rfl w) hSW ?_
            simp only [Act.put, List.setIfInBounds_toArray, List.set_cons_succ, List.set_cons_zero]
            refine h_take 11 (.int .i64 at1) rfl (by kernel_rfl) (by kernel_rfl) (by kernel_rfl) rfl (fun w hw => x_loadInt _ _ _ _ _ _ _ p 1 _ rfl w (hc1 w hw)) hSW ?_
            simp only [Act.put, List.setIfInBounds_toArray, List.set_cons_succ, List.set_cons_zero]
            refine h_take 12 (.int .u8 c) rfl (by kernel_rfl) (by kernel_rfl) (by kernel_rfl) rfl (fun w hw => x_strIdx _ _ _ _ _ _ _ _ s at1 c hcc rfl rfl w) hSW ?_
            simp only [Act.put, List.setIfInBounds_toArray, List.set_cons_succ, List.set_cons_zero]
            refine h_call 13 77 #[.string ⟨#[124, 45, 38, 41]⟩, .int .u8 c] (.int .i64 z) rfl (by kernel_rfl) rfl (x_call2 _ _ _ _ _ _ _ _ _ _ _ _ _ rfl rfl rfl (enters_of Tryz.func77 (by kernel_rfl) rfl) _) (hqi _ hSW) ?_
            intro W3 hSW
            simp only [Act.put, List.setIfInBounds_toArray, List.set_cons_succ, List.set_cons_zero]
            refine h_take 14 (.bool false) rfl (by kernel_rfl) (by kernel_rfl) (by kernel_rfl) rfl (fun w hw => x_lssB _ _ _ _ _ _ _ _ z 0 false hz rfl rfl w) hSW ?_
            simp only [Act.put, List.setIfInBounds_toArray, List.set_cons_succ, List.set_cons_zero]
            refine h_take 15 (.bool false) rfl (by kernel_rfl) (by kernel_rfl) (by kernel_rfl) rfl (fun w hw => x_pick _ _ _ _ _ _ _ _ _ true (.bool false) (.bool false) rfl rfl rfl w) hSW ?_
            simp only [Act.put, List.setIfInBounds_toArray, List.set_cons_succ, List.set_cons_zero]
            refine wpAnyH_done (by kernel_rfl) ?_ _
            refine NoPanic.normal ?_
            have HLX := hide (HL2.out.step (HSB.out _ hSW))
            obtain ⟨WX, hWX⟩ : ∃ WX, WX = W3 := ⟨_, rfl⟩
            rw [← hWX] at HLX ⊢
            clear hWX hSW HSB HSG HL2 hc0 hc1 hqi hcc hz
            obtain ⟨p1, p2, p3, p4⟩ := HPR.out
            have hcb := p3.cnt HOK.out
            obtain ⟨b1, b2, b3, b4⟩ := ls_bounds (l := ps.map Prod.snd) (by omega)
            have hca := then_any (ps.map Prod.snd) _ WX (HLX.out.row (by omega)) p2 b1 b2
            rw [HE1.out] at hca
            have HCA := hide hca
            clear hca p1 p2 p3 p4 hcb b1 b2 b3 b4 HOK HPR
            unfold PT
            go_wp2_with fail
            refine HCA.out.mono ?_
            rintro e w3 ⟨b, rfl, hrb, hb3⟩
            have HRB := hide hrb
            have HL3 := hide (HLX.out.step hb3)
            clear hrb hb3 HCA HLX
            unfold PT
            go_wp2
            go_ret
            refine ⟨b, rfl, HRB.out, ?_, HL3.out.aside⟩
            rw [← HE2.out]; exact HL3.out.rd
          | false =>
            rw [hst] at hP hzz
            rw [if_neg (by simp)] at hP
            have hz : decide (z < 0) = true := hzz
            clear hst hzz
            refine h_take 2 (.bool true) rfl (by kernel_rfl) (by kernel_rfl) (by kernel_rfl) rfl (fun w hw => x_notBool _ _ _ _ _ _ _ false rfl w) hSW ?_
            simp only [Act.put, List.setIfInBounds_toArray, List.set_cons_succ, List.set_cons_zero]
            refine h_take 3 (.bool true) rfl (by kernel_rfl) (by kernel_rfl) (by kernel_rfl) rfl (fun w hw => x_move _ _ _ _ _ _ _ _ rfl w) hSW ?_
            simp only [Act.put, List.setIfInBounds_toArray, List.set_cons_succ, List.set_cons_zero]
            refine h_take 4 (PT p) rfl (by kernel_rfl) (by kernel_rfl) (by kernel_rfl) rfl (fun w hw => x_move _ _ _ _ _ _ _ _ rfl w) hSW ?_
            simp only [Act.put, List.setIfInBounds_toArray, List.set_cons_succ, List.set_cons_zero]
            refine h_take 5 (PT p) rfl (by kernel_rfl) (by kernel_rfl) (by kernel_rfl) rfl (fun w hw => x_nilCheck _ _ _ _ _ _ _ _ rfl w) hSW ?_
            simp only [Act.put, List.setIfInBounds_toArray, List.set_cons_succ, List.set_cons_zero]
            refine h_take 6 (PT p) rfl (by kernel_rfl) (by kernel_rfl) (by kernel_rfl) rfl (fun w hw => x_fieldR0 _ _ _ _ _ _ _ p rfl w) hSW ?_
            simp only [Act.put, List.setIfInBounds_toArray, List.set_cons_succ, List.set_cons_zero]
            refine h_take 7 (.string s) rfl (by kernel_rfl) (by kernel_rfl) (by kernel_rfl) rfl (fun w hw => x_loadStr _ _ _ _ _ _ _ p 0 _ rfl w (hc0 w hw)) hSW ?_
            simp only [Act.put, List.setIfInBounds_toArray, List.set_cons_succ, List.set_cons_zero]
            refine h_take 8 (PT p) rfl (by kernel_rfl) (by kernel_rfl) (by kernel_rfl) rfl (fun w hw => x_move _ _ _ _ _ _ _ _ rfl w) hSW ?_
            simp only [Act.put, List.setIfInBounds_toArray, List.set_cons_succ, List.set_cons_zero]
            refine h_take 9 (PT p) rfl (by kernel_rfl) (by kernel_rfl) (by kernel_rfl) rfl (fun w hw => x_nilCheck _ _ _ _ _ _ _ _ rfl w) hSW ?_
            simp only [Act.put, List.setIfInBounds_toArray, List.set_cons_succ, List.set_cons_zero]
            refine h_take 10 (.pointer (some ⟨p, 1, none⟩)) rfl (by kernel_rfl) (by kernel_rfl) (by kernel_rfl) rfl (fun w hw => x_fieldR1 _ _ _ _ _ _ _ p rfl w) hSW ?_
            simp only [Act.put, List.setIfInBounds_toArray, List.set_cons_succ, List.set_cons_zero]
            refine h_take 11 (.int .i64 at1) rfl (by kernel_rfl) (by kernel_rfl) (by kernel_rfl) rfl (fun w hw => x_loadInt _ _ _ _ _ _ _ p 1 _ rfl w (hc1 w hw)) hSW ?_
            simp only [Act.put, List.setIfInBounds_toArray, List.set_cons_succ, List.set_cons_zero]
            refine h_take 12 (.int .u8 c) rfl (by kernel_rfl) (by kernel_rfl) (by kernel_rfl) rfl (fun w hw => x_strIdx _ _ _ _ _ _ _ _ s at1 c hcc rfl rfl w) hSW ?_
            simp only [Act.put, List.setIfInBounds_toArray, List.set_cons_succ, List.set_cons_zero]
            refine h_call 13 77 #[.string ⟨#[124, 45, 38, 41]⟩, .int .u8 c] (.int .i64 z) rfl (by kernel_rfl) rfl (x_call2 _ _ _ _ _ _ _ _ _ _ _ _ _ rfl rfl rfl (enters_of Tryz.func77 (by kernel_rfl) rfl) _) (hqi _ hSW) ?_
            intro W3 hSW
            simp only [Act.put, List.setIfInBounds_toArray, List.set_cons_succ, List.set_cons_zero]
            refine h_take 14 (.bool true) rfl (by kernel_rfl) (by kernel_rfl) (by kernel_rfl) rfl (fun w hw => x_lssB _ _ _ _ _ _ _ _ z 0 true hz rfl rfl w) hSW ?_
            simp only [Act.put, List.setIfInBounds_toArray, List.set_cons_succ, List.set_cons_zero]
            refine h_take 15 (.bool true) rfl (by kernel_rfl) (by kernel_rfl) (by kernel_rfl) rfl (fun w hw => x_pick _ _ _ _ _ _ _ _ _ true (.bool true) (.bool false) rfl rfl rfl w) hSW ?_
            simp only [Act.put, List.setIfInBounds_toArray, List.set_cons_succ, List.set_cons_zero]
            refine wpAnyH_done (by kernel_rfl) ?_ _
            refine NoPanic.normal ?_
            have HLX := hide (HL2.out.step (HSB.out _ hSW))
            obtain ⟨WX, hWX⟩ : ∃ WX, WX = W3 := ⟨_, rfl⟩
            rw [← hWX] at HLX ⊢
            clear hWX hSW HSB HSG HL2 hc0 hc1 hqi hcc hz
            obtain ⟨⟨q, s2⟩, h1, h2⟩ := Option.bind_eq_some_iff.1 hP
            have hs0 : st1.err = 0 := HOK.out.skip.err0 (by rw [HX.out]; simp)
            have hcp := (HOK.out.ok hs0).1
            have hpre : Pre st1.skip.cnt st1.skip .post := ⟨rfl, by show st1.cnt ≤ _; omega⟩
            have hc := HM.out k (by omega) p s _ q s2 WX HLX.out.rd HOK.out.skip hpre (HT.out.aside HR.out HLX.out.aside) h1
            have hi := P_inv s.size k .post _ _ q s2 h1 HOK.out.skip hpre
            have hb1 : Bd (q.cnt + 10) 0 st1.cnt s2 := hi.bd
            have HPR2 : Hid (Pre st.cnt s2 (.catL (ps.map Prod.snd ++ [q]))) := by
              obtain ⟨p1, p2, p3, p4⟩ := HPR.out
              refine ⟨by simp, fun x hx => ?_, Bd.snoc (x := 0) (y := 0) p3 hs0 hb1, ?_⟩
              · rcases List.mem_append.1 hx with hx | hx
                · exact p2 x hx
                · rw [List.mem_singleton] at hx; subst hx; exact hi.wf
              · have := hb1.lt (by omega)
                rw [List.length_append, List.length_singleton]; omega
            have HI := hide hi
            have HC := hide hc
            have H2 := hide h2
            clear hP h1 h2 hc hi hs0 hcp hpre hb1 HOK HPR
            unfold PT at HC ⊢
            go_wp2_with fail
            refine HC.out.mono ?_
            rintro e w3 ⟨b, rfl, hrb, hR3, hA3⟩
            have hl3 := HLX.out.read hR3 hA3
            have hb3 := (Below.refl w3.heap.size w3).alloc (Nat.le_refl _) (.cells #[PT b] 26)
            obtain ⟨v3, W4, hr3, hl4⟩ := (hl3.step hb3).append 52 w3.heap.size b q (Blk.newAt rfl _ _) (hrb.keep hb3) hpl
            have HL4 := hide hl4
            clear hrb hR3 hA3 hl3 hb3 hl4 HC HLX
            unfold PT at hr3
            go_wp2_with (refine wpList_append_run rfl _ _ _ rfl _ _ _ rfl rfl hr3 ?_)
            go_roundg k
            case measure => omega
            case rel => exact ⟨ps ++ [(b, q)], s2, HL4.out, HI.out.ok, by rw [List.map_append]; exact HPR2.out, by rw [List.map_append]; exact H2.out, by omega⟩

theorem rd_all (F : Nat) : RdC 45 .or F ∧ RdC 75 .minus F ∧ RdC 102 .and F ∧ RdC 127 .cat F ∧ RdC 146 .post F ∧ RdC 151 .atom F ∧ RdG F := by
  induction F with
  | zero => exact ⟨fun f hf => by omega, fun f hf => by omega, fun f hf => by omega, fun f hf => by omega, fun f hf => by omega, fun f hf => by omega, fun f hf => by omega⟩
  | succ F ih =>
    obtain ⟨h1, h2, h3, h4, h5, h6, h7⟩ := ih
    exact ⟨or_step F h2, minus_step F h3, and_step F h4, cat_step F h5, post_step F h6, atom_step F h7, group_step F h1⟩
end Go.Proofs.YthhfpjehamhcbaaGreatDoor
/- Read: the expression that a text is, or its first error. -/
namespace Go.Proofs.YthhfpjehamhcbaaGreatDoor
set_option maxRecDepth 100000
set_option linter.unusedSimpArgs false
set_option linter.unusedVariables false
open Go.RowKit

/-- What Read answers. -/
def ReadPost (s : ByteArray) (w : World) (e : Ending) (w' : World) : Prop :=
  ((rdEnd (bytesN s)).err = 0 → ∃ b, e = .returned (.tuple #[PT b, .int .i64 (0 : Nat), .int .i64 (0 : Nat)]) ∧ ReAt w' b (readQ (bytesN s)).1 ∧ Below w.heap.size w w') ∧
  ((rdEnd (bytesN s)).err ≠ 0 → e = .returned (.tuple #[.pointer none, .int .i64 (rdEnd (bytesN s)).err, .int .i64 (rdEnd (bytesN s)).wh]) ∧ Below w.heap.size w w')

set_option maxHeartbeats 4000000 in
theorem read_any (s : ByteArray) (w : World) (hs : s.size ≤ 65536) (hT : TabAt w) : Calls Tryz.prog 15 #[.string s] w (ReadPost s w) := by
  obtain ⟨p, hp⟩ : ∃ p, p = w.heap.size := ⟨_, rfl⟩
  have hlen := bN_len s
  have hq := readQ_some (l := bytesN s) (by omega)
  obtain ⟨r, s1, hrs⟩ : ∃ r s1, readQ (bytesN s) = (r, s1) := ⟨_, _, rfl⟩
  rw [hrs, hlen] at hq
  obtain ⟨w0, hw0⟩ : ∃ w0, w0 = w.alloc (.cells (rdC s 0 0 0 0 0) 82) := ⟨_, rfl⟩
  have hb0 : Below w.heap.size w w0 := by rw [hw0]; exact (Below.refl _ _).alloc (Nat.le_refl _) _
  have hR0 : RdAt w0 p s (St.init (bytesN s)) := by
    refine ⟨?_, ?_, by show (bytesN s).length ≤ _; omega, hs⟩
    · rw [hw0]
      have : s.size - (St.init (bytesN s)).rest.length = 0 := by show s.size - (bytesN s).length = 0; omega
      rw [this]
      exact Blk.newAt hp _ _
    · show bytesN s = (bytesN s).drop (s.size - (bytesN s).length)
      rw [hlen, Nat.sub_self]; rfl
  have hok := init_ok (l := bytesN s) (by omega)
  have hpre : Pre (St.init (bytesN s)).cnt (St.init (bytesN s)) .or := ⟨rfl, by show 0 ≤ _; omega⟩
  have hc := (rd_all (20 * s.size + 9)).1 (20 * s.size + 8) (by omega) p s _ r s1 w0 hR0 hok hpre (hT.agree (Agree.of_all (K := fun _ => True) hb0) trivial) hq
  have hi := P_inv s.size _ .or _ _ r s1 hq hok hpre
  have HC := hide hc
  have HI := hide hi
  have HB0 := hide hb0
  have HP := hide hp
  have HRS := hide hrs
  have HP0 : Hid (p < w0.heap.size) := hR0.blk.lt
  have ew : w.alloc (.cells #[.string s, .int .i64 0, .int .i64 0, .int .i64 0, .int .i64 0, .int .i64 0] 82) = w0 := hw0.symm
  clear hc hi hq hok hpre hR0 hb0 hw0 hT hrs
  have hd1 : decide ((65536 : Int) < s.size) = false := by simp; omega
  have hd2 : decide (65536 < s.size) = false := by simp; omega
  unfold PT at HC
  go_enter Tryz.func15, Tryz.ntmps15
  go_wp2_with fail
  rw [← hp]
  clear hp
  refine HC.out.mono ?_
  rintro e w1 ⟨b, rfl, hrb, hR1, hA1⟩
  have HO1 : Hid (OnW w0 p s s1 b r w1) := ⟨hR1, hrb, hA1⟩
  clear hrb hR1 hA1 HC ew
  obtain ⟨q, hq⟩ : ∃ q, q = s1.skip.rest.isEmpty := ⟨_, rfl⟩
  have hen := end_any p s s1 w1 HO1.out.rd
  rw [← hq] at hen
  have HEN := hide hen
  have HQ := hide hq
  clear hen hq
  unfold PT at HEN
  go_wp2_with fail
  refine HEN.out.mono ?_
  rintro e w2 ⟨rfl, hR2, hA2⟩
  have HO2 := hide (HO1.out.read hR2 hA2)
  clear hR2 hA2 HEN HO1
  -- the end of a world
  have HFIN : Hid (∀ (S : St) (W : World), OnW w0 p s S b r W → Below w.heap.size w W ∧ w.heap.size ≤ W.heap.size) := fun S W h => by
    have hb : Below w.heap.size w W := HB0.out.trans (h.aside.below (by have := HP.out; have := HP0.out; omega) (by rw [HP.out]; exact Nat.le_refl _))
    exact ⟨hb, hb.size⟩
  cases q with
  | false =>
    obtain ⟨at2, hat2⟩ : ∃ a, a = s1.skip.pos s.size := ⟨_, rfl⟩
    have g1 := HO2.out.rd.cells.2.1
    have ea : s.size - s1.skip.rest.length = at2 := hat2.symm
    rw [ea] at g1
    have HF := hide (fail_any p 2 at2 s _ w2 HO2.out.rd)
    have HRE : Hid ((rdEnd (bytesN s)).err ≠ 0 ∧ (rdEnd (bytesN s)).err = (s1.skip.fail 2 at2).err ∧ (rdEnd (bytesN s)).wh = (s1.skip.fail 2 at2).wh) := by
      have hne := fail_err 2 at2 s1.skip (by omega)
      have e : rdEnd (bytesN s) = s1.skip.fail 2 at2 := by
        unfold rdEnd
        rw [HRS.out]
        simp only
        rw [← HQ.out, bN_len, ← hat2]
        simp only [Bool.false_eq_true, if_false]
        rw [if_neg (fun h => hne h.1)]
      rw [e]; exact ⟨hne, rfl, rfl⟩
    have HER : Hid ((s1.skip.fail 2 at2).err ≠ 0) := fail_err 2 at2 s1.skip (by omega)
    clear hat2 ea
    unfold PT at HF
    go_wp2_with fail
    refine HF.out.mono ?_
    rintro e WX ⟨rfl, hR3, hA3⟩
    obtain ⟨SX, hSX⟩ : ∃ SX, SX = s1.skip.fail 2 at2 := ⟨_, rfl⟩
    rw [← hSX] at hR3 HER HRE
    have HY := hide (HO2.out.read hR3 hA3)
    have HBL := hide (HFIN.out _ _ HY.out).1
    have HWS := hide (HFIN.out _ _ HY.out).2
    clear hR3 hA3 HF HO2 g1 hSX HFIN
    have c40 := HY.out.rd.cells.2.2.2.2.1
    have hz0 : ((SX.err : Int) == 0) = false := beq_eq_false_iff_ne.2 (by have := HER.out; omega)
    have c4 := HY.out.rd.cells.2.2.2.2.1
    have hne : ((SX.err : Int) != 0) = true := by
      have := HER.out
      simp; omega
    obtain ⟨er, her⟩ : ∃ er, er = SX.err := ⟨_, rfl⟩
    obtain ⟨wh, hwh⟩ : ∃ wh, wh = SX.wh := ⟨_, rfl⟩
    obtain ⟨C, hC⟩ : ∃ C : World → Prop, C = fun W => Below WX.heap.size WX W := ⟨_, rfl⟩
    have HG : Hid (Grows C) := by rw [hC]; exact fun W W' h1 h2 => h1.trans (h2.mono h1.size)
    have HCD : Hid (C { WX with drawn := WX.drawn + 1 }) := by rw [hC]; exact ⟨rfl, rfl, rfl, Nat.le_refl _, fun _ _ => rfl⟩
    have HCB : Hid (∀ W, C W → Below WX.heap.size WX W) := by rw [hC]; exact fun W h => h
    have HC4 : Hid (∀ W, C W → W.cell? ⟨p, 4, none⟩ = some (.int .i64 er)) := fun W hW => by rw [her]; exact (HY.out.rd.keep (HCB.out W hW)).cells.2.2.2.2.1
    have HC5 : Hid (∀ W, C W → W.cell? ⟨p, 5, none⟩ = some (.int .i64 wh)) := fun W hW => by rw [hwh]; exact (HY.out.rd.keep (HCB.out W hW)).cells.2.2.2.2.2.1
    have HER2 := hide her
    have HWH2 := hide hwh
    rw [← her] at c4 hne
    clear hC her hwh
    go_wp2
    have hG := HG.out
    have hc4 := HC4.out
    have hc5 := HC5.out
    refine w_lit (C := C) (by kernel_rfl) (by kernel_rfl) HCD.out ?_
    refine w_value (PT p) (by kernel_rfl) (fun w hw => x_move _ _ _ _ _ _ _ _ rfl w) ?_
    simp only [Act.put, List.setIfInBounds_toArray, List.set_cons_succ, List.set_cons_zero]
    refine w_value (PT p) (by kernel_rfl) (fun w hw => x_nilCheck _ _ _ _ _ _ _ _ rfl w) ?_
    simp only [Act.put, List.setIfInBounds_toArray, List.set_cons_succ, List.set_cons_zero]
    refine w_value (.pointer (some ⟨p, 4, none⟩)) (by kernel_rfl) (fun w hw => x_fieldR4 _ _ _ _ _ _ _ p rfl w) ?_
    simp only [Act.put, List.setIfInBounds_toArray, List.set_cons_succ, List.set_cons_zero]
    refine w_value (.int .i64 er) (by kernel_rfl) (fun w hw => x_loadErr _ _ _ _ _ _ _ p 4 _ rfl w (hc4 w hw)) ?_
    simp only [Act.put, List.setIfInBounds_toArray, List.set_cons_succ, List.set_cons_zero]
    refine w_value (PT p) (by kernel_rfl) (fun w hw => x_move _ _ _ _ _ _ _ _ rfl w) ?_
    simp only [Act.put, List.setIfInBounds_toArray, List.set_cons_succ, List.set_cons_zero]
    refine w_value (PT p) (by kernel_rfl) (fun w hw => x_nilCheck _ _ _ _ _ _ _ _ rfl w) ?_
    simp only [Act.put, List.setIfInBounds_toArray, List.set_cons_succ, List.set_cons_zero]
    refine w_value (.pointer (some ⟨p, 5, none⟩)) (by kernel_rfl) (fun w hw => x_fieldR5 _ _ _ _ _ _ _ p rfl w) ?_
    simp only [Act.put, List.setIfInBounds_toArray, List.set_cons_succ, List.set_cons_zero]
    refine w_value (.int .i64 wh) (by kernel_rfl) (fun w hw => x_loadInt _ _ _ _ _ _ _ p 5 _ rfl w (hc5 w hw)) ?_
    simp only [Act.put, List.setIfInBounds_toArray, List.set_cons_succ, List.set_cons_zero]
    refine w_value (.pointer none) (by kernel_rfl) (fun w hw => x_assign _ _ _ _ _ _ _ _ rfl w) ?_
    simp only [Act.put, List.setIfInBounds_toArray, List.set_cons_succ, List.set_cons_zero]
    refine w_value (.int .i64 er) (by kernel_rfl) (fun w hw => x_assign _ _ _ _ _ _ _ _ rfl w) ?_
    simp only [Act.put, List.setIfInBounds_toArray, List.set_cons_succ, List.set_cons_zero]
    refine w_value (.int .i64 wh) (by kernel_rfl) (fun w hw => x_assign _ _ _ _ _ _ _ _ rfl w) ?_
    simp only [Act.put, List.setIfInBounds_toArray, List.set_cons_succ, List.set_cons_zero]
    refine w_nil ?_
    intro W hW
    have HBX := hide ((HBL.out).trans ((HCB.out W hW).mono HWS.out))
    clear hW hG hc4 hc5
    go_wp2
    refine bodyPost_ret (v := .tuple #[.pointer none, .int .i64 er, .int .i64 wh]) (by simp [results, Tryz.results15, go_sem]) rfl ?_
    refine ⟨fun h => absurd h HRE.out.1, fun _ => ⟨?_, HBX.out⟩⟩
    rw [HRE.out.2.1, HRE.out.2.2, ← HER2.out, ← HWH2.out]
  | true =>
    have HRE0 : Hid (rdEnd (bytesN s) = if s1.skip.err = 0 ∧ 1000 < r.size then s1.skip.fail 3 0 else s1.skip) := by
      show _ = _
      unfold rdEnd
      rw [HRS.out]
      simp only
      rw [← HQ.out]
      simp only [if_true]
    have c4 := HO2.out.rd.cells.2.2.2.2.1
    by_cases he : s1.skip.err = 0
    · rw [he] at c4
      have HSZ := hide (size_any b r w2 HO2.out.re)
      obtain ⟨sz, hsz⟩ : ∃ sz, sz = r.size := ⟨_, rfl⟩
      rw [← hsz] at HSZ HRE0
      have hszl : sz ≤ 9223372036854775807 := by rw [hsz]; exact r.size_le
      have HE0 := hide he
      clear hsz he
      unfold PT at HSZ
      go_wp2_with fail
      refine HSZ.out.mono ?_
      rintro e w3 ⟨rfl, rfl⟩
      clear HSZ
      by_cases hbig : 1000 < sz
      · have hd3 : decide ((1000 : Int) < sz) = true := by simp; omega
        have hd4 : decide (1000 < sz) = true := by simp [hbig]
        have HF := hide (fail_any p 3 0 s _ w3 HO2.out.rd)
        have HRE : Hid ((rdEnd (bytesN s)).err ≠ 0 ∧ (rdEnd (bytesN s)).err = (s1.skip.fail 3 0).err ∧ (rdEnd (bytesN s)).wh = (s1.skip.fail 3 0).wh) := by
          have e : rdEnd (bytesN s) = s1.skip.fail 3 0 := by rw [HRE0.out, if_pos ⟨HE0.out, hbig⟩]
          rw [e]; exact ⟨fail_err 3 0 _ (by omega), rfl, rfl⟩
        have HER : Hid ((s1.skip.fail 3 0).err ≠ 0) := fail_err 3 0 s1.skip (by omega)
        clear hbig
        unfold PT at HF
        go_wp2_with fail
        refine HF.out.mono ?_
        rintro e WX ⟨rfl, hR3, hA3⟩
        obtain ⟨SX, hSX⟩ : ∃ SX, SX = s1.skip.fail 3 0 := ⟨_, rfl⟩
        rw [← hSX] at hR3 HER HRE
        have HY := hide (HO2.out.read hR3 hA3)
        have HBL := hide (HFIN.out _ _ HY.out).1
        have HWS := hide (HFIN.out _ _ HY.out).2
        clear hR3 hA3 HF HO2 hSX HFIN c4
        have c4 := HY.out.rd.cells.2.2.2.2.1
        have hne : ((SX.err : Int) != 0) = true := by
          have := HER.out
          simp; omega
        obtain ⟨er, her⟩ : ∃ er, er = SX.err := ⟨_, rfl⟩
        obtain ⟨wh, hwh⟩ : ∃ wh, wh = SX.wh := ⟨_, rfl⟩
        obtain ⟨C, hC⟩ : ∃ C : World → Prop, C = fun W => Below WX.heap.size WX W := ⟨_, rfl⟩
        have HG : Hid (Grows C) := by rw [hC]; exact fun W W' h1 h2 => h1.trans (h2.mono h1.size)
        have HCD : Hid (C { WX with drawn := WX.drawn + 1 }) := by rw [hC]; exact ⟨rfl, rfl, rfl, Nat.le_refl _, fun _ _ => rfl⟩
        have HCB : Hid (∀ W, C W → Below WX.heap.size WX W) := by rw [hC]; exact fun W h => h
        have HC4 : Hid (∀ W, C W → W.cell? ⟨p, 4, none⟩ = some (.int .i64 er)) := fun W hW => by rw [her]; exact (HY.out.rd.keep (HCB.out W hW)).cells.2.2.2.2.1
        have HC5 : Hid (∀ W, C W → W.cell? ⟨p, 5, none⟩ = some (.int .i64 wh)) := fun W hW => by rw [hwh]; exact (HY.out.rd.keep (HCB.out W hW)).cells.2.2.2.2.2.1
        have HER2 := hide her
        have HWH2 := hide hwh
        rw [← her] at c4 hne
        clear hC her hwh
        go_wp2
        have hG := HG.out
        have hc4 := HC4.out
        have hc5 := HC5.out
        refine w_lit (C := C) (by kernel_rfl) (by kernel_rfl) HCD.out ?_
        refine w_value (PT p) (by kernel_rfl) (fun w hw => x_move _ _ _ _ _ _ _ _ rfl w) ?_
        simp only [Act.put, List.setIfInBounds_toArray, List.set_cons_succ, List.set_cons_zero]
        refine w_value (PT p) (by kernel_rfl) (fun w hw => x_nilCheck _ _ _ _ _ _ _ _ rfl w) ?_
        simp only [Act.put, List.setIfInBounds_toArray, List.set_cons_succ, List.set_cons_zero]
        refine w_value (.pointer (some ⟨p, 4, none⟩)) (by kernel_rfl) (fun w hw => x_fieldR4 _ _ _ _ _ _ _ p rfl w) ?_
        simp only [Act.put, List.setIfInBounds_toArray, List.set_cons_succ, List.set_cons_zero]
        refine w_value (.int .i64 er) (by kernel_rfl) (fun w hw => x_loadErr _ _ _ _ _ _ _ p 4 _ rfl w (hc4 w hw)) ?_
        simp only [Act.put, List.setIfInBounds_toArray, List.set_cons_succ, List.set_cons_zero]
        refine w_value (PT p) (by kernel_rfl) (fun w hw => x_move _ _ _ _ _ _ _ _ rfl w) ?_
        simp only [Act.put, List.setIfInBounds_toArray, List.set_cons_succ, List.set_cons_zero]
        refine w_value (PT p) (by kernel_rfl) (fun w hw => x_nilCheck _ _ _ _ _ _ _ _ rfl w) ?_
        simp only [Act.put, List.setIfInBounds_toArray, List.set_cons_succ, List.set_cons_zero]
        refine w_value (.pointer (some ⟨p, 5, none⟩)) (by kernel_rfl) (fun w hw => x_fieldR5 _ _ _ _ _ _ _ p rfl w) ?_
        simp only [Act.put, List.setIfInBounds_toArray, List.set_cons_succ, List.set_cons_zero]
        refine w_value (.int .i64 wh) (by kernel_rfl) (fun w hw => x_loadInt _ _ _ _ _ _ _ p 5 _ rfl w (hc5 w hw)) ?_
        simp only [Act.put, List.setIfInBounds_toArray, List.set_cons_succ, List.set_cons_zero]
        refine w_value (.pointer none) (by kernel_rfl) (fun w hw => x_assign _ _ _ _ _ _ _ _ rfl w) ?_
        simp only [Act.put, List.setIfInBounds_toArray, List.set_cons_succ, List.set_cons_zero]
        refine w_value (.int .i64 er) (by kernel_rfl) (fun w hw => x_assign _ _ _ _ _ _ _ _ rfl w) ?_
        simp only [Act.put, List.setIfInBounds_toArray, List.set_cons_succ, List.set_cons_zero]
        refine w_value (.int .i64 wh) (by kernel_rfl) (fun w hw => x_assign _ _ _ _ _ _ _ _ rfl w) ?_
        simp only [Act.put, List.setIfInBounds_toArray, List.set_cons_succ, List.set_cons_zero]
        refine w_nil ?_
        intro W hW
        have HBX := hide ((HBL.out).trans ((HCB.out W hW).mono HWS.out))
        clear hW hG hc4 hc5
        go_wp2
        refine bodyPost_ret (v := .tuple #[.pointer none, .int .i64 er, .int .i64 wh]) (by simp [results, Tryz.results15, go_sem]) rfl ?_
        refine ⟨fun h => absurd h HRE.out.1, fun _ => ⟨?_, HBX.out⟩⟩
        rw [HRE.out.2.1, HRE.out.2.2, ← HER2.out, ← HWH2.out]
      · have hd3 : decide ((1000 : Int) < sz) = false := by simp; omega
        have hd4 : decide (1000 < sz) = false := by simp; omega
        have HRE : Hid ((rdEnd (bytesN s)).err = 0) := by
          show _ = _
          rw [HRE0.out, if_neg (fun h => hbig h.2)]; exact HE0.out
        have HBL := hide (HFIN.out _ _ HO2.out).1
        clear hbig
        go_wp2
        refine bodyPost_ret (v := .tuple #[PT b, .int .i64 (0 : Nat), .int .i64 (0 : Nat)]) (by simp [results, Tryz.results15, go_sem, PT]) rfl ?_
        refine ⟨fun _ => ⟨b, rfl, ?_, HBL.out⟩, fun h => absurd HRE.out h⟩
        rw [HRS.out]; exact HO2.out.re
    · have HRE : Hid ((rdEnd (bytesN s)).err ≠ 0 ∧ (rdEnd (bytesN s)).err = s1.skip.err ∧ (rdEnd (bytesN s)).wh = s1.skip.wh) := by
        rw [HRE0.out, if_neg (fun h => he h.1)]; exact ⟨he, rfl, rfl⟩
      have HER : Hid (s1.skip.err ≠ 0) := he
      have hz0 : ((s1.skip.err : Int) == 0) = false := beq_eq_false_iff_ne.2 (by omega)
      obtain ⟨SX, hSX⟩ : ∃ SX, SX = s1.skip := ⟨_, rfl⟩
      obtain ⟨WX, hWX⟩ : ∃ WX, WX = w2 := ⟨_, rfl⟩
      rw [← hSX] at HER HRE HO2 hz0 c4
      rw [← hWX] at HO2 c4 ⊢
      have HY := HO2
      have HBL := hide (HFIN.out _ _ HY.out).1
      have HWS := hide (HFIN.out _ _ HY.out).2
      clear HO2 hSX HFIN he hWX c4
      have c40 := HY.out.rd.cells.2.2.2.2.1
      have c4 := HY.out.rd.cells.2.2.2.2.1
      have hne : ((SX.err : Int) != 0) = true := by
        have := HER.out
        simp; omega
      obtain ⟨er, her⟩ : ∃ er, er = SX.err := ⟨_, rfl⟩
      obtain ⟨wh, hwh⟩ : ∃ wh, wh = SX.wh := ⟨_, rfl⟩
      obtain ⟨C, hC⟩ : ∃ C : World → Prop, C = fun W => Below WX.heap.size WX W := ⟨_, rfl⟩
      have HG : Hid (Grows C) := by rw [hC]; exact fun W W' h1 h2 => h1.trans (h2.mono h1.size)
      have HCD : Hid (C { WX with drawn := WX.drawn + 1 }) := by rw [hC]; exact ⟨rfl, rfl, rfl, Nat.le_refl _, fun _ _ => rfl⟩
      have HCB : Hid (∀ W, C W → Below WX.heap.size WX W) := by rw [hC]; exact fun W h => h
      have HC4 : Hid (∀ W, C W → W.cell? ⟨p, 4, none⟩ = some (.int .i64 er)) := fun W hW => by rw [her]; exact (HY.out.rd.keep (HCB.out W hW)).cells.2.2.2.2.1
      have HC5 : Hid (∀ W, C W → W.cell? ⟨p, 5, none⟩ = some (.int .i64 wh)) := fun W hW => by rw [hwh]; exact (HY.out.rd.keep (HCB.out W hW)).cells.2.2.2.2.2.1
      have HER2 := hide her
      have HWH2 := hide hwh
      rw [← her] at c4 hne
      clear hC her hwh
      go_wp2
      have hG := HG.out
      have hc4 := HC4.out
      have hc5 := HC5.out
      refine w_lit (C := C) (by kernel_rfl) (by kernel_rfl) HCD.out ?_
      refine w_value (PT p) (by kernel_rfl) (fun w hw => x_move _ _ _ _ _ _ _ _ rfl w) ?_
      simp only [Act.put, List.setIfInBounds_toArray, List.set_cons_succ, List.set_cons_zero]
      refine w_value (PT p) (by kernel_rfl) (fun w hw => x_nilCheck _ _ _ _ _ _ _ _ rfl w) ?_
      simp only [Act.put, List.setIfInBounds_toArray, List.set_cons_succ, List.set_cons_zero]
      refine w_value (.pointer (some ⟨p, 4, none⟩)) (by kernel_rfl) (fun w hw => x_fieldR4 _ _ _ _ _ _ _ p rfl w) ?_
      simp only [Act.put, List.setIfInBounds_toArray, List.set_cons_succ, List.set_cons_zero]
      refine w_value (.int .i64 er) (by kernel_rfl) (fun w hw => x_loadErr _ _ _ _ _ _ _ p 4 _ rfl w (hc4 w hw)) ?_
      simp only [Act.put, List.setIfInBounds_toArray, List.set_cons_succ, List.set_cons_zero]
      refine w_value (PT p) (by kernel_rfl) (fun w hw => x_move _ _ _ _ _ _ _ _ rfl w) ?_
      simp only [Act.put, List.setIfInBounds_toArray, List.set_cons_succ, List.set_cons_zero]
      refine w_value (PT p) (by kernel_rfl) (fun w hw => x_nilCheck _ _ _ _ _ _ _ _ rfl w) ?_
      simp only [Act.put, List.setIfInBounds_toArray, List.set_cons_succ, List.set_cons_zero]
      refine w_value (.pointer (some ⟨p, 5, none⟩)) (by kernel_rfl) (fun w hw => x_fieldR5 _ _ _ _ _ _ _ p rfl w) ?_
      simp only [Act.put, List.setIfInBounds_toArray, List.set_cons_succ, List.set_cons_zero]
      refine w_value (.int .i64 wh) (by kernel_rfl) (fun w hw => x_loadInt _ _ _ _ _ _ _ p 5 _ rfl w (hc5 w hw)) ?_
      simp only [Act.put, List.setIfInBounds_toArray, List.set_cons_succ, List.set_cons_zero]
      refine w_value (.pointer none) (by kernel_rfl) (fun w hw => x_assign _ _ _ _ _ _ _ _ rfl w) ?_
      simp only [Act.put, List.setIfInBounds_toArray, List.set_cons_succ, List.set_cons_zero]
      refine w_value (.int .i64 er) (by kernel_rfl) (fun w hw => x_assign _ _ _ _ _ _ _ _ rfl w) ?_
      simp only [Act.put, List.setIfInBounds_toArray, List.set_cons_succ, List.set_cons_zero]
      refine w_value (.int .i64 wh) (by kernel_rfl) (fun w hw => x_assign _ _ _ _ _ _ _ _ rfl w) ?_
      simp only [Act.put, List.setIfInBounds_toArray, List.set_cons_succ, List.set_cons_zero]
      refine w_nil ?_
      intro W hW
      have HBX := hide ((HBL.out).trans ((HCB.out W hW).mono HWS.out))
      clear hW hG hc4 hc5
      go_wp2
      refine bodyPost_ret (v := .tuple #[.pointer none, .int .i64 er, .int .i64 wh]) (by simp [results, Tryz.results15, go_sem]) rfl ?_
      refine ⟨fun h => absurd h HRE.out.1, fun _ => ⟨?_, HBX.out⟩⟩
      rw [HRE.out.2.1, HRE.out.2.2, ← HER2.out, ← HWH2.out]
theorem read_long (s : ByteArray) (w : World) (hs : 65536 < s.size) (hs2 : s.size ≤ 9223372036854775807) : Calls Tryz.prog 15 #[.string s] w fun e w' => e = .returned (.tuple #[.pointer none, .int .i64 (3 : Nat), .int .i64 (0 : Nat)]) ∧ w' = w := by
  have hd1 : decide ((65536 : Int) < s.size) = true := by simp; omega
  have hd2 : decide (65536 < s.size) = true := by simp [hs]
  go_enter Tryz.func15, Tryz.ntmps15
  go_wp2
  exact bodyPost_ret (v := .tuple #[.pointer none, .int .i64 (3 : Nat), .int .i64 (0 : Nat)]) (by simp [results, Tryz.results15, go_sem]) rfl ⟨rfl, rfl⟩
end Go.Proofs.YthhfpjehamhcbaaGreatDoor
