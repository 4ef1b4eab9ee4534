/- Texts of this claim put together: ReM, ReN. -/
import Derived.Test.YthhfpjehamhcbaaGreatDoorJoinReL
/- With. -/
namespace Go.Proofs.YthhfpjehamhcbaaGreatDoor
set_option maxRecDepth 100000
set_option linter.unusedSimpArgs false
set_option linter.unusedVariables false
open Go.RowKit

def rWith (r : RE) (l : List RE) : RE :=
  if r.op = 3 then rThen l else if r.op = 4 then rAny l else if r.op = 6 then rBoth l else if r.op = 5 ∧ l.length = 1 then rMany (l.getD 0 rNothing) else if r.op = 7 ∧ l.length = 2 then rBut (l.getD 0 rNothing) (l.getD 1 rNothing) else r

set_option maxHeartbeats 1000000 in
theorem with_any (b : Nat) (r : RE) (l : List RE) (v : Value) (w : World) (h : ReAt w b r) (hl : ResRow w v l) (hw : ∀ x ∈ l, Wf x) (h0 : l.length ≤ 1099511627776) (h3 : (catL l).length ≤ 1099511627776) (h4 : (flatL 4 l).length ≤ 1099511627776) (h6 : (flatL 6 l).length ≤ 1099511627776) (hT : TabAt w) :
    Calls Tryz.prog 84 #[PT b, v] w fun e w' => ∃ c, e = .returned (PT c) ∧ ReAt w' c (rWith r l) ∧ Below w.heap.size w w' := by
  have c0 := h.cell0
  obtain ⟨res, hres⟩ : ∃ res, res = rWith r l := ⟨_, rfl⟩
  rw [← hres]
  unfold rWith at hres
  have HRES := hide hres
  have HR := hide h
  have HL := hide hl
  have HT := hide hT
  obtain ⟨hn, ad, cap, rfl, hc⟩ := hl.at
  clear hres h hl hT
  unfold PT
  by_cases e3 : r.op = 3
  · have f3 : ((r.op : Int) == 3) = true := by simp [e3]
    have HX := hide (show res = rThen l from by have := HRES.out; rw [if_pos e3] at this; exact this)
    clear e3 hc
    go_enter Tryz.func84, Tryz.ntmps84
    go_wp2_with fail
    refine (then_any l _ w HL.out hw h0 h3).mono ?_
    rintro e w1 ⟨c, rfl, h1, h2⟩
    go_wp2
    go_ret
    exact ⟨c, rfl, by rw [HX.out]; exact h1, h2⟩
  · have f3 : ((r.op : Int) == 3) = false := beq_eq_false_iff_ne.2 (by omega)
    by_cases e4 : r.op = 4
    · have f4 : ((r.op : Int) == 4) = true := by simp [e4]
      have HX := hide (show res = rAny l from by have := HRES.out; rw [if_neg e3, if_pos e4] at this; exact this)
      clear e3 e4 hc
      go_enter Tryz.func84, Tryz.ntmps84
      go_wp2_with fail
      refine (any_re l _ w HL.out hw h0 h4 HT.out).mono ?_
      rintro e w1 ⟨c, rfl, h1, h2⟩
      go_wp2
      go_ret
      exact ⟨c, rfl, by rw [HX.out]; exact h1, h2⟩
    · have f4 : ((r.op : Int) == 4) = false := beq_eq_false_iff_ne.2 (by omega)
      by_cases e6 : r.op = 6
      · have f6 : ((r.op : Int) == 6) = true := by simp [e6]
        have HX := hide (show res = rBoth l from by have := HRES.out; rw [if_neg e3, if_neg e4, if_pos e6] at this; exact this)
        clear e3 e4 e6 hc
        go_enter Tryz.func84, Tryz.ntmps84
        go_wp2_with fail
        refine (both_re l _ w HL.out hw h0 h6 HT.out).mono ?_
        rintro e w1 ⟨c, rfl, h1, h2⟩
        go_wp2
        go_ret
        exact ⟨c, rfl, by rw [HX.out]; exact h1, h2⟩
      · have f6 : ((r.op : Int) == 6) = false := beq_eq_false_iff_ne.2 (by omega)
        by_cases e5 : r.op = 5 ∧ l.length = 1
        · have f5 : ((r.op : Int) == 5) = true := by simp [e5.1]
          have f5' : ((l.length : Int) == 1) = true := by simp [e5.2]
          have HX := hide (show res = rMany (l.getD 0 rNothing) from by have := HRES.out; rw [if_neg e3, if_neg e4, if_neg e6, if_pos e5] at this; exact this)
          have hl1 := e5.2
          match l, hl1 with
          | [x], _ =>
          obtain ⟨bb, off, b0, rfl, -, d0, r0⟩ := hc 0 (by simp)
          rw [Nat.add_zero] at d0
          unfold PT at d0
          simp only [List.length_cons, List.length_nil] at *
          simp only [List.getElem_cons_zero] at r0
          have HX1 : Hid (res = rMany x) := HX.out
          have HR0 := hide r0
          clear e3 e4 e6 e5 hc r0 HX
          go_enter Tryz.func84, Tryz.ntmps84
          go_wp2_with fail
          refine (many_any b0 _ w HR0.out).mono ?_
          rintro e w1 ⟨c, rfl, h1, h2⟩
          go_wp2
          go_ret
          exact ⟨c, rfl, by rw [HX1.out]; exact h1, h2⟩
        · by_cases e7 : r.op = 7 ∧ l.length = 2
          · have f5 : ((r.op : Int) == 5) = false := beq_eq_false_iff_ne.2 (by omega)
            have f7 : ((r.op : Int) == 7) = true := by simp [e7.1]
            have f7' : ((l.length : Int) == 2) = true := by simp [e7.2]
            have HX := hide (show res = rBut (l.getD 0 rNothing) (l.getD 1 rNothing) from by have := HRES.out; rw [if_neg e3, if_neg e4, if_neg e6, if_neg e5, if_pos e7] at this; exact this)
            have hl2 := e7.2
            match l, hl2 with
            | [x, y], _ =>
            obtain ⟨bb, off, b0, rfl, -, d0, r0⟩ := hc 0 (by simp)
            obtain ⟨bb', off', b1, ee, -, d1, r1⟩ := hc 1 (by simp)
            cases ee
            simp only [List.length_cons, List.length_nil] at *
            simp only [List.getElem_cons_zero, List.getElem_cons_succ] at r0 r1
            have hxy : Hid (res = rBut x y) := HX.out
            have HR0 := hide r0
            have HR1 := hide r1
            have hwx := (hw x (by simp)).k
            have hwy := (hw y (by simp)).k
            clear e3 e4 e6 e5 e7 hc r0 r1 HX
            go_enter Tryz.func84, Tryz.ntmps84
            have HCA : Hid (∀ W, Below w.heap.size w W → W.cell? ⟨bb, off + 0, none⟩ = some (PT b0) ∧ W.cell? ⟨bb, off + 1, none⟩ = some (PT b1)) := fun W hb => by
              have hlt := World.block_lt_of_cell? _ _ d0
              exact ⟨(World.cell?_of_block (w := w) (hb.block _ hlt)).trans d0, (World.cell?_of_block (w := w) (hb.block _ (World.block_lt_of_cell? _ _ d1))).trans d1⟩
            go_wp2
            obtain ⟨S, hSd⟩ : ∃ S : World → Prop, S = fun W => Below w.heap.size w W := ⟨_, rfl⟩
            have hSb : ∀ W, S W → Below w.heap.size w W := fun W h => by rw [hSd] at h; exact h
            have hbS : ∀ W, Below w.heap.size w W → S W := fun W h => by rw [hSd]; exact h
            have hS : S { w with drawn := w.drawn + 1 } := hbS _ ⟨rfl, rfl, rfl, Nat.le_refl _, fun _ _ => rfl⟩
            clear hSd
            refine wp_region_noPanic (wp_region_held (S := S) (by kernel_rfl) ?_)
            show wpAnyH _ _ _ _ _ 8 #[false, false, false, false, false, false, false, false] _ _
            generalize ({ w with drawn := w.drawn + 1 } : World) = W at hS ⊢
            refine h_take 0 (.slice (some ⟨bb, off, none⟩) 2 cap) rfl (by kernel_rfl) (by kernel_rfl) (by kernel_rfl) rfl (fun w hw => x_move _ _ _ _ _ _ _ _ rfl w) hS ?_
            simp only [Act.put, List.setIfInBounds_toArray, List.set_cons_succ, List.set_cons_zero]
            refine h_take 1 (.pointer (some ⟨bb, off + 0, none⟩)) rfl (by kernel_rfl) (by kernel_rfl) (by kernel_rfl) rfl (fun w hw => x_idxP _ _ _ _ _ _ _ _ bb off 2 cap 0 rfl rfl (by omega) w) hS ?_
            simp only [Act.put, List.setIfInBounds_toArray, List.set_cons_succ, List.set_cons_zero]
            refine h_take 2 (PT b0) rfl (by kernel_rfl) (by kernel_rfl) (by kernel_rfl) rfl (fun w hw => x_loadP _ _ _ _ _ _ _ _ _ _ rfl w (HCA.out w (hSb w hw)).1) hS ?_
            simp only [Act.put, List.setIfInBounds_toArray, List.set_cons_succ, List.set_cons_zero]
            refine h_take 3 (.slice (some ⟨bb, off, none⟩) 2 cap) rfl (by kernel_rfl) (by kernel_rfl) (by kernel_rfl) rfl (fun w hw => x_move _ _ _ _ _ _ _ _ rfl w) hS ?_
            simp only [Act.put, List.setIfInBounds_toArray, List.set_cons_succ, List.set_cons_zero]
            refine h_take 4 (.pointer (some ⟨bb, off + 1, none⟩)) rfl (by kernel_rfl) (by kernel_rfl) (by kernel_rfl) rfl (fun w hw => x_idxP _ _ _ _ _ _ _ _ bb off 2 cap 1 rfl rfl (by omega) w) hS ?_
            simp only [Act.put, List.setIfInBounds_toArray, List.set_cons_succ, List.set_cons_zero]
            refine h_take 5 (PT b1) rfl (by kernel_rfl) (by kernel_rfl) (by kernel_rfl) rfl (fun w hw => x_loadP _ _ _ _ _ _ _ _ _ _ rfl w (HCA.out w (hSb w hw)).2) hS ?_
            simp only [Act.put, List.setIfInBounds_toArray, List.set_cons_succ, List.set_cons_zero]
            refine h_callE 6 26 #[PT b0, PT b1] (fun v w' => ∃ c, v = PT c ∧ ReAt w' c (rBut x y) ∧ Below w.heap.size w w') rfl (by kernel_rfl) rfl (x_call2 _ _ _ _ _ _ _ _ _ _ _ _ _ rfl rfl rfl (enters_of Tryz.func26 (by kernel_rfl) rfl) _) ((but_any b0 b1 x y W (HR0.out.keep (hSb _ hS)) (HR1.out.keep (hSb _ hS)) hwx hwy (HT.out.agree (Agree.of_all (K := fun _ => True) (hSb _ hS)) trivial)).mono fun e w' ⟨c, h1, h2, h3⟩ => ⟨_, h1, c, rfl, h2, (hSb _ hS).trans (h3.mono (hSb _ hS).size)⟩) (fun v w' ⟨c, _, _, h⟩ => hbS _ h) ?_
            rintro v4 W4 ⟨c, rfl, h4, hb4⟩
            simp only [Act.put, List.setIfInBounds_toArray, List.set_cons_succ, List.set_cons_zero]
            have hS4 := hbS _ hb4
            refine h_take 7 (PT c) rfl (by kernel_rfl) (by kernel_rfl) (by kernel_rfl) rfl (fun w hw => x_assign _ _ _ _ _ _ _ _ rfl w) hS4 ?_
            simp only [Act.put, List.setIfInBounds_toArray, List.set_cons_succ, List.set_cons_zero]
            refine wpAnyH_done (by kernel_rfl) ?_ _
            refine NoPanic.normal ?_
            have H4 := hide h4
            have HB4 := hide hb4
            clear hS hSb hbS h4 hb4 hS4
            go_wp2
            go_ret
            exact ⟨c, rfl, by rw [hxy.out]; exact H4.out, HB4.out⟩
          · have HX := hide (show res = r from by have := HRES.out; rw [if_neg e3, if_neg e4, if_neg e6, if_neg e5, if_neg e7] at this; exact this)
            have hgo : ∀ (P : Prop), (((r.op : Int) == 5) = true → ((l.length : Int) == 1) = false → ((r.op : Int) == 7) = false → P) → (((r.op : Int) == 5) = false → ((r.op : Int) == 7) = true → ((l.length : Int) == 2) = false → P) → (((r.op : Int) == 5) = false → ((r.op : Int) == 7) = false → P) → P := fun P h1 h2 h3 => by
              by_cases e : r.op = 5
              · exact h1 (by simp [e]) (beq_eq_false_iff_ne.2 (by omega)) (beq_eq_false_iff_ne.2 (by omega))
              · by_cases e' : r.op = 7
                · exact h2 (beq_eq_false_iff_ne.2 (by omega)) (by simp [e']) (beq_eq_false_iff_ne.2 (by omega))
                · exact h3 (beq_eq_false_iff_ne.2 (by omega)) (beq_eq_false_iff_ne.2 (by omega))
            clear e3 e4 e6 e5 e7 hc
            refine hgo _ (fun f5 f5' f7 => ?_) (fun f5 f7 f7' => ?_) (fun f5 f7 => ?_)
            all_goals
              clear hgo
              go_enter Tryz.func84, Tryz.ntmps84
              go_wp2
              go_ret
              exact ⟨b, rfl, by rw [HX.out]; exact HR.out, Below.refl _ _⟩
end Go.Proofs.YthhfpjehamhcbaaGreatDoor
/- Word. -/
namespace Go.Proofs.YthhfpjehamhcbaaGreatDoor
set_option maxRecDepth 100000
set_option linter.unusedSimpArgs false
set_option linter.unusedVariables false
open Go.RowKit

/-- A text's bytes. -/
def bytesN (s : ByteArray) : List Nat := s.data.toList.map UInt8.toNat
def rLetter (c : Nat) : RE := rOne (setOf [c])
def rWord (t : List Nat) : RE := rThen (t.map rLetter)
theorem rLetter_kids (c : Nat) : (rLetter c).kids = [] := rOne_kids _
theorem ReAt.leafAt {W W' : World} {b : Nat} {r : RE} (h : ReAt W b r) (hk : r.kids = []) (hb : W'.heap[b]? = W.heap[b]?) : ReAt W' b r := by
  obtain ⟨v, hB, hrow⟩ := h.row
  rw [r.eta] at hB ⊢
  rw [hk] at hrow hB ⊢
  obtain ⟨-, a, cap, rfl, -⟩ := hrow.at
  exact ReAt.ofRow (v := .slice a ([] : List RE).length cap) (hb.trans hB) ⟨fun _ => 0, ⟨⟨by simp, .mk (by simp)⟩, a, cap, rfl, fun k hk => by simp at hk⟩, fun i k hk => by simp at hk⟩
/-- What Word keeps: its row, filled so far. -/
structure WordW (w : World) (g n : Nat) (ps : List (Nat × RE)) (W : World) : Prop where
  row : ∃ c : Array Value, Blk W g c 26 ∧ c.size = n ∧ ∀ (j : Nat) (p : Nat × RE), ps[j]? = some p → c[j]? = some (PT p.1)
  leaf : ∀ p ∈ ps, ReAt W p.1 p.2 ∧ p.2.kids = []
  below : Below w.heap.size w W
theorem WordW.step {w W W' : World} {g n : Nat} {ps : List (Nat × RE)} (h : WordW w g n ps W) (hb : Below W.heap.size W W') : WordW w g n ps W' := by
  obtain ⟨⟨c, h1, h2⟩, h3, h4⟩ := h
  exact ⟨⟨c, h1.below hb h1.lt, h2⟩, fun p hp => ⟨(h3 p hp).1.keep hb, (h3 p hp).2⟩, h4.trans (hb.mono h4.size)⟩
theorem WordW.store {w W : World} {g n b : Nat} {ps : List (Nat × RE)} {r : RE} (h : WordW w g n ps W) (hg : w.heap.size ≤ g) (hr : ReAt W b r) (hk : r.kids = []) (hl : ps.length < n) : WordW w g n (ps ++ [(b, r)]) (W.setCell ⟨g, ps.length, none⟩ (PT b)) := by
  obtain ⟨⟨c, h1, h2, h2'⟩, h3, h4⟩ := h
  have hne : ∀ {b' : Nat} {r' : RE}, ReAt W b' r' → b' ≠ g := fun hr' => by
    obtain ⟨v, hB, -⟩ := hr'.row
    rintro rfl
    have e := hB.of_cells.symm.trans h1.of_cells
    injection e with e; injection e with _ e2
    exact absurd e2 (by decide)
  refine ⟨⟨_, h1.set ps.length (PT b), by simpa using h2, fun j p hp => ?_⟩, fun p hp => ?_, h4.setCell hg _⟩
  · by_cases e : j = ps.length
    · subst e
      rw [List.getElem?_append_right (Nat.le_refl _)] at hp
      simp at hp
      rw [Array.getElem?_setIfInBounds_self_of_lt (by omega), ← hp]
    · have hj : j < ps.length := by
        have := (List.getElem?_eq_some_iff.1 hp).1
        simp at this; omega
      rw [List.getElem?_append_left hj] at hp
      rw [Array.getElem?_setIfInBounds_ne (by omega)]
      exact h2' j p hp
  · rcases List.mem_append.1 hp with hp | hp
    · exact ⟨(h3 p hp).1.leafAt (h3 p hp).2 (Below.heap_setCell _ _ _ _ (hne (h3 p hp).1)), (h3 p hp).2⟩
    · simp at hp; subst hp
      exact ⟨hr.leafAt hk (Below.heap_setCell _ _ _ _ (hne hr)), hk⟩
theorem catL_letters (l : List RE) (h : ∀ r ∈ l, r.kids = []) : (catL l).length ≤ l.length := by
  induction l with
  | nil => simp [catL]
  | cons x r ih =>
    have h1 := ih (fun y hy => h y (by simp [hy]))
    have hx := h x (by simp)
    simp only [catL, List.flatMap_cons, List.length_append, List.length_cons] at *
    have : (catK x).length ≤ 1 := by
      unfold catK
      split
      · simp
      · split
        · rw [hx]; simp
        · simp
    omega

set_option maxHeartbeats 1000000 in
theorem word_any (s : ByteArray) (w : World) (hs : s.size ≤ 1000000) :
    Calls Tryz.prog 28 #[.string s] w fun e w' => ∃ b, e = .returned (PT b) ∧ ReAt w' b (rWord (bytesN s)) ∧ Below w.heap.size w w' := by
  obtain ⟨i, hi, hz0, hz1, hz2⟩ := info_parts infoP
  obtain ⟨n, hn⟩ : ∃ n, n = s.size := ⟨_, rfl⟩
  have hbl : (bytesN s).length = n := by rw [hn]; simp [bytesN]
  have hlt256 : ∀ x ∈ bytesN s, x < 256 := fun x hx => by
    obtain ⟨u, -, rfl⟩ := List.mem_map.1 hx
    exact u.toNat_lt
  go_enter Tryz.func28, Tryz.ntmps28
  go_wp2_with (refine wpList_make_full _ rfl _ _ _ rfl w.heap.size _ i _ 1 Tryz.underlying52 hi hz0 hz1 .i64 .i64 _ _ n rfl rfl (by rw [hn]) (by rw [hn]) (by rw [hz2]; omega) (by unfold maxLen; omega) (Nat.le_refl _) ?_; intro w1 ho1 hg1)
  obtain ⟨g, hg⟩ : ∃ g, g = w.heap.size := ⟨_, rfl⟩
  have hW0 : WordW w g n [] w1 := by
    have hb : Below w.heap.size w w1 := grown_none hg1
    rcases ho1.2 with ⟨e, -⟩ | ⟨g', cap, cur, e, h1, h2, h3, h4, h5, h6⟩
    · cases e
    · injection e with e1 e2 e3
      injection e1 with e1
      injection e1 with e1
      subst e1 e3
      refine ⟨⟨cur, ?_, by omega, fun j p hp => by simp at hp⟩, fun p hp => by simp at hp, hb⟩
      rw [hg]; exact h2
  rw [← hg]
  have HG := hide hg
  clear ho1 hg1 hg
  subst hn
  go_loopw [10] (fun c wr => ∃ (k : Nat) (ps : List (Nat × RE)), k ≤ s.size ∧ c = .int .i64 k ∧ Hid (ps.length = k) ∧ Hid (ps.map Prod.snd = ((bytesN s).take k).map rLetter) ∧ Hid (WordW w g s.size ps wr)) (fun c _ => s.size - (intOf c).toNat)
  case atStart => exact ⟨0, [], by omega, rfl, rfl, rfl, hW0⟩
  case round =>
    clear hW0
    obtain ⟨k, ps, hk, rfl, HL, HS, HW⟩ := hrel
    by_cases hlt : k < s.size
    · have hkd : decide (k < s.size) = true := by simp [hlt]
      have hks : k < s.size := hlt
      obtain ⟨c, hc⟩ : ∃ c : Nat, c = (s[k]'hks).toNat := ⟨_, rfl⟩
      have hidx := fun w => run_index_string (P := Tryz.prog) w 9 s .i64 (k : Int) Tryz.underlying9
      have hkk : (0 : Int) ≤ k ∧ (k : Int) < s.size := ⟨by omega, by omega⟩
      simp only [dif_pos hkk, Int.toNat_natCast] at hidx
      rw [← hc] at hidx
      have hc256 : c < 256 := by rw [hc]; exact UInt8.toNat_lt _
      have HBY : Hid ((bytesN s).take (k + 1) = (bytesN s).take k ++ [c]) := by
        show (bytesN s).take (k + 1) = _
        rw [List.take_succ_eq_append_getElem (by rw [hbl]; exact hlt)]
        congr 2
        rw [hc]; simp [bytesN]; rfl
      clear hc
      go_wp2_with fail
      have hb1 := (Below.refl wr.heap.size wr).alloc (Nat.le_refl _) (.cells #[.int .u8 c] 5)
      refine (of_any [c] (by simpa using hc256) _ (some ⟨wr.heap.size, 0, none⟩) 1 (fun q hq => by
        have hB := Blk.newAt (w := wr) rfl #[.int .u8 c] 5
        obtain rfl : q = 0 := by simp at hq; omega
        exact ⟨_, _, rfl, by simp, hB.cell 0⟩) (by simp)).mono ?_
      rintro e w2 ⟨rfl, hb2⟩
      have HW2 := hide ((HW.out.step hb1).step hb2)
      clear hb1 hb2
      go_wp2_with fail
      refine (one_any _ _).mono ?_
      rintro e w3 ⟨ob, rfl, h3, hb3⟩
      have hW3 := HW2.out.step hb3
      obtain ⟨cc, kb, hcs, -⟩ := hW3.row
      have cK := kb.cell k
      have fK := kb.frozen k
      rw [Array.getElem?_eq_getElem (by omega)] at cK
      generalize cc[k] = old at cK
      have HST := hide (hW3.store (by rw [HG.out]; exact Nat.le_refl _) h3 (rOne_kids _) (by rw [HL.out]; exact hlt))
      have hkn2 : k < s.size := hlt
      clear hW3 h3 hb3 kb hcs HW2
      unfold PT
      go_wp2
      refine ⟨⟨k + 1, ps ++ [(ob, rOne (setOf [c]))], by omega, by go_num, ?_, ?_, ?_⟩, by simp [intOf]; omega⟩
      · show (ps ++ [_]).length = k + 1
        rw [List.length_append, HL.out]; rfl
      · show (ps ++ [_]).map Prod.snd = _
        rw [HBY.out, List.map_append, List.map_append, HS.out]; rfl
      · show WordW _ _ _ _ _
        have := HST.out
        rw [HL.out] at this
        exact this
    · obtain rfl : k = s.size := by omega
      have hS := HS.out
      rw [← hbl, List.take_length] at hS
      obtain ⟨c, hB, hcs, hcl⟩ := HW.out.row
      have hlp := HL.out
      have hrow : ResRow wr (.slice (some ⟨g, 0, none⟩) s.size s.size) (ps.map Prod.snd) := by
        refine RowAt.res (qs := ps) ⟨⟨by omega, .mk (by omega)⟩, _, s.size, by rw [hlp], fun j p hp => ⟨g, 0, rfl, hB.lt, ?_⟩⟩ (fun p hp => (HW.out.leaf p hp).1)
        rw [Nat.zero_add, hB.cell]; exact hcl j p hp
      have hleaf : ∀ r ∈ ps.map Prod.snd, r.kids = [] := fun r hr => by
        obtain ⟨p, hp, rfl⟩ := List.mem_map.1 hr
        exact (HW.out.leaf p hp).2
      have hcat := catL_letters _ hleaf
      rw [List.length_map] at hcat
      have hwf : ∀ r ∈ ps.map Prod.snd, Wf r := fun r hr => by
        rw [hS] at hr
        obtain ⟨x, -, rfl⟩ := List.mem_map.1 hr
        exact wf_one _
      have hth := then_any (ps.map Prod.snd) _ wr hrow hwf (by simp; omega) (by omega)
      rw [hS] at hth
      have HTH := hide hth
      clear hS hB hcs hcl hrow hleaf hcat hwf hth
      go_wp2_with fail
      refine HTH.out.mono ?_
      rintro e w5 ⟨b, rfl, h1, h2⟩
      go_wp2
      go_ret
      exact ⟨b, rfl, h1, HW.out.below.trans (h2.mono HW.out.below.size)⟩
end Go.Proofs.YthhfpjehamhcbaaGreatDoor
