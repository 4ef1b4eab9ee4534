/- Word. -/
import Derived.Test.YtkjmjppmpcnejaaGreatDoorReM
namespace Go.Proofs.YtkjmjppmpcnejaaGreatDoor
set_option maxRecDepth 100000
set_option linter.unusedSimpArgs false
set_option linter.unusedVariables false
open Go.RowKit

/-- A text's bytes. -/
def bytesN (s : ByteArray) : List Nat := s.data.toList.map UInt8.toNat
def rLetter (c : Nat) : RE := rOne (setOf [c])
def rWord (t : List Nat) : RE := rThen (t.map rLetter)
theorem rLetter_kids (c : Nat) : (rLetter c).kids = [] := rOne_kids _
theorem ReAt.leafAt {W W' : World} {b : Nat} {r : RE} (h : ReAt W b r) (hk : r.kids = []) (hb : W'.heap[b]? = W.heap[b]?) : ReAt W' b r := by
  obtain ⟨v, hB, hrow⟩ := h.row
  rw [r.eta] at hB ⊢
  rw [hk] at hrow hB ⊢
  obtain ⟨-, a, cap, rfl, -⟩ := hrow.at
  exact ReAt.ofRow (v := .slice a ([] : List RE).length cap) (hb.trans hB) ⟨fun _ => 0, ⟨⟨by simp, .mk (by simp)⟩, a, cap, rfl, fun k hk => by simp at hk⟩, fun i k hk => by simp at hk⟩
/-- What Word keeps: its row, filled so far. -/
structure WordW (w : World) (g n : Nat) (ps : List (Nat × RE)) (W : World) : Prop where
  row : ∃ c : Array Value, Blk W g c 26 ∧ c.size = n ∧ ∀ (j : Nat) (p : Nat × RE), ps[j]? = some p → c[j]? = some (PT p.1)
  leaf : ∀ p ∈ ps, ReAt W p.1 p.2 ∧ p.2.kids = []
  below : Below w.heap.size w W
theorem WordW.step {w W W' : World} {g n : Nat} {ps : List (Nat × RE)} (h : WordW w g n ps W) (hb : Below W.heap.size W W') : WordW w g n ps W' := by
  obtain ⟨⟨c, h1, h2⟩, h3, h4⟩ := h
  exact ⟨⟨c, h1.below hb h1.lt, h2⟩, fun p hp => ⟨(h3 p hp).1.keep hb, (h3 p hp).2⟩, h4.trans (hb.mono h4.size)⟩
theorem WordW.store {w W : World} {g n b : Nat} {ps : List (Nat × RE)} {r : RE} (h : WordW w g n ps W) (hg : w.heap.size ≤ g) (hr : ReAt W b r) (hk : r.kids = []) (hl : ps.length < n) : WordW w g n (ps ++ [(b, r)]) (W.setCell ⟨g, ps.length, none⟩ (PT b)) := by
  obtain ⟨⟨c, h1, h2, h2'⟩, h3, h4⟩ := h
  have hne : ∀ {b' : Nat} {r' : RE}, ReAt W b' r' → b' ≠ g := fun hr' => by
    obtain ⟨v, hB, -⟩ := hr'.row
    rintro rfl
    have e := hB.of_cells.symm.trans h1.of_cells
    injection e with e; injection e with _ e2
    exact absurd e2 (by decide)
  refine ⟨⟨_, h1.set ps.length (PT b), by simpa using h2, fun j p hp => ?_⟩, fun p hp => ?_, h4.setCell hg _⟩
  · by_cases e : j = ps.length
    · subst e
      rw [List.getElem?_append_right (Nat.le_refl _)] at hp
      simp at hp
      rw [Array.getElem?_setIfInBounds_self_of_lt (by omega), ← hp]
    · have hj : j < ps.length := by
        have := (List.getElem?_eq_some_iff.1 hp).1
        simp at this; omega
      rw [List.getElem?_append_left hj] at hp
      rw [Array.getElem?_setIfInBounds_ne (by omega)]
      exact h2' j p hp
  · rcases List.mem_append.1 hp with hp | hp
    · exact ⟨(h3 p hp).1.leafAt (h3 p hp).2 (Below.heap_setCell _ _ _ _ (hne (h3 p hp).1)), (h3 p hp).2⟩
    · simp at hp; subst hp
      exact ⟨hr.leafAt hk (Below.heap_setCell _ _ _ _ (hne hr)), hk⟩
theorem catL_letters (l : List RE) (h : ∀ r ∈ l, r.kids = []) : (catL l).length ≤ l.length := by
  induction l with
  | nil => simp [catL]
  | cons x r ih =>
    have h1 := ih (fun y hy => h y (by simp [hy]))
    have hx := h x (by simp)
    simp only [catL, List.flatMap_cons, List.length_append, List.length_cons] at *
    have : (catK x).length ≤ 1 := by
      unfold catK
      split
      · simp
      · split
        · rw [hx]; simp
        · simp
    omega

set_option maxHeartbeats 1000000 in
theorem word_any (s : ByteArray) (w : World) (hs : s.size ≤ 1000000) :
    Calls Tryz.prog 31 #[.string s] w fun e w' => ∃ b, e = .returned (PT b) ∧ ReAt w' b (rWord (bytesN s)) ∧ Below w.heap.size w w' := by
  obtain ⟨i, hi, hz0, hz1, hz2⟩ := info_parts infoP
  obtain ⟨n, hn⟩ : ∃ n, n = s.size := ⟨_, rfl⟩
  have hbl : (bytesN s).length = n := by rw [hn]; simp [bytesN]
  have hlt256 : ∀ x ∈ bytesN s, x < 256 := fun x hx => by
    obtain ⟨u, -, rfl⟩ := List.mem_map.1 hx
    exact u.toNat_lt
  go_enter Tryz.func31, Tryz.ntmps31
  go_wp2_with (refine wpList_make_full _ rfl _ _ _ rfl w.heap.size _ i _ 1 Tryz.underlying56 hi hz0 hz1 .i64 .i64 _ _ n rfl rfl (by rw [hn]) (by rw [hn]) (by rw [hz2]; omega) (by unfold maxLen; omega) (Nat.le_refl _) ?_; intro w1 ho1 hg1)
  obtain ⟨g, hg⟩ : ∃ g, g = w.heap.size := ⟨_, rfl⟩
  have hW0 : WordW w g n [] w1 := by
    have hb : Below w.heap.size w w1 := grown_none hg1
    rcases ho1.2 with ⟨e, -⟩ | ⟨g', cap, cur, e, h1, h2, h3, h4, h5, h6⟩
    · cases e
    · injection e with e1 e2 e3
      injection e1 with e1
      injection e1 with e1
      subst e1 e3
      refine ⟨⟨cur, ?_, by omega, fun j p hp => by simp at hp⟩, fun p hp => by simp at hp, hb⟩
      rw [hg]; exact h2
  rw [← hg]
  have HG := hide hg
  clear ho1 hg1 hg
  subst hn
  go_loopw [10] (fun c wr => ∃ (k : Nat) (ps : List (Nat × RE)), k ≤ s.size ∧ c = .int .i64 k ∧ Hid (ps.length = k) ∧ Hid (ps.map Prod.snd = ((bytesN s).take k).map rLetter) ∧ Hid (WordW w g s.size ps wr)) (fun c _ => s.size - (intOf c).toNat)
  case atStart => exact ⟨0, [], by omega, rfl, rfl, rfl, hW0⟩
  case round =>
    clear hW0
    obtain ⟨k, ps, hk, rfl, HL, HS, HW⟩ := hrel
    by_cases hlt : k < s.size
    · have hkd : decide (k < s.size) = true := by simp [hlt]
      have hks : k < s.size := hlt
      obtain ⟨c, hc⟩ : ∃ c : Nat, c = (s[k]'hks).toNat := ⟨_, rfl⟩
      have hidx := fun w => run_index_string (P := Tryz.prog) w 9 s .i64 (k : Int) Tryz.underlying9
      have hkk : (0 : Int) ≤ k ∧ (k : Int) < s.size := ⟨by omega, by omega⟩
      simp only [dif_pos hkk, Int.toNat_natCast] at hidx
      rw [← hc] at hidx
      have hc256 : c < 256 := by rw [hc]; exact UInt8.toNat_lt _
      have HBY : Hid ((bytesN s).take (k + 1) = (bytesN s).take k ++ [c]) := by
        show (bytesN s).take (k + 1) = _
        rw [List.take_succ_eq_append_getElem (by rw [hbl]; exact hlt)]
        congr 2
        rw [hc]; simp [bytesN]; rfl
      clear hc
      go_wp2_with fail
      have hb1 := (Below.refl wr.heap.size wr).alloc (Nat.le_refl _) (.cells #[.int .u8 c] 5)
      refine (of_any [c] (by simpa using hc256) _ (some ⟨wr.heap.size, 0, none⟩) 1 (fun q hq => by
        have hB := Blk.newAt (w := wr) rfl #[.int .u8 c] 5
        obtain rfl : q = 0 := by simp at hq; omega
        exact ⟨_, _, rfl, by simp, hB.cell 0⟩) (by simp)).mono ?_
      rintro e w2 ⟨rfl, hb2⟩
      have HW2 := hide ((HW.out.step hb1).step hb2)
      clear hb1 hb2
      go_wp2_with fail
      refine (one_any _ _).mono ?_
      rintro e w3 ⟨ob, rfl, h3, hb3⟩
      have hW3 := HW2.out.step hb3
      obtain ⟨cc, kb, hcs, -⟩ := hW3.row
      have cK := kb.cell k
      have fK := kb.frozen k
      rw [Array.getElem?_eq_getElem (by omega)] at cK
      generalize cc[k] = old at cK
      have HST := hide (hW3.store (by rw [HG.out]; exact Nat.le_refl _) h3 (rOne_kids _) (by rw [HL.out]; exact hlt))
      have hkn2 : k < s.size := hlt
      clear hW3 h3 hb3 kb hcs HW2
      unfold PT
      go_wp2
      refine ⟨⟨k + 1, ps ++ [(ob, rOne (setOf [c]))], by omega, by go_num, ?_, ?_, ?_⟩, by simp [intOf]; omega⟩
      · show (ps ++ [_]).length = k + 1
        rw [List.length_append, HL.out]; rfl
      · show (ps ++ [_]).map Prod.snd = _
        rw [HBY.out, List.map_append, List.map_append, HS.out]; rfl
      · show WordW _ _ _ _ _
        have := HST.out
        rw [HL.out] at this
        exact this
    · obtain rfl : k = s.size := by omega
      have hS := HS.out
      rw [← hbl, List.take_length] at hS
      obtain ⟨c, hB, hcs, hcl⟩ := HW.out.row
      have hlp := HL.out
      have hrow : ResRow wr (.slice (some ⟨g, 0, none⟩) s.size s.size) (ps.map Prod.snd) := by
        refine RowAt.res (qs := ps) ⟨⟨by omega, .mk (by omega)⟩, _, s.size, by rw [hlp], fun j p hp => ⟨g, 0, rfl, hB.lt, ?_⟩⟩ (fun p hp => (HW.out.leaf p hp).1)
        rw [Nat.zero_add, hB.cell]; exact hcl j p hp
      have hleaf : ∀ r ∈ ps.map Prod.snd, r.kids = [] := fun r hr => by
        obtain ⟨p, hp, rfl⟩ := List.mem_map.1 hr
        exact (HW.out.leaf p hp).2
      have hcat := catL_letters _ hleaf
      rw [List.length_map] at hcat
      have hwf : ∀ r ∈ ps.map Prod.snd, Wf r := fun r hr => by
        rw [hS] at hr
        obtain ⟨x, -, rfl⟩ := List.mem_map.1 hr
        exact wf_one _
      have hth := then_any (ps.map Prod.snd) _ wr hrow hwf (by simp; omega) (by omega)
      rw [hS] at hth
      have HTH := hide hth
      clear hS hB hcs hcl hrow hleaf hcat hwf hth
      go_wp2_with fail
      refine HTH.out.mono ?_
      rintro e w5 ⟨b, rfl, h1, h2⟩
      go_wp2
      go_ret
      exact ⟨b, rfl, h1, HW.out.below.trans (h2.mono HW.out.below.size)⟩
end Go.Proofs.YtkjmjppmpcnejaaGreatDoor
