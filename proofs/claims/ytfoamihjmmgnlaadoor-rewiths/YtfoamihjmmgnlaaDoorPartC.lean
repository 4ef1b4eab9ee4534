/- Refine: the parts into which some sets cut all bytes. -/
import Derived.Test.YtfoamihjmmgnlaaDoorPartB
namespace Go.Proofs.YtfoamihjmmgnlaaDoor
set_option maxRecDepth 100000
open Go.RowKit

def refL (l : List (BitVec 256)) : List (BitVec 256) := l.foldl cutL [allB]
/-- Each byte is in one of them. -/
def Covers (pl : List (BitVec 256)) : Prop := ∀ b, b < 256 → ∃ p ∈ pl, p.getLsbD b = true
theorem Covers.cut {pl : List (BitVec 256)} (h : Covers pl) (s : BitVec 256) : Covers (cutL pl s) := fun b hb => by
  obtain ⟨p, hp, hpb⟩ := h b hb
  have key : ∀ q : BitVec 256, q.getLsbD b = true → (q == 0#256) = false := fun q hq => by
    rw [Bool.eq_false_iff]; intro e
    have : q = 0#256 := by simpa using e
    rw [this] at hq; simp at hq
  by_cases hs : s.getLsbD b = true
  · refine ⟨p &&& s, ?_, by simp [hpb, hs]⟩
    refine List.mem_flatMap.2 ⟨p, hp, ?_⟩
    simp [halves, key (p &&& s) (by simp [hpb, hs])]
  · have hs' : s.getLsbD b = false := Bool.eq_false_iff.2 hs
    have hb2 : (p &&& ~~~s).getLsbD b = true := by rw [BitVec.getLsbD_and, BitVec.getLsbD_not, hpb, hs']; simp [hb]
    refine ⟨p &&& ~~~s, ?_, hb2⟩
    refine List.mem_flatMap.2 ⟨p, hp, ?_⟩
    simp [halves, key _ hb2]
theorem covers_all : Covers [allB] := fun b hb => ⟨allB, by simp, by rw [show allB = ~~~0#256 from rfl, BitVec.getLsbD_not]; simp [hb]⟩
theorem Covers.pos {pl : List (BitVec 256)} (h : Covers pl) : 0 < pl.length := by
  obtain ⟨p, hp, -⟩ := h 0 (by omega)
  exact List.length_pos_of_mem hp

theorem covers_fold (l : List (BitVec 256)) : ∀ pl, Covers pl → Covers (l.foldl cutL pl) := by
  induction l with
  | nil => intro pl h; exact h
  | cons x r ih => intro pl h; exact ih _ (h.cut x)
theorem length_fold (l : List (BitVec 256)) : ∀ pl : List (BitVec 256), (l.foldl cutL pl).length ≤ 2 ^ l.length * pl.length := by
  induction l with
  | nil => intro pl; simp
  | cons x r ih =>
    intro pl
    refine Nat.le_trans (ih _) ?_
    have := cutL_length pl x
    rw [List.length_cons, Nat.pow_succ, Nat.mul_assoc]
    exact Nat.mul_le_mul_left _ this
theorem refL_length (l : List (BitVec 256)) (h : l.length ≤ 10) : (refL l).length ≤ 1024 := by
  have h1 := length_fold l [allB]
  have h2 : 2 ^ l.length ≤ 2 ^ 10 := Nat.pow_le_pow_right (by omega) h
  simp at h1
  unfold refL
  omega
theorem refL_covers (l : List (BitVec 256)) : Covers (refL l) := covers_fold l _ covers_all
theorem flat_get (l : List (BitVec 256)) : ∀ (k : Nat), k < l.length → ∀ j, j < 4 → (flat l)[k * 4 + j]? = some (.int .u64 (wd (l.getD k 0) j)) := by
  induction l with
  | nil => intro k hk; simp at hk
  | cons x r ih =>
    intro k hk j hj
    rw [show flat (x :: r) = encS x ++ flat r from by simp [flat]]
    cases k with
    | zero =>
      rw [List.getElem?_append_left (by simp [encS]; omega)]
      simp
      match j, hj with
      | 0, _ => rfl
      | 1, _ => rfl
      | 2, _ => rfl
      | 3, _ => rfl
    | succ k =>
      rw [List.getElem?_append_right (by simp [encS]; omega), show (k + 1) * 4 + j - (encS x).length = k * 4 + j from by simp [encS]; omega, ih k (by simpa using hk) j hj]
      simp
/-- A row that is owned lies so. -/
theorem own_in {W : World} {base n : Nat} {v : Value} {pl : List (BitVec 256)} (h : W.ownsRow base 24 4 v n (flat pl)) (hn : n = pl.length) (h0 : 0 < n) : ∃ g cap, v = .slice (some ⟨g, 0, none⟩) pl.length cap ∧ base ≤ g ∧ SetsIn W g pl := by
  subst hn
  rcases h.2 with ⟨-, e⟩ | ⟨g, cap, cur, rfl, hb, hg, h1, h2, h3, h4⟩
  · omega
  · refine ⟨g, cap, rfl, hb, (Array.getElem?_eq_some_iff.1 hg).1, fun k hk j hj => ?_⟩
    have hblk : Blk W g cur 24 := hg
    refine ⟨?_, hblk.frozen _⟩
    rw [hblk.cell, ← flat_get pl k hk j hj, ← h4, List.getElem?_take, if_pos (by omega)]
    simp
theorem in_row {W : World} {g cap : Nat} {pl : List (BitVec 256)} (h : SetsIn W g pl) (hl : pl.length ≤ 9223372036854775807) : SetsRow W (.slice (some ⟨g, 0, none⟩) pl.length cap) pl :=
  ⟨hl, _, _, rfl, fun k hk => ⟨g, 0, rfl, h.1, fun j hj => by rw [Nat.zero_add]; exact (h.2 k hk j hj).1⟩⟩
theorem own_mono {W : World} {base base' n : Nat} {v : Value} {xs : List Value} {e size : Nat} (h : W.ownsRow base' e size v n xs) (hb : base ≤ base') : W.ownsRow base e size v n xs := by
  refine ⟨h.1, ?_⟩
  rcases h.2 with h2 | ⟨g, cap, cur, h1, h2, h3⟩
  · exact .inl h2
  · exact .inr ⟨g, cap, cur, h1, by omega, h3⟩

set_option maxRecDepth 100000 in
set_option maxHeartbeats 1000000 in
theorem refine_any (l : List (BitVec 256)) (v : Value) (w : World) (hv : SetsRow w v l) (hl : l.length ≤ 10) (hT : TabAt w) :
    Calls Tryd.prog 30 #[v] w fun e w' => ∃ v' l', e = .returned v' ∧ l'.Perm (refL l) ∧ l'.Pairwise (fun x y => least x ≤ least y) ∧ SetsRow w' v' l' ∧ Below w.heap.size w w' := by
  have HV := hide hv
  have HT := hide hT
  have hG : 0 < w.heap.size := World.block_lt_of_cell? _ _ (hT 0 (by omega))
  obtain ⟨hlen, ad, cap, rfl, -⟩ := hv
  clear hT
  go_enter Tryd.func30, Tryd.ntmps30
  go_wp2_with fail
  refine (all_any _).mono ?_
  rintro e w1 ⟨rfl, hb⟩
  have HB := hide hb
  clear hb
  go_wp2
  generalize hB : w.heap.size = B at *
  go_loopw [3, 10] (fun parts i wr => ∃ k : Nat, k ≤ l.length ∧ i = .int .i64 k ∧ wr.ownsRow B 24 4 parts (refL (l.take k)).length (flat (refL (l.take k))) ∧ Below B w wr) (fun _ i _ => l.length - (intOf i).toNat)
  case atStart =>
    have := HB.out.size
    refine ⟨0, by omega, rfl, ⟨by simp [flat, refL, encS], .inr ⟨w1.heap.size, 1, WS allB, rfl, by omega, Blk.newAt rfl _ _, by simp [refL], by unfold maxLen; omega, by simp, by simp [refL, flat, encS]⟩⟩, HB.out.alloc (by omega) _⟩
  case round =>
    obtain ⟨k, hk, rfl, hown, hbel⟩ := hrel
    have hcov := refL_covers (l.take k)
    have hlenk := refL_length (l.take k) (by simp; omega)
    obtain ⟨g, cap2, rfl, hg, hin⟩ := own_in hown rfl hcov.pos
    have hrow : SetsRow wr (.slice (some ⟨g, 0, none⟩) (refL (l.take k)).length cap2) (refL (l.take k)) := in_row hin (by omega)
    by_cases hlt : k < l.length
    · obtain ⟨-, ad', cap', hv', hc⟩ := HV.out.below (hB ▸ hbel)
      obtain ⟨rfl, rfl⟩ : ad = ad' ∧ cap = cap' := by cases hv'; exact ⟨rfl, rfl⟩
      obtain ⟨bb, off, rfl, hbb, hc⟩ := hc k hlt
      obtain ⟨p, hp⟩ : ∃ p, p = l.getD k 0 := ⟨_, rfl⟩
      rw [← hp] at hc
      have HP := hide hp
      have c0 := hc 0 (by omega); have c1 := hc 1 (by omega); have c2 := hc 2 (by omega); have c3 := hc 3 (by omega)
      rw [Nat.add_zero] at c0
      clear hv' hp hc
      have hkI : (k : Int) < l.length := by omega
      have hkd : decide (k < l.length) = true := by simp [hlt]
      have HROW := hide hrow
      have HBE := hide hbel
      have hsz := hbel.size
      clear hrow hbel hown hin
      generalize hrl : (refL (l.take k)).length = rl at *
      go_wp2_with fail
      refine (cut_any (refL (l.take k)) _ p _ (HROW.out.below ((Below.refl _ _).alloc (Nat.le_refl _) _)) (by omega)).mono ?_
      rintro e w2 ⟨v', rfl, ho2, hb2⟩
      have HO2 := hide ho2
      have HB2 := hide hb2
      clear ho2 hb2 c0 c1 c2 c3
      go_wp2
      refine ⟨⟨k + 1, by omega, by go_num, ?_, HBE.out.trans ?_⟩, by simp [intOf]; omega⟩
      · have e : refL (l.take (k + 1)) = cutL (refL (l.take k)) p := by
          have hpl : p = l[k] := by rw [HP.out]; simp [List.getD_eq_getElem?_getD, hlt]
          unfold refL
          rw [List.take_succ_eq_append_getElem hlt, List.foldl_append, hpl]
          rfl
        rw [e]
        exact own_mono HO2.out (by simp; omega)
      · exact ((Below.refl B wr).alloc (by omega) _).trans (HB2.out.mono (by simp; omega))
    · obtain rfl : k = l.length := by omega
      rw [List.take_length] at *
      go_wp2_with fail
      have hgne : g ≠ 0 := by omega
      refine (sort_any g cap2 (refL l) wr (HT.out.agree (Agree.of_all (K := fun _ => True) (hB ▸ hbel)) trivial) hgne (by omega) hin).mono ?_
      rintro e w2 ⟨rfl, l', hperm, hpw, hin2, hos, htp, hou, hsz2, hblk⟩
      have hsz := hbel.size
      have HB2 := hide (hbel.trans ⟨hos, htp, hou, hsz2, fun k hk => hblk k (by omega) (by omega)⟩)
      have HP2 := hide hperm
      have HPW := hide hpw
      have HIN := hide hin2
      clear hos htp hou hsz2 hblk hperm hpw hin2 hin hrow hown
      go_wp2
      go_ret
      refine ⟨_, l', rfl, HP2.out, HPW.out, ?_, by rw [hB]; exact HB2.out⟩
      have hll := HP2.out.length_eq
      rw [← hll]
      exact in_row HIN.out (by omega)
end Go.Proofs.YtfoamihjmmgnlaaDoor
