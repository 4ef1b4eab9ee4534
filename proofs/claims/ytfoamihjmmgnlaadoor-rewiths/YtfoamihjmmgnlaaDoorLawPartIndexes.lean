/- PartIndexes: of each byte the last set that has it. -/
import Derived.Test.YtfoamihjmmgnlaaDoorPartA
import Derived.Test.YtfoamihjmmgnlaaDoorPartD
namespace Go.Proofs.YtfoamihjmmgnlaaDoor
set_option maxRecDepth 100000
open Go.RowKit

theorem range_below {w w' : World} {b : Nat} {cs : List Value} (h : w.rangeAt b 0 cs) (hb : Below w.heap.size w w') (hlt : b < w.heap.size) : w'.rangeAt b 0 cs := fun j v hv => by
  rw [← h j v hv]
  exact World.cell?_of_block (w := w) (hb.block b hlt)
theorem idxF_le (l : List (BitVec 256)) (k b : Nat) : idxF l k b ≤ k := by
  induction k with
  | zero => simp [idxF]
  | succ k ih => simp only [idxF]; split <;> omega

theorem size_setCells (b : Nat) : ∀ (vs : List Value) (o : Nat) (w : World), (w.setCells b o vs).heap.size = w.heap.size
  | [], _, _ => rfl
  | _ :: r, _, _ => (size_setCells b r _ _).trans (by simp [World.setCell])

/-- What PartIndexes keeps. -/
structure PI (l : List (BitVec 256)) (B N : Nat) (w W : World) : Prop where
  at0 : W.rangeAt N 0 (nArr (idxF l l.length)).toList
  lt : N < W.heap.size
  below : Below B w W
  le : B ≤ N
theorem PI.step {l : List (BitVec 256)} {B N : Nat} {w W W' : World} (h : PI l B N w W) (hb : Below W.heap.size W W') : PI l B N w W' :=
  ⟨range_below h.at0 hb h.lt, Nat.lt_of_lt_of_le h.lt hb.size, h.below.trans (hb.mono (by have := h.lt; have := h.le; omega)), h.le⟩

set_option maxRecDepth 100000 in
set_option maxHeartbeats 2000000 in
theorem partIndexes_any (v : Value) (l : List (BitVec 256)) (w : World) (hv : SetsRow w v l) (hT : TabAt w) :
    Calls Tryd.prog 9 #[v] w fun e w' => e = .returned (.bool true) ∧ Below w.heap.size w w' := by
  have HV := hide hv
  have HT := hide hT
  obtain ⟨hlen, ad, cap, rfl, -⟩ := hv
  clear hT
  go_enter Tryd.func9, Tryd.ntmps9
  go_wp2_with fail
  refine (head2_any _ HT.out).mono ?_
  rintro e w1 ⟨rfl, hb⟩
  have HB1 := hide hb
  clear hb
  by_cases h200 : 200 < l.length
  · have hd : decide ((200 : Int) < l.length) = true := by simp; omega
    have hd2 : decide (200 < l.length) = true := by simp [h200]
    go_wp2
    go_ret
    exact ⟨rfl, HB1.out⟩
  · have hd2 : decide (200 < l.length) = false := by simp; omega
    go_wp2_with fail
    refine (index_any l _ w1 (HV.out.below HB1.out) (by omega) (HT.out.agree (Agree.of_all (K := fun _ => True) HB1.out) trivial)).mono ?_
    rintro e w2 ⟨rfl, hb⟩
    have HB2 := hide (HB1.out.trans (hb.mono HB1.out.size))
    clear hb
    have hz := zeroN
    have hth : (w2.alloc (.cells (nArr fun _ => 0) 49)).there w2.heap.size 0 (nArr (idxF l l.length)).size := by
      have h := (Blk.newAt (w := w2) rfl (nArr fun _ => 0) 49).there
      rw [nArr_size] at h ⊢; exact h
    go_wp2_with (refine wpList_store_mid rfl 49 _ _ rfl w2.heap.size 0 (nArr (idxF l l.length)) rfl rfl hth (by rw [infoN, nArr_size]) (by rw [Array.all_eq_true']; intro v hv; simp [nArr] at hv; obtain ⟨i, _, rfl⟩ := hv; rfl) ?_)
    clear hz hth
    refine wp_world (fun W => PI l w.heap.size w2.heap.size w W) ?_ ?_
    · have h1 := (Blk.newAt (w := w2) rfl (nArr fun _ => 0) 49)
      refine ⟨World.rangeAt_setCells_same _ _ _ _ (by have := h1.there; simpa [nArr_size] using this), ?_, below_setCells _ HB2.out.size _ _ (HB2.out.alloc HB2.out.size _), HB2.out.size⟩
      rw [size_setCells]; simp
    intro W0 hPI
    have hB2 := HB2.out.size
    generalize hB : w.heap.size = B at *
    generalize hN : w2.heap.size = N at *
    go_loopw [4] (fun i wr => ∃ k : Nat, k ≤ 256 ∧ i = .int .i64 k ∧ PI l B N w wr) (fun i _ => 256 - (intOf i).toNat)
    case atStart => exact ⟨0, by omega, rfl, hPI⟩
    case round =>
      clear hPI
      obtain ⟨k, hk, rfl, hPI⟩ := hrel
      by_cases hlt : k < 256
      · have hkd : decide ((k : Int) < 256) = true := by simp; omega
        go_wp2
        go_loopw [5, 21] (fun want i wr => ∃ j : Nat, j ≤ l.length ∧ i = .int .i64 j ∧ want = .int .i64 (idxF l j k) ∧ PI l B N w wr) (fun _ i _ => l.length - (intOf i).toNat)
        case atStart => exact ⟨0, by omega, rfl, rfl, hPI⟩
        case round =>
          clear hPI
          obtain ⟨j, hj, rfl, rfl, hPI⟩ := hrel
          by_cases hjl : j < l.length
          · obtain ⟨-, ad', cap', hv', hc⟩ := HV.out.below (hB ▸ hPI.below)
            obtain ⟨rfl, rfl⟩ : ad = ad' ∧ cap = cap' := by cases hv'; exact ⟨rfl, rfl⟩
            obtain ⟨bb, off, rfl, hbb, hc⟩ := hc j hjl
            obtain ⟨p, hp⟩ : ∃ p, p = l.getD j 0 := ⟨_, rfl⟩
            rw [← hp] at hc
            have HP := hide hp
            have c0 := hc 0 (by omega); have c1 := hc 1 (by omega); have c2 := hc 2 (by omega); have c3 := hc 3 (by omega)
            rw [Nat.add_zero] at c0
            clear hv' hp hc
            have hjd : decide (j < l.length) = true := by simp [hjl]
            have hk8 : IntKind.u8.wrap (k : Int) = (k : Int) := u8_nat k (by omega)
            have hidx := idxF_le l j k
            go_wp2_with fail
            refine (has_any p (k : Int) (by omega) (by omega) _).mono ?_
            rintro e w3 ⟨rfl, hb⟩
            have HPI := hide ((hPI.step ((Below.refl _ _).alloc (Nat.le_refl _) _)).step hb)
            clear hPI hb c0 c1 c2 c3
            rw [Int.toNat_natCast]
            by_cases hhas : p.getLsbD k = true
            · have HH := hide hhas
              rw [hhas]
              clear hhas
              go_wp2
              refine ⟨⟨j + 1, by omega, by go_num, ?_, HPI.out⟩, by simp [intOf]; omega⟩
              have e : idxF l (j + 1) k = j := by
                show (if (l.getD j 0).getLsbD k then j else idxF l j k) = j
                rw [← HP.out, if_pos HH.out]
              rw [e]
            · have HH := hide hhas
              rw [Bool.eq_false_iff.2 hhas]
              clear hhas
              go_wp2
              refine ⟨⟨j + 1, by omega, by go_num, ?_, HPI.out⟩, by simp [intOf]; omega⟩
              have e : idxF l (j + 1) k = idxF l j k := by
                show (if (l.getD j 0).getLsbD k then j else idxF l j k) = _
                rw [← HP.out, if_neg HH.out]
              rw [e]
          · obtain rfl : j = l.length := by omega
            have ha := hPI.at0 k (.int .u8 (idxF l l.length k)) (by have := nArr_get (idxF l l.length) k hlt; simpa using this)
            rw [Nat.zero_add] at ha
            have hidx := idxF_le l l.length k
            have HPI := hide hPI
            clear hPI
            generalize idxF l l.length k = q at *
            go_wp2
            exact ⟨⟨k + 1, by omega, by go_num, HPI.out⟩, by simp [intOf]; omega⟩
      · obtain rfl : k = 256 := by omega
        go_wp2
        go_ret
        exact ⟨rfl, by rw [hB]; exact hPI.below⟩
end Go.Proofs.YtfoamihjmmgnlaaDoor
