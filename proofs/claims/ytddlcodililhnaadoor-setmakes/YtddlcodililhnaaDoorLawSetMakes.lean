/- SetMakes: sets of some bytes, and of those from one to another one. -/
import Derived.Test.YtddlcodililhnaaDoorSetH
import Derived.Test.YtddlcodililhnaaDoorRow
import Derived.Test.YtddlcodililhnaaDoorQuiet2
namespace Go.Proofs.YtddlcodililhnaaDoor
open Go.RowKit

theorem allB_has (i : Nat) (hi : i < 256) : allB.getLsbD i = true := by
  rw [show allB = ~~~0#256 from rfl, BitVec.getLsbD_not, BitVec.getLsbD_zero]; simp [hi]
theorem take_succ_getD (l : List Nat) (k : Nat) (h : k < l.length) : l.take (k + 1) = l.take k ++ [l.getD k 0] := by
  rw [List.take_succ_eq_append_getElem h]; simp [List.getD_eq_getElem?_getD, h]

theorem makes_round {f : Nat → Bool} {lo hi N1 N2 k : Nat} {v : Bool} {w wr : World} (hk : k < 256) (hne : N1 < N2) (hw : w.heap.size ≤ N2)
    (hA : Blk wr N1 (bArr f) 4) (hR : Blk wr N2 (bArr fun j => decide (j < k) && (decide (lo ≤ j) && decide (j ≤ hi))) 4) (hAll : Blk wr (N2 + 1) (bArr fun j => decide (j < k)) 4) (hbel : Below w.heap.size w wr)
    (hv : v = (decide (lo ≤ k) && decide (k ≤ hi))) (W : World) (hW : W = (wr.setCell ⟨N2, k, none⟩ (.bool v)).setCell ⟨N2 + 1, k, none⟩ (.bool true)) :
    Blk W N1 (bArr f) 4 ∧ Blk W N2 (bArr fun j => decide (j < k + 1) && (decide (lo ≤ j) && decide (j ≤ hi))) 4 ∧ Blk W (N2 + 1) (bArr fun j => decide (j < k + 1)) 4 ∧ Below w.heap.size w W := by
  subst hW
  refine ⟨(hA.setOther _ _ (by simp; omega)).setOther _ _ (by simp; omega), ?_, ?_, (hbel.setCell (by simp; omega) _).setCell (by simp; omega) _⟩
  · have h := (hR.set k (.bool v)).setOther ⟨N2 + 1, k, none⟩ (.bool true) (by simp)
    rw [bArr_set _ k _ hk] at h
    rw [bArr_congr (g := fun j => if j = k then v else (decide (j < k) && (decide (lo ≤ j) && decide (j ≤ hi)))) (fun j _ => by
      by_cases e : j = k
      · subst e; simp [hv]
      · have : (j < k + 1) = (j < k) := by apply propext; omega
        simp [e, this])]
    exact h
  · have h := (hAll.setOther ⟨N2, k, none⟩ (.bool v) (by simp)).set k (.bool true)
    rw [bArr_set _ k _ hk] at h
    rw [bArr_congr (g := fun j => if j = k then true else decide (j < k)) (fun j _ => by
      by_cases e : j = k
      · subst e; simp
      · have : (j < k + 1) = (j < k) := by apply propext; omega
        simp [e, this])]
    exact h

set_option maxRecDepth 100000 in
set_option maxHeartbeats 4000000 in
theorem setMakes_any (v : Value) (l : List Nat) (w : World) (hv : BytesRow w v l) (lo hi : Nat) (hlo : lo < 256) (hhi : hi < 256) (hT : TabAt w) :
    Calls Tryd.prog 4 #[v, .int .u8 lo, .int .u8 hi] w fun e w' => e = .returned (.bool true) ∧ Below w.heap.size w w' := by
  obtain ⟨hl, hlen, a, cap, rfl, hc⟩ := hv
  have hmk := mkB
  go_enter Tryd.func4, Tryd.ntmps4
  go_wp2_with fail
  refine (head1_any _ hT).mono ?_
  rintro e w1 ⟨rfl, hb1⟩
  have HB1 := hide hb1
  have HC := hide hc
  have HL := hide hl
  clear hb1 hc hl
  by_cases h300 : (300 : Int) < (l.length : Int)
  · go_wp2
    go_ret
    exact ⟨rfl, HB1.out⟩
  · go_wp2_with fail
    clear hmk
    go_loopw [21] (fun i wr => ∃ k : Nat, k ≤ l.length ∧ i = .int .i64 k ∧ Blk wr w1.heap.size (bArr fun j => decide (j ∈ l.take k)) 4 ∧ Below w1.heap.size w1 wr) (fun i _ => l.length - (intOf i).toNat)
    case atStart =>
      refine ⟨0, by omega, rfl, ?_, (Below.refl _ _).alloc (Nat.le_refl _) _⟩
      have := Blk.newAt (w := w1) (n := w1.heap.size) rfl (bArr fun _ => false) 4
      simpa using this
    case round =>
      obtain ⟨k, hk, rfl, hB, hbel⟩ := hrel
      by_cases hlt : k < l.length
      · obtain ⟨b, off, rfl, hb, hcell⟩ := HC.out k hlt
        have hx : l.getD k 0 < 256 := HL.out _ (by rw [List.getD_eq_getElem?_getD, List.getElem?_eq_getElem hlt]; simp)
        have HTK := hide (take_succ_getD l k hlt)
        have hb' : b < w1.heap.size := Nat.lt_of_lt_of_le hb HB1.out.size
        have hcr : wr.cell? ⟨b, off + k, none⟩ = some (.int .u8 (l.getD k 0)) := (hbel.cell (p := ⟨b, off + k, none⟩) hb').trans ((HB1.out.cell (p := ⟨b, off + k, none⟩) hb).trans hcell)
        clear hcell
        generalize l.getD k 0 = x at *
        have hcx := hB.cell x
        rw [bArr_get _ x hx] at hcx
        have hf := hB.frozen x
        go_wp2
        refine ⟨⟨k + 1, by omega, by go_num, ?_, hbel.setCell (by simp) _⟩, by simp [intOf]; omega⟩
        have h2 := hB.set x (.bool true)
        rw [bArr_set _ x _ hx] at h2
        rw [HTK.out, bArr_congr (g := fun j => if j = x then true else decide (j ∈ l.take k)) (fun j _ => by
          by_cases e : j = x
          · simp [e]
          · simp [e])]
        exact h2
      · obtain rfl : k = l.length := by omega
        rw [List.take_length] at hB
        have hmk := mkB
        have hN1 := hB.lt
        have HB2 := hide (HB1.out.trans (hbel.mono HB1.out.size))
        clear hbel
        go_wp2
        clear hmk
        have hw2 := HB2.out.size
        generalize hN : w1.heap.size = N1 at *
        generalize hN2 : wr.heap.size = N2 at *
        go_loopw [12] (fun i w2 => ∃ k : Nat, k ≤ 256 ∧ i = .int .i64 k ∧ Blk w2 N1 (bArr fun j => decide (j ∈ l)) 4 ∧ Blk w2 N2 (bArr fun j => decide (j < k) && (decide (lo ≤ j) && decide (j ≤ hi))) 4 ∧
            Blk w2 (N2 + 1) (bArr fun j => decide (j < k)) 4 ∧ Below w.heap.size w w2) (fun i _ => 256 - (intOf i).toNat)
        case atStart =>
          refine ⟨0, by omega, rfl, (hB.alloc _).alloc _, ?_, ?_, ?_⟩
          · have := (Blk.newAt (w := wr) (n := N2) hN2.symm (bArr fun _ => false) 4).alloc (.cells (bArr fun _ => false) 4)
            simpa using this
          · have := Blk.newAt (w := wr.alloc (.cells (bArr fun _ => false) 4)) (n := N2 + 1) (by simp [hN2]) (bArr fun _ => false) 4
            simpa using this
          · exact (HB2.out.alloc (by omega) _).alloc (by simp; omega) _
        case round =>
          obtain ⟨k, hk, rfl, hA, hR, hAll, hbel⟩ := hrel
          by_cases hlt : k < 256
          · have hcr := hR.cell k
            rw [bArr_get _ k hlt] at hcr
            have hca := hAll.cell k
            rw [bArr_get _ k hlt] at hca
            have hfr := hR.frozen k
            have hfa := hAll.frozen k
            have hd : decide ((k : Int) < 256) = true := by simp; omega
            rcases Nat.lt_or_ge k lo with h1 | h1
            · have g1 : decide ((lo : Int) ≤ (k : Int)) = false := by simp; omega
              go_wp2
              exact ⟨⟨k + 1, by omega, by go_num, makes_round (v := false) hlt hN1 hw2 hA hR hAll hbel (by simp; omega) _ rfl⟩, by simp [intOf]; omega⟩
            · have g1 : decide ((lo : Int) ≤ (k : Int)) = true := by simp; omega
              rcases Nat.lt_or_ge hi k with h2 | h2
              · have g2 : decide ((k : Int) ≤ (hi : Int)) = false := by simp; omega
                go_wp2
                exact ⟨⟨k + 1, by omega, by go_num, makes_round (v := decide (k ≤ hi)) hlt hN1 hw2 hA hR hAll hbel (by simp; omega) _ rfl⟩, by simp [intOf]; omega⟩
              · have g2 : decide ((k : Int) ≤ (hi : Int)) = true := by simp; omega
                go_wp2
                exact ⟨⟨k + 1, by omega, by go_num, makes_round (v := true) hlt hN1 hw2 hA hR hAll hbel (by simp; omega) _ rfl⟩, by simp [intOf]; omega⟩
          · obtain rfl : k = 256 := by omega
            have HB3 := hide hbel
            clear hbel
            have s1 : sameB (setOf l) (fun j => decide (j ∈ l)) = true := sameB_true fun i hi => setOf_has l i hi
            have s2 : sameB (span lo (hi + 1)) (fun j => decide (j < 256) && (decide (lo ≤ j) && decide (j ≤ hi))) = true := sameB_true fun i hi' => by
              rw [span_has _ _ i hi', Bool.eq_iff_iff]; simp [hi']; omega
            have s3 : sameB allB (fun j => decide (j < 256)) = true := sameB_true fun i hi => by rw [allB_has i hi]; simp [hi]
            have s4 : (setOf [] == 0#256) = true := by rfl
            have S1 := hide s1; have S2 := hide s2; have S3 := hide s3; have S4 := hide s4
            have hlen2 : l.length ≤ 1000000 := by omega
            clear s1 s2 s3 s4
            go_wp2_with fail
            refine (of_any l HL.out _ a cap (fun k hk => ?_) hlen2).mono ?_
            · obtain ⟨b, off, e, hb, hc⟩ := HC.out k hk
              exact ⟨b, off, e, Nat.lt_of_lt_of_le hb HB3.out.size, (HB3.out.cell (p := ⟨b, off + k, none⟩) hb).trans hc⟩
            rintro e w3 ⟨rfl, hb3⟩
            have A3 := hA.below hb3 hA.lt; have R3 := hR.below hb3 hR.lt; have L3 := hAll.below hb3 hAll.lt
            have HB4 := hide (HB3.out.trans (hb3.mono HB3.out.size))
            clear hb3 hA hR hAll
            go_wp2_with fail
            refine (same_any (setOf l) _ N1 _ A3).mono ?_
            rw [S1.out]
            rintro e w4 ⟨rfl, hb4⟩
            have R4 := R3.below hb4 R3.lt; have L4 := L3.below hb4 L3.lt
            have HB5 := hide (HB4.out.trans (hb4.mono HB4.out.size))
            clear hb4 A3 R3 L3
            go_wp2_with fail
            refine (from_any lo hi hlo hhi _).mono ?_
            rintro e w5 ⟨rfl, hb5⟩
            have R5 := R4.below hb5 R4.lt; have L5 := L4.below hb5 L4.lt
            have HB6 := hide (HB5.out.trans (hb5.mono HB5.out.size))
            clear hb5 R4 L4
            go_wp2_with fail
            refine (same_any (span lo (hi + 1)) _ N2 _ R5).mono ?_
            rw [S2.out]
            rintro e w6 ⟨rfl, hb6⟩
            have L6 := L5.below hb6 L5.lt
            have HB7 := hide (HB6.out.trans (hb6.mono HB6.out.size))
            clear hb6 R5 L5
            go_wp2_with fail
            refine (all_any _).mono ?_
            rintro e w7 ⟨rfl, hb7⟩
            have L7 := L6.below hb7 L6.lt
            have HB8 := hide (HB7.out.trans (hb7.mono HB7.out.size))
            clear hb7 L6
            go_wp2_with fail
            refine (same_any allB _ (N2 + 1) _ L7).mono ?_
            rw [S3.out]
            rintro e w8 ⟨rfl, hb8⟩
            have HB9 := hide (HB8.out.trans (hb8.mono HB8.out.size))
            clear hb8 L7
            go_wp2_with fail
            refine (of_any [] (by simp) _ none 0 (fun k hk => by simp at hk) (by simp)).mono ?_
            rintro e w9 ⟨rfl, hb9⟩
            have HB10 := hide (HB9.out.trans (hb9.mono HB9.out.size))
            clear hb9
            go_wp2_with fail
            refine (empty_any (setOf []) _).mono ?_
            rw [S4.out]
            rintro e w10 ⟨rfl, hb10⟩
            have HB11 := hide (HB10.out.trans (hb10.mono HB10.out.size))
            clear hb10
            go_wp2
            go_ret
            exact ⟨rfl, HB11.out⟩
end Go.Proofs.YtddlcodililhnaaDoor
