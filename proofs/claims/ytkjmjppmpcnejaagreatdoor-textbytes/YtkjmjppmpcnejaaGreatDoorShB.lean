/- Shapes: Count, Few, op, low. -/
import Derived.Test.YtkjmjppmpcnejaaGreatDoorShA
namespace Go.Proofs.YtkjmjppmpcnejaaGreatDoor
set_option maxRecDepth 100000
set_option linter.unusedSimpArgs false
set_option linter.unusedVariables false
open Go.RowKit

/-- How many parts. -/
def SHP.nodes : SHP → Nat
  | .mk _ _ _ _ ks => 1 + (ks.map fun k => k.nodes).sum
theorem SHP.nodes_mk (o : Int) (l u : Nat) (t : ByteArray) (ks : List SHP) : (SHP.mk o l u t ks).nodes = 1 + (ks.map SHP.nodes).sum := by rw [SHP.nodes]
/-- Short texts alone. -/
inductive Tx : SHP → Prop where
  | mk (o : Int) (l u : Nat) (t : ByteArray) (ks : List SHP) (ht : t.size ≤ 20) (hk : ∀ k ∈ ks, Tx k) : Tx (.mk o l u t ks)
/-- A shape as a value. -/
def ShVal (cs : List Value) : Value := .agg cs.toArray

set_option maxHeartbeats 1000000 in
theorem count_any (s : SHP) : ∀ (cs : List Value) (d : Nat) (w : World), ShC w cs s → d ≤ 13 →
    Calls Tryz.prog 32 #[ShVal cs, .int .i64 d] w fun e w' => ∃ c : Nat, e = .returned (.int .i64 c) ∧ (1 ≤ c ∧ c ≤ 1000 * (14 - d)) ∧ (c ≤ 30 → Tx s ∧ c = s.nodes) ∧ Below w.heap.size w w' := by
  refine SHP.ind (P := fun s => ∀ (cs : List Value) (d : Nat) (w : World), ShC w cs s → d ≤ 13 →
    Calls Tryz.prog 32 #[ShVal cs, .int .i64 d] w fun e w' => ∃ c : Nat, e = .returned (.int .i64 c) ∧ (1 ≤ c ∧ c ≤ 1000 * (14 - d)) ∧ (c ≤ 30 → Tx s ∧ c = s.nodes) ∧ Below w.heap.size w w') ?_ s
  intro o l u t ks ih cs d w h hd
  obtain ⟨v, rfl, hrow, ho, hlo, hhi, htx⟩ := h.open
  simp only [SHP.op, SHP.lo, SHP.hi, SHP.text, SHP.kids] at hrow ho hlo hhi htx ⊢
  obtain ⟨hn, a, cap, rfl, -⟩ := hrow.at
  have HR := hide hrow
  clear h hrow
  unfold ShVal
  by_cases hd12 : 12 < d
  · have hdd : decide ((12 : Int) < d) = true := by simp; omega
    have hdd2 : decide (12 < d) = true := by simp [hd12]
    go_enter Tryz.func32, Tryz.ntmps32
    go_wp2
    go_ret
    exact ⟨1000, rfl, ⟨by omega, by omega⟩, fun h => by omega, (Below.refl _ _).alloc (Nat.le_refl _) _⟩
  · have hdd : decide ((12 : Int) < d) = false := by simp; omega
    have hdd2 : decide (12 < d) = false := by simp; omega
    by_cases ht20 : 20 < t.size
    · have htt : decide ((20 : Int) < t.size) = true := by simp; omega
      have htt2 : decide (20 < t.size) = true := by simp [ht20]
      go_enter Tryz.func32, Tryz.ntmps32
      go_wp2
      go_ret
      exact ⟨1000, rfl, ⟨by omega, by omega⟩, fun h => by omega, (Below.refl _ _).alloc (Nat.le_refl _) _⟩
    · have htt : decide ((20 : Int) < t.size) = false := by simp; omega
      have htt2 : decide (20 < t.size) = false := by simp; omega
      go_enter Tryz.func32, Tryz.ntmps32
      go_wp2
      obtain ⟨B, hB⟩ : ∃ B, B = w.heap.size := ⟨_, rfl⟩
      rw [← hB]
      have HB := hide hB
      have hW0 : Below B w (w.alloc (.cells #[.int .i64 o, .int .u8 l, .int .u8 u, .string t, .slice a ks.length cap] 24)) := (Below.refl _ _).alloc (Nat.le_of_eq hB) _
      clear hB
      go_loopw [5, 19] (fun q c wr => ∃ (k n : Nat), k ≤ ks.length ∧ c = .int .i64 k ∧ q = .int .i64 n ∧ 1 ≤ n ∧ n ≤ 1000 ∧ Hid (n ≤ 30 → (∀ x ∈ ks.take k, Tx x) ∧ n = 1 + ((ks.take k).map SHP.nodes).sum) ∧ Hid (Below B w wr)) (fun _ c _ => ks.length - (intOf c).toNat)
      case atStart => exact ⟨0, 1, by omega, rfl, rfl, by omega, by omega, (fun _ => ⟨fun x hx => by simp at hx, rfl⟩), hW0⟩
      case round =>
        clear hW0
        obtain ⟨k, n, hk, rfl, rfl, hn1, hn2, HI, HW⟩ := hrel
        obtain ⟨-, a', cap', e1, g1⟩ := (HR.out.keep (show Below w.heap.size w wr from HB.out ▸ HW.out)).at
        obtain ⟨rfl, rfl⟩ : a = a' ∧ cap = cap' := by cases e1; exact ⟨rfl, rfl⟩
        clear e1
        by_cases hlt : k < ks.length
        · have hkd : decide (k < ks.length) = true := by simp [hlt]
          obtain ⟨b, off, kv, rfl, -, ⟨c0, c1, c2, c3, c4⟩, hC⟩ := g1 k hlt
          have hrec := ih _ (List.getElem_mem hlt) _ (d + 1) _ (hC.keep ((Below.refl wr.heap.size wr).alloc (Nat.le_refl _) (.cells #[.int .i64 ks[k].op, .int .u8 ks[k].lo, .int .u8 ks[k].hi, .string ks[k].text, kv] 24))) (by omega)
          have HT := hide (show ks.take (k + 1) = ks.take k ++ [ks[k]] from List.take_succ_eq_append_getElem hlt)
          have hBW : B ≤ wr.heap.size := by rw [HB.out]; exact HW.out.size
          obtain ⟨-, kf, kcap, hkv, -⟩ : True ∧ ∃ a c, kv = .slice a (ks[k]).kids.length c ∧ True := by
            obtain ⟨v', e', hr', -⟩ := hC.open
            obtain ⟨-, a', c', e'', -⟩ := hr'.at
            have : kv = v' := by simpa using e'
            exact ⟨trivial, a', c', this.trans e'', trivial⟩
          have HREC := hide hrec
          subst hkv
          generalize hks : ks[k] = sk at *
          clear hrec hC g1
          unfold ShVal at HREC
          go_wp2_with fail
          refine HREC.out.mono ?_
          rintro e w2 ⟨c, rfl, ⟨hc1, hc2⟩, hc3, hb2⟩
          have HC3 := hide hc3
          have HW2 := hide ((HW.out.alloc hBW (.cells #[.int .i64 sk.op, .int .u8 sk.lo, .int .u8 sk.hi, .string sk.text, .slice kf sk.kids.length kcap] 24)).trans (hb2.mono (by simp; omega)))
          have hcb : c ≤ 14000 := by omega
          clear hc3 hb2 HREC c0 c1 c2 c3 c4
          by_cases hbig : 1000 < n + c
          · have hbd : decide ((1000 : Int) < (n : Int) + c) = true := by simp; omega
            go_wp2
            go_ret
            refine ⟨n + c, ?_, ⟨by omega, by omega⟩, fun h => by omega, by rw [← HB.out]; exact HW2.out⟩
            congr 2
          · have hbd : decide ((1000 : Int) < (n : Int) + c) = false := by simp; omega
            go_wp2
            refine ⟨⟨k + 1, n + c, by omega, by go_num, by go_num, by omega, by omega, ?_, HW2⟩, by simp [intOf]; omega⟩
            intro h30
            obtain ⟨i1, i2⟩ := HI.out (by omega)
            obtain ⟨j1, j2⟩ := HC3.out (by omega)
            rw [HT.out]
            refine ⟨fun x hx => ?_, ?_⟩
            · rcases List.mem_append.1 hx with hx | hx
              · exact i1 x hx
              · simp at hx; subst hx; exact j1
            · rw [List.map_append, List.sum_append, i2, j2]; simp; omega
        · obtain rfl : k = ks.length := by omega
          rw [List.take_length] at HI
          clear g1
          go_wp2
          go_ret
          refine ⟨n, rfl, ⟨hn1, by omega⟩, fun h => ?_, by rw [← HB.out]; exact HW.out⟩
          obtain ⟨i1, i2⟩ := HI.out h
          exact ⟨.mk _ _ _ _ _ (by omega) i1, by rw [SHP.nodes_mk]; exact i2⟩
end Go.Proofs.YtkjmjppmpcnejaaGreatDoor
