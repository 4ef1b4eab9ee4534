/- The head of layer 2's statements. -/
import Derived.Test.YtfoamihjmmgnlaaDoorPartC
import Derived.Test.YtfoamihjmmgnlaaDoorHeld
namespace Go.Proofs.YtfoamihjmmgnlaaDoor
set_option maxRecDepth 100000
open Go.RowKit

def sA : BitVec 256 := setOf [97]
def sAB : BitVec 256 := setOf [97, 98]
def sB : BitVec 256 := setOf [98]
def sR : BitVec 256 := ~~~sAB
theorem head_list : refL [sA, sAB] = [sA, sB, sR] := by decide +kernel
theorem head_least : least sR = 0 ∧ least sA = 97 ∧ least sB = 98 := by decide +kernel
theorem head_card : card sR = 254 := by decide +kernel
theorem head_sorted {l' : List (BitVec 256)} (hp : l'.Perm (refL [sA, sAB])) (hs : l'.Pairwise (fun x y => least x ≤ least y)) : l' = [sR, sA, sB] := by
  rw [head_list] at hp
  obtain ⟨e0, e1, e2⟩ := head_least
  refine List.Perm.eq_of_pairwise (le := fun x y => least x ≤ least y) ?_ hs ?_ (hp.trans (by decide +kernel))
  · intro a b ha hb h1 h2
    have ha' : a ∈ [sA, sB, sR] := hp.subset ha
    simp at ha' hb
    rcases ha' with rfl | rfl | rfl <;> rcases hb with rfl | rfl | rfl <;> first | rfl | (exfalso; omega)
  · simp; omega
theorem x_len3 (ρ : Operand → Value) (d : Option Tmp) (x : Operand) (t : TypeId) (pos : String) (af : Array Edge) (g : Option (Nat × Bool)) (a : Option Addr) (n cap : Nat) (hx : ρ x = .slice a n cap) (w : World) :
    (execOp ρ { dst := d, op := .call { callee := .builtin .len, args := #[x], argTypes := #[47] }, type := t, pos := pos, after := af, guard := g }).run Tryd.prog w = .ok (.value (.int .i64 n)) w := by
  simp [go_sem, hx]
theorem x_idxS (ρ : Operand → Value) (d : Option Tmp) (x y : Operand) (t : TypeId) (pos : String) (af : Array Edge) (g : Option (Nat × Bool)) (b off len cap n : Nat) (hx : ρ x = .slice (some ⟨b, off, none⟩) len cap) (hy : ρ y = .int .i64 n) (h1 : n < len) (w : World) :
    (execOp ρ { dst := d, op := .indexAddr 47 x y, type := t, pos := pos, after := af, guard := g }).run Tryd.prog w = .ok (.value (.pointer (some ⟨b, off + n * 4, none⟩))) w := by
  simp [go_sem, hx, hy, h1]
theorem x_loadAt (ρ : Operand → Value) (d : Option Tmp) (x : Operand) (t : TypeId) (pos : String) (af : Array Edge) (g : Option (Nat × Bool)) (b o : Nat) (s : BitVec 256) (hx : ρ x = .pointer (some ⟨b, o, none⟩)) (w : World) (hB : ∀ j, j < 4 → w.cell? ⟨b, o + j, none⟩ = some (.int .u64 (wd s j))) :
    (execOp ρ { dst := d, op := .load 24 x, type := t, pos := pos, after := af, guard := g }).run Tryd.prog w = .ok (.value (SV s)) w := by
  have c0 := hB 0 (by omega); have c1 := hB 1 (by omega); have c2 := hB 2 (by omega); have c3 := hB 3 (by omega)
  rw [Nat.add_zero] at c0
  simp [go_sem, hx, c0, c1, c2, c3]
theorem x_buildS (ρ : Operand → Value) (d : Option Tmp) (x : Operand) (t : TypeId) (pos : String) (af : Array Edge) (g : Option (Nat × Bool)) (c : Nat) (w : World) (hx : ρ x = .int .u8 c) :
    (execOp ρ { dst := d, op := .buildSlice 35 1 #[(0, x)], type := t, pos := pos, after := af, guard := g }).run Tryd.prog w = .ok (.value (.slice (some ⟨w.heap.size, 0, none⟩) 1 1)) (w.alloc (.cells #[.int .u8 c] 5)) := by
  simp [go_sem, hx]
theorem row_cell {w : World} {b off n cap : Nat} {l : List (BitVec 256)} (h : SetsRow w (.slice (some ⟨b, off, none⟩) n cap) l) (k : Nat) (hk : k < l.length) (j : Nat) (hj : j < 4) : w.cell? ⟨b, off + k * 4 + j, none⟩ = some (.int .u64 (wd (l.getD k 0) j)) := by
  obtain ⟨-, a, cap', e, h2⟩ := h
  obtain ⟨b', off', e2, -, h3⟩ := h2 k hk
  cases e; cases e2
  exact h3 j hj

set_option maxRecDepth 100000 in
set_option maxHeartbeats 1000000 in
theorem head2_any (w : World) (hT : TabAt w) :
    Calls Tryd.prog 29 #[] w fun e w' => e = .returned (.bool true) ∧ Below w.heap.size w w' := by
  have HT := hide hT
  clear hT
  go_enter Tryd.func29, Tryd.ntmps29
  go_wp2_with fail
  refine (of_any [97] (by decide) _ (some ⟨w.heap.size, 0, none⟩) 1 ?_ (by decide)).mono ?_
  · intro k hk
    have hB := Blk.newAt (w := w) rfl #[.int .u8 97] 5
    obtain rfl : k = 0 := by simp at hk; omega
    exact ⟨_, _, rfl, by simp, hB.cell 0⟩
  rintro e w1 ⟨rfl, hb⟩
  have HB1 := hide (((Below.refl w.heap.size w).alloc (Nat.le_refl _) (.cells #[.int .u8 97] 5)).trans (hb.mono (by simp)))
  clear hb
  rw [show setOf [97] = sA from rfl]
  go_wp2_with fail
  refine (of_any [97, 98] (by decide) _ (some ⟨w1.heap.size, 0, none⟩) 2 ?_ (by decide)).mono ?_
  · intro k hk
    have hB := Blk.newAt (w := w1) rfl #[.int .u8 97, .int .u8 98] 5
    have hk2 : k = 0 ∨ k = 1 := by simp at hk; omega
    rcases hk2 with rfl | rfl
    · exact ⟨_, _, rfl, by simp, hB.cell 0⟩
    · exact ⟨_, _, rfl, by simp, hB.cell 1⟩
  rintro e w2 ⟨rfl, hb⟩
  have HB2 := hide ((HB1.out.alloc HB1.out.size (.cells #[.int .u8 97, .int .u8 98] 5)).trans (hb.mono (by have := HB1.out.size; simp; omega)))
  clear hb
  rw [show setOf [97, 98] = sAB from rfl]
  go_wp2_with fail
  have HB3 := hide (HB2.out.alloc HB2.out.size (.cells #[.int .u64 (wd sA 0), .int .u64 (wd sA 1), .int .u64 (wd sA 2), .int .u64 (wd sA 3), .int .u64 (wd sAB 0), .int .u64 (wd sAB 1), .int .u64 (wd sAB 2), .int .u64 (wd sAB 3)] 24))
  refine (refine_any [sA, sAB] _ _ ?_ (by decide) (HT.out.agree (Agree.of_all (K := fun _ => True) HB3.out) trivial)).mono ?_
  · refine ⟨by decide, _, _, rfl, fun k hk => ⟨_, _, rfl, by simp, fun j hj => ?_⟩⟩
    have hB := Blk.newAt (w := w2) rfl #[.int .u64 (wd sA 0), .int .u64 (wd sA 1), .int .u64 (wd sA 2), .int .u64 (wd sA 3), .int .u64 (wd sAB 0), .int .u64 (wd sAB 1), .int .u64 (wd sAB 2), .int .u64 (wd sAB 3)] 24
    have hk2 : k = 0 ∨ k = 1 := by simp at hk; omega
    have hj2 : j = 0 ∨ j = 1 ∨ j = 2 ∨ j = 3 := by omega
    rcases hk2 with rfl | rfl <;> rcases hj2 with rfl | rfl | rfl | rfl <;> exact hB.cell _
  rintro e w3 ⟨v', l', rfl, hp, hs, hrow, hb⟩
  obtain rfl := head_sorted hp hs
  obtain ⟨-, ad, cap, rfl, hc⟩ := hrow
  obtain ⟨b, off, rfl, hblt, hc0⟩ := hc 0 (by simp)
  have hrow : SetsRow w3 (.slice (some ⟨b, off, none⟩) 3 cap) [sR, sA, sB] := ⟨by simp, _, _, rfl, hc⟩
  have HB4 := hide (HB3.out.trans (hb.mono (by have := HB2.out.size; simp; omega)))
  clear hb hc hc0 hp hs
  go_wp2
  obtain ⟨S, hSd⟩ : ∃ S : World → Prop, S = fun W => SetsRow W (.slice (some ⟨b, off, none⟩) 3 cap) [sR, sA, sB] ∧ Below w.heap.size w W := ⟨_, rfl⟩
  have hSr : ∀ W, S W → SetsRow W (.slice (some ⟨b, off, none⟩) 3 cap) [sR, sA, sB] := fun W h => by rw [hSd] at h; exact h.1
  have hSb : ∀ W, S W → Below w.heap.size w W := fun W h => by rw [hSd] at h; exact h.2
  have hSg : ∀ W W', S W → Below W.heap.size W W' → S W' := fun W W' h hb => by
    rw [hSd] at h ⊢
    exact ⟨h.1.below hb, h.2.trans (hb.mono h.2.size)⟩
  have hS : S { w3 with drawn := w3.drawn + 1 } := by
    rw [hSd]
    exact ⟨hrow, ⟨HB4.out.os, HB4.out.tape, HB4.out.output, HB4.out.size, HB4.out.block⟩⟩
  clear hSd hrow
  refine wp_region_noPanic (wp_region_held (S := S) (by kernel_rfl) ?_)
  show wpAnyH _ _ _ _ _ 27 #[false, false, false, false, false, false, false, false, false, false, false, false, false, false, false, false, false, false, false, false, false, false, false, false, false, false, false] _ _
  generalize ({ w3 with drawn := w3.drawn + 1 } : World) = W at hS ⊢
  refine h_take 0 (.slice (some ⟨b, off, none⟩) 3 cap) rfl (by kernel_rfl) (by kernel_rfl) (by kernel_rfl) rfl (fun w _ => x_move _ _ _ _ _ _ _ _ rfl w) hS ?_
  simp only [Act.put, List.setIfInBounds_toArray, List.set_cons_succ, List.set_cons_zero]
  refine h_take 1 (.int .i64 3) rfl (by kernel_rfl) (by kernel_rfl) (by kernel_rfl) rfl (fun w _ => x_len3 _ _ _ _ _ _ _ _ _ _ rfl w) hS ?_
  simp only [Act.put, List.setIfInBounds_toArray, List.set_cons_succ, List.set_cons_zero]
  refine h_take 2 (.bool true) rfl (by kernel_rfl) (by kernel_rfl) (by kernel_rfl) rfl (fun w _ => x_eqInt _ _ _ _ _ _ _ _ 3 3 rfl rfl w) hS ?_
  simp only [Act.put, List.setIfInBounds_toArray, List.set_cons_succ, List.set_cons_zero]
  refine h_take 3 (.bool true) rfl (by kernel_rfl) (by kernel_rfl) (by kernel_rfl) rfl (fun w _ => x_move _ _ _ _ _ _ _ _ rfl w) hS ?_
  simp only [Act.put, List.setIfInBounds_toArray, List.set_cons_succ, List.set_cons_zero]
  refine h_take 4 (.slice (some ⟨b, off, none⟩) 3 cap) rfl (by kernel_rfl) (by kernel_rfl) (by kernel_rfl) rfl (fun w _ => x_move _ _ _ _ _ _ _ _ rfl w) hS ?_
  simp only [Act.put, List.setIfInBounds_toArray, List.set_cons_succ, List.set_cons_zero]
  refine h_take 5 (.pointer (some ⟨b, off + 0 * 4, none⟩)) rfl (by kernel_rfl) (by kernel_rfl) (by kernel_rfl) rfl (fun w _ => x_idxS _ _ _ _ _ _ _ _ b off 3 cap 0 rfl rfl (by decide) w) hS ?_
  simp only [Act.put, List.setIfInBounds_toArray, List.set_cons_succ, List.set_cons_zero]
  refine h_take 6 (SV sR) rfl (by kernel_rfl) (by kernel_rfl) (by kernel_rfl) rfl (fun w hw => x_loadAt _ _ _ _ _ _ _ b _ sR rfl w (fun j hj => row_cell (hSr w hw) 0 (by decide) j hj)) hS ?_
  simp only [Act.put, List.setIfInBounds_toArray, List.set_cons_succ, List.set_cons_zero]
  refine h_call 7 22 #[SV sR] (.int .i64 254) rfl (by kernel_rfl) rfl (x_call1 _ _ _ _ _ _ _ _ _ _ rfl rfl (enters_of Tryd.func22 (by kernel_rfl) rfl) _) ((len_any sR _).mono ?_) ?_
  · rintro e w' ⟨rfl, hb⟩
    exact ⟨by rw [head_card]; rfl, hSg _ _ hS hb⟩
  clear hS
  intro W hS
  simp only [Act.put, List.setIfInBounds_toArray, List.set_cons_succ, List.set_cons_zero]
  refine h_take 8 (.bool true) rfl (by kernel_rfl) (by kernel_rfl) (by kernel_rfl) rfl (fun w _ => x_eqInt _ _ _ _ _ _ _ _ 254 254 rfl rfl w) hS ?_
  simp only [Act.put, List.setIfInBounds_toArray, List.set_cons_succ, List.set_cons_zero]
  refine h_take 9 (.bool true) rfl (by kernel_rfl) (by kernel_rfl) (by kernel_rfl) rfl (fun w _ => x_pick _ _ _ _ _ _ _ _ _ true _ _ rfl rfl rfl w) hS ?_
  simp only [Act.put, List.setIfInBounds_toArray, List.set_cons_succ, List.set_cons_zero]
  refine h_take 10 (.bool true) rfl (by kernel_rfl) (by kernel_rfl) (by kernel_rfl) rfl (fun w _ => x_move _ _ _ _ _ _ _ _ rfl w) hS ?_
  simp only [Act.put, List.setIfInBounds_toArray, List.set_cons_succ, List.set_cons_zero]
  refine h_take 11 (.slice (some ⟨b, off, none⟩) 3 cap) rfl (by kernel_rfl) (by kernel_rfl) (by kernel_rfl) rfl (fun w _ => x_move _ _ _ _ _ _ _ _ rfl w) hS ?_
  simp only [Act.put, List.setIfInBounds_toArray, List.set_cons_succ, List.set_cons_zero]
  refine h_take 12 (.pointer (some ⟨b, off + 1 * 4, none⟩)) rfl (by kernel_rfl) (by kernel_rfl) (by kernel_rfl) rfl (fun w _ => x_idxS _ _ _ _ _ _ _ _ b off 3 cap 1 rfl rfl (by decide) w) hS ?_
  simp only [Act.put, List.setIfInBounds_toArray, List.set_cons_succ, List.set_cons_zero]
  refine h_take 13 (SV sA) rfl (by kernel_rfl) (by kernel_rfl) (by kernel_rfl) rfl (fun w hw => x_loadAt _ _ _ _ _ _ _ b _ sA rfl w (fun j hj => row_cell (hSr w hw) 1 (by decide) j hj)) hS ?_
  simp only [Act.put, List.setIfInBounds_toArray, List.set_cons_succ, List.set_cons_zero]
  have hS2 := hSg _ _ hS ((Below.refl W.heap.size W).alloc (Nat.le_refl _) (.cells #[.int .u8 97] 5))
  refine h_alloc 14 (.slice (some ⟨W.heap.size, 0, none⟩) 1 1) (W.alloc (.cells #[.int .u8 97] 5)) rfl (by kernel_rfl) rfl (x_buildS _ _ _ _ _ _ _ _ _ rfl) hS2 ?_
  simp only [Act.put, List.setIfInBounds_toArray, List.set_cons_succ, List.set_cons_zero]
  have hofc : ∀ k, k < [97].length → ∃ b off, (some ⟨W.heap.size, 0, none⟩ : Option Addr) = some ⟨b, off, none⟩ ∧ b < (W.alloc (.cells #[.int .u8 97] 5)).heap.size ∧ (W.alloc (.cells #[.int .u8 97] 5)).cell? ⟨b, off + k, none⟩ = some (.int .u8 (([97] : List Nat).getD k 0)) := fun k hk => by
    have hB := Blk.newAt (w := W) rfl #[.int .u8 97] 5
    obtain rfl : k = 0 := by simp at hk; omega
    exact ⟨_, _, rfl, by simp, hB.cell 0⟩
  clear hS
  have hS := hS2
  clear hS2
  refine h_call 15 24 #[.slice (some ⟨W.heap.size, 0, none⟩) 1 1] (SV sA) rfl (by kernel_rfl) rfl (x_call1 _ _ _ _ _ _ _ _ _ _ rfl rfl (enters_of Tryd.func24 (by kernel_rfl) rfl) _) ((of_any [97] (by decide) _ _ 1 hofc (by decide)).mono ?_) ?_
  · rintro e w' ⟨rfl, hb⟩
    exact ⟨rfl, hSg _ _ hS hb⟩
  clear hS hofc
  generalize W.heap.size = pb
  clear W
  intro W hS
  simp only [Act.put, List.setIfInBounds_toArray, List.set_cons_succ, List.set_cons_zero]
  refine h_take 16 (.bool true) rfl (by kernel_rfl) (by kernel_rfl) (by kernel_rfl) rfl (fun w _ => by rw [show true = (sA == sA) from by simp]; exact x_eqSet _ _ _ _ _ _ _ _ _ _ rfl rfl w) hS ?_
  simp only [Act.put, List.setIfInBounds_toArray, List.set_cons_succ, List.set_cons_zero]
  refine h_take 17 (.bool true) rfl (by kernel_rfl) (by kernel_rfl) (by kernel_rfl) rfl (fun w _ => x_pick _ _ _ _ _ _ _ _ _ true _ _ rfl rfl rfl w) hS ?_
  simp only [Act.put, List.setIfInBounds_toArray, List.set_cons_succ, List.set_cons_zero]
  refine h_take 18 (.bool true) rfl (by kernel_rfl) (by kernel_rfl) (by kernel_rfl) rfl (fun w _ => x_move _ _ _ _ _ _ _ _ rfl w) hS ?_
  simp only [Act.put, List.setIfInBounds_toArray, List.set_cons_succ, List.set_cons_zero]
  refine h_take 19 (.slice (some ⟨b, off, none⟩) 3 cap) rfl (by kernel_rfl) (by kernel_rfl) (by kernel_rfl) rfl (fun w _ => x_move _ _ _ _ _ _ _ _ rfl w) hS ?_
  simp only [Act.put, List.setIfInBounds_toArray, List.set_cons_succ, List.set_cons_zero]
  refine h_take 20 (.pointer (some ⟨b, off + 2 * 4, none⟩)) rfl (by kernel_rfl) (by kernel_rfl) (by kernel_rfl) rfl (fun w _ => x_idxS _ _ _ _ _ _ _ _ b off 3 cap 2 rfl rfl (by decide) w) hS ?_
  simp only [Act.put, List.setIfInBounds_toArray, List.set_cons_succ, List.set_cons_zero]
  refine h_take 21 (SV sB) rfl (by kernel_rfl) (by kernel_rfl) (by kernel_rfl) rfl (fun w hw => x_loadAt _ _ _ _ _ _ _ b _ sB rfl w (fun j hj => row_cell (hSr w hw) 2 (by decide) j hj)) hS ?_
  simp only [Act.put, List.setIfInBounds_toArray, List.set_cons_succ, List.set_cons_zero]
  have hS2 := hSg _ _ hS ((Below.refl W.heap.size W).alloc (Nat.le_refl _) (.cells #[.int .u8 98] 5))
  refine h_alloc 22 (.slice (some ⟨W.heap.size, 0, none⟩) 1 1) (W.alloc (.cells #[.int .u8 98] 5)) rfl (by kernel_rfl) rfl (x_buildS _ _ _ _ _ _ _ _ _ rfl) hS2 ?_
  simp only [Act.put, List.setIfInBounds_toArray, List.set_cons_succ, List.set_cons_zero]
  have hofc : ∀ k, k < [98].length → ∃ b off, (some ⟨W.heap.size, 0, none⟩ : Option Addr) = some ⟨b, off, none⟩ ∧ b < (W.alloc (.cells #[.int .u8 98] 5)).heap.size ∧ (W.alloc (.cells #[.int .u8 98] 5)).cell? ⟨b, off + k, none⟩ = some (.int .u8 (([98] : List Nat).getD k 0)) := fun k hk => by
    have hB := Blk.newAt (w := W) rfl #[.int .u8 98] 5
    obtain rfl : k = 0 := by simp at hk; omega
    exact ⟨_, _, rfl, by simp, hB.cell 0⟩
  clear hS
  have hS := hS2
  clear hS2
  refine h_call 23 24 #[.slice (some ⟨W.heap.size, 0, none⟩) 1 1] (SV sB) rfl (by kernel_rfl) rfl (x_call1 _ _ _ _ _ _ _ _ _ _ rfl rfl (enters_of Tryd.func24 (by kernel_rfl) rfl) _) ((of_any [98] (by decide) _ _ 1 hofc (by decide)).mono ?_) ?_
  · rintro e w' ⟨rfl, hb⟩
    exact ⟨rfl, hSg _ _ hS hb⟩
  clear hS hofc
  generalize W.heap.size = pb
  clear W
  intro W hS
  simp only [Act.put, List.setIfInBounds_toArray, List.set_cons_succ, List.set_cons_zero]
  refine h_take 24 (.bool true) rfl (by kernel_rfl) (by kernel_rfl) (by kernel_rfl) rfl (fun w _ => by rw [show true = (sB == sB) from by simp]; exact x_eqSet _ _ _ _ _ _ _ _ _ _ rfl rfl w) hS ?_
  simp only [Act.put, List.setIfInBounds_toArray, List.set_cons_succ, List.set_cons_zero]
  refine h_take 25 (.bool true) rfl (by kernel_rfl) (by kernel_rfl) (by kernel_rfl) rfl (fun w _ => x_pick _ _ _ _ _ _ _ _ _ true _ _ rfl rfl rfl w) hS ?_
  simp only [Act.put, List.setIfInBounds_toArray, List.set_cons_succ, List.set_cons_zero]
  refine h_take 26 (.bool true) rfl (by kernel_rfl) (by kernel_rfl) (by kernel_rfl) rfl (fun w _ => x_assign _ _ _ _ _ _ _ _ rfl w) hS ?_
  simp only [Act.put, List.setIfInBounds_toArray, List.set_cons_succ, List.set_cons_zero]
  refine wpAnyH_done (by kernel_rfl) ?_ _
  refine NoPanic.normal ?_
  have HBW := hide (hSb W hS)
  clear hS hSg hSb hSr
  go_wp2
  go_ret
  exact ⟨rfl, HBW.out⟩
end Go.Proofs.YtfoamihjmmgnlaaDoor
