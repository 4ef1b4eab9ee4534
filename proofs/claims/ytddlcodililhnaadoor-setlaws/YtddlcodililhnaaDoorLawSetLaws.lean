/- SetLaws: the laws of sets. -/
import Derived.Test.YtddlcodililhnaaDoorSetH
import Derived.Test.YtddlcodililhnaaDoorQuiet
import Derived.Test.YtddlcodililhnaaDoorLexSetLaws
namespace Go.Proofs.YtddlcodililhnaaDoor
open Go.RowKit

/-- Three sets in their boxes, from block B on. -/
structure Fr3 (B : Nat) (s t u : BitVec 256) (w W : World) : Prop where
  s0 : Blk W B (WS s) 24
  t0 : Blk W (B + 1) (WS t) 24
  u0 : Blk W (B + 2) (WS u) 24
  below : Below B w W

theorem Fr3.step {B : Nat} {s t u : BitVec 256} {w W W' : World} (h : Fr3 B s t u w W) (hb : Below W.heap.size W W') : Fr3 B s t u w W' :=
  ⟨h.s0.below hb h.s0.lt, h.t0.below hb h.t0.lt, h.u0.below hb h.u0.lt, h.below.trans (hb.mono (by have := h.s0.lt; omega))⟩

theorem Fr3.drew {B : Nat} {s t u : BitVec 256} {w W : World} (h : Fr3 B s t u w W) : Fr3 B s t u w { W with drawn := W.drawn + 1 } := ⟨h.s0, h.t0, h.u0, ⟨h.below.os, h.below.tape, h.below.output, h.below.size, h.below.block⟩⟩

theorem ds_and_or (n : Nat) : ∀ x y, ds 2 n x + ds 2 n y = ds 2 n (x &&& y) + ds 2 n (x ||| y) := by
  induction n with
  | zero => intro x y; rfl
  | succ n ih =>
    intro x y
    have h := ih (x / 2) (y / 2)
    simp only [ds]
    have e1 : (x &&& y) / 2 = x / 2 &&& y / 2 := Nat.and_div_two
    have e2 : (x ||| y) / 2 = x / 2 ||| y / 2 := Nat.or_div_two
    have e3 : (x &&& y) % 2 = if x % 2 = 1 ∧ y % 2 = 1 then 1 else 0 := by
      have := Nat.and_mod_two_pow (a := x) (b := y) (n := 1)
      rw [Nat.pow_one] at this; rw [this]
      rcases Nat.mod_two_eq_zero_or_one x with a | a <;> rcases Nat.mod_two_eq_zero_or_one y with b | b <;> simp [a, b]
    have e4 : (x ||| y) % 2 = if x % 2 = 1 ∨ y % 2 = 1 then 1 else 0 := by
      have := Nat.or_mod_two_pow (a := x) (b := y) (n := 1)
      rw [Nat.pow_one] at this; rw [this]
      rcases Nat.mod_two_eq_zero_or_one x with a | a <;> rcases Nat.mod_two_eq_zero_or_one y with b | b <;> simp [a, b]
    rw [e1, e2, e3, e4]
    rcases Nat.mod_two_eq_zero_or_one x with a | a <;> rcases Nat.mod_two_eq_zero_or_one y with b | b <;> simp [a, b] <;> omega
theorem card_and_or (s t : BitVec 256) : card s + card t = card (s &&& t) + card (s ||| t) := by
  unfold card
  rw [← wd_and, ← wd_and, ← wd_and, ← wd_and, ← wd_or, ← wd_or, ← wd_or, ← wd_or]
  have h0 := ds_and_or 64 (wd s 0) (wd t 0)
  have h1 := ds_and_or 64 (wd s 1) (wd t 1)
  have h2 := ds_and_or 64 (wd s 2) (wd t 2)
  have h3 := ds_and_or 64 (wd s 3) (wd t 3)
  omega
theorem card_le (s : BitVec 256) : card s ≤ 256 := by
  have h0 := ds2_le 64 (wd s 0); have h1 := ds2_le 64 (wd s 1); have h2 := ds2_le 64 (wd s 2); have h3 := ds2_le 64 (wd s 3)
  unfold card; omega


theorem set_h15 (s t : BitVec 256) : s &&& t = t &&& s := by apply BitVec.eq_of_getLsbD_eq; intro i hi; simp [hi]; cases s[i] <;> cases t[i] <;> rfl
theorem set_h23 (s t : BitVec 256) : s ||| t = t ||| s := by apply BitVec.eq_of_getLsbD_eq; intro i hi; simp [hi]; cases s[i] <;> cases t[i] <;> rfl
theorem set_h30 (s : BitVec 256) : ~~~(~~~s) = s := by apply BitVec.eq_of_getLsbD_eq; intro i hi; simp [hi]
theorem set_h42 (s t : BitVec 256) : ~~~(s &&& t) = (~~~s) ||| (~~~t) := by apply BitVec.eq_of_getLsbD_eq; intro i hi; simp [hi]
theorem set_h57 (s t u : BitVec 256) : s &&& (t ||| u) = (s &&& t) ||| (s &&& u) := by apply BitVec.eq_of_getLsbD_eq; intro i hi; simp [hi]; cases s[i] <;> cases t[i] <;> cases u[i] <;> rfl
theorem set_h67 (s t : BitVec 256) : s &&& ~~~t = s &&& (~~~t) := by apply BitVec.eq_of_getLsbD_eq; intro i hi; simp [hi]
theorem set_h75 (s : BitVec 256) : s ||| (~~~s) = allB := by apply BitVec.eq_of_getLsbD_eq; intro i hi; simp [hi, allB]
theorem set_h_empty (s : BitVec 256) : s &&& (~~~s) = 0#256 := by apply BitVec.eq_of_getLsbD_eq; intro i hi; simp [hi]

set_option maxRecDepth 100000 in
set_option maxHeartbeats 4000000 in
theorem setLaws_any (s t u : BitVec 256) (w : World) (hT : TabAt w) :
    Calls Tryd.prog 6 #[SV s, SV t, SV u] w fun e w' => e = .returned (.bool true) ∧ Below w.heap.size w w' := by
  have HT := hide hT
  clear hT
  go_enter Tryd.func6, Tryd.ntmps6
  go_wp2_with fail
  refine (head1_any _ (HT.out.agree (Agree.of_all (K := fun _ => True) (((((Below.refl w.heap.size w).alloc (Nat.le_refl _) _).alloc (by simp) _).alloc (by simp; omega) _))) trivial)).mono ?_
  rintro e w1 ⟨rfl, hb⟩
  have fr : Fr3 w.heap.size s t u w w1 := Fr3.step ⟨((Blk.newAt rfl _ _).alloc _).alloc _, (Blk.newAt (by simp) _ _).alloc _, Blk.newAt (by simp) _ _, ((((Below.refl w.heap.size w).alloc (Nat.le_refl _) _).alloc (by simp) _).alloc (by simp; omega) _)⟩ hb
  clear hb
  go_wp2_with fail
  have hG : Grows (Fr3 w.heap.size s t u w) := fun W W' h hb => h.step hb
  have hcs := card_le s; have hct := card_le t; have hca := card_le (s &&& t); have hco := card_le (s ||| t)
  have h15 : (s &&& t == t &&& s) = true := beq_iff_eq.2 (set_h15 s t)
  have h23 : (s ||| t == t ||| s) = true := beq_iff_eq.2 (set_h23 s t)
  have h30 : (~~~(~~~s) == s) = true := beq_iff_eq.2 (set_h30 s)
  have h42 : (~~~(s &&& t) == (~~~s) ||| (~~~t)) = true := beq_iff_eq.2 (set_h42 s t)
  have h57 : (s &&& (t ||| u) == (s &&& t) ||| (s &&& u)) = true := beq_iff_eq.2 (set_h57 s t u)
  have h67 : (s &&& ~~~t == s &&& (~~~t)) = true := beq_iff_eq.2 (set_h67 s t)
  have h75 : (s ||| (~~~s) == allB) = true := beq_iff_eq.2 (set_h75 s)
  have h_empty : (s &&& (~~~s) == 0#256) = true := beq_iff_eq.2 (set_h_empty s)
  have h99 : (((card s : Int) + (card t : Int)) == ((card (s &&& t) : Int) + (card (s ||| t) : Int))) = true := by rw [beq_iff_eq]; have := card_and_or s t; omega
  refine quiet_lit (C := Fr3 w.heap.size s t u w) (by kernel_rfl) lexSetLaws fr.drew ?_
  refine q_want rfl fun K hK => q_value (SV s) (fun w hw => x_loadSet _ _ _ _ _ _ _ _ s rfl w hw.s0) ?_
  simp only [Act.put, List.setIfInBounds_toArray, List.set_cons_succ, List.set_cons_zero]
  refine hK _ ?_
  clear hK K
  refine q_want rfl fun K hK => q_value (SV t) (fun w hw => x_loadSet _ _ _ _ _ _ _ _ t rfl w hw.t0) ?_
  simp only [Act.put, List.setIfInBounds_toArray, List.set_cons_succ, List.set_cons_zero]
  refine hK _ ?_
  clear hK K
  refine q_want rfl fun K hK => q_call hG 14 #[SV s, SV t] (SV (s &&& t)) (x_call2 _ _ _ _ _ _ _ _ _ _ _ _ _ rfl rfl rfl (enters_of Tryd.func14 (by kernel_rfl) rfl)) (fun w _ => and_any s t w) ?_
  simp only [Act.put, List.setIfInBounds_toArray, List.set_cons_succ, List.set_cons_zero]
  refine hK _ ?_
  clear hK K
  refine q_want rfl fun K hK => q_value (SV t) (fun w hw => x_loadSet _ _ _ _ _ _ _ _ t rfl w hw.t0) ?_
  simp only [Act.put, List.setIfInBounds_toArray, List.set_cons_succ, List.set_cons_zero]
  refine hK _ ?_
  clear hK K
  refine q_want rfl fun K hK => q_value (SV s) (fun w hw => x_loadSet _ _ _ _ _ _ _ _ s rfl w hw.s0) ?_
  simp only [Act.put, List.setIfInBounds_toArray, List.set_cons_succ, List.set_cons_zero]
  refine hK _ ?_
  clear hK K
  refine q_want rfl fun K hK => q_call hG 14 #[SV t, SV s] (SV (t &&& s)) (x_call2 _ _ _ _ _ _ _ _ _ _ _ _ _ rfl rfl rfl (enters_of Tryd.func14 (by kernel_rfl) rfl)) (fun w _ => and_any t s w) ?_
  simp only [Act.put, List.setIfInBounds_toArray, List.set_cons_succ, List.set_cons_zero]
  refine hK _ ?_
  clear hK K
  refine q_want rfl fun K hK => q_value (.bool (s &&& t == t &&& s)) (fun w _ => x_eqSet _ _ _ _ _ _ _ _ (s &&& t) (t &&& s) rfl rfl w) ?_
  rw [h15]
  simp only [Act.put, List.setIfInBounds_toArray, List.set_cons_succ, List.set_cons_zero]
  refine hK _ ?_
  clear hK K
  refine q_want rfl fun K hK => q_value (.bool true) (fun w _ => x_move _ _ _ _ _ _ _ _ rfl w) ?_
  simp only [Act.put, List.setIfInBounds_toArray, List.set_cons_succ, List.set_cons_zero]
  refine hK _ ?_
  clear hK K
  refine q_want rfl fun K hK => q_value (SV s) (fun w hw => x_loadSet _ _ _ _ _ _ _ _ s rfl w hw.s0) ?_
  simp only [Act.put, List.setIfInBounds_toArray, List.set_cons_succ, List.set_cons_zero]
  refine hK _ ?_
  clear hK K
  refine q_want rfl fun K hK => q_value (SV t) (fun w hw => x_loadSet _ _ _ _ _ _ _ _ t rfl w hw.t0) ?_
  simp only [Act.put, List.setIfInBounds_toArray, List.set_cons_succ, List.set_cons_zero]
  refine hK _ ?_
  clear hK K
  refine q_want rfl fun K hK => q_call hG 15 #[SV s, SV t] (SV (s ||| t)) (x_call2 _ _ _ _ _ _ _ _ _ _ _ _ _ rfl rfl rfl (enters_of Tryd.func15 (by kernel_rfl) rfl)) (fun w _ => or_any s t w) ?_
  simp only [Act.put, List.setIfInBounds_toArray, List.set_cons_succ, List.set_cons_zero]
  refine hK _ ?_
  clear hK K
  refine q_want rfl fun K hK => q_value (SV t) (fun w hw => x_loadSet _ _ _ _ _ _ _ _ t rfl w hw.t0) ?_
  simp only [Act.put, List.setIfInBounds_toArray, List.set_cons_succ, List.set_cons_zero]
  refine hK _ ?_
  clear hK K
  refine q_want rfl fun K hK => q_value (SV s) (fun w hw => x_loadSet _ _ _ _ _ _ _ _ s rfl w hw.s0) ?_
  simp only [Act.put, List.setIfInBounds_toArray, List.set_cons_succ, List.set_cons_zero]
  refine hK _ ?_
  clear hK K
  refine q_want rfl fun K hK => q_call hG 15 #[SV t, SV s] (SV (t ||| s)) (x_call2 _ _ _ _ _ _ _ _ _ _ _ _ _ rfl rfl rfl (enters_of Tryd.func15 (by kernel_rfl) rfl)) (fun w _ => or_any t s w) ?_
  simp only [Act.put, List.setIfInBounds_toArray, List.set_cons_succ, List.set_cons_zero]
  refine hK _ ?_
  clear hK K
  refine q_want rfl fun K hK => q_value (.bool (s ||| t == t ||| s)) (fun w _ => x_eqSet _ _ _ _ _ _ _ _ (s ||| t) (t ||| s) rfl rfl w) ?_
  rw [h23]
  simp only [Act.put, List.setIfInBounds_toArray, List.set_cons_succ, List.set_cons_zero]
  refine hK _ ?_
  clear hK K
  refine q_want rfl fun K hK => q_value (.bool true) (fun w _ => x_pick _ _ _ _ _ _ _ _ _ true (.bool true) (.bool false) rfl rfl rfl w) ?_
  simp only [Act.put, List.setIfInBounds_toArray, List.set_cons_succ, List.set_cons_zero]
  refine hK _ ?_
  clear hK K
  refine q_want rfl fun K hK => q_value (.bool true) (fun w _ => x_move _ _ _ _ _ _ _ _ rfl w) ?_
  simp only [Act.put, List.setIfInBounds_toArray, List.set_cons_succ, List.set_cons_zero]
  refine hK _ ?_
  clear hK K
  refine q_want rfl fun K hK => q_value (SV s) (fun w hw => x_loadSet _ _ _ _ _ _ _ _ s rfl w hw.s0) ?_
  simp only [Act.put, List.setIfInBounds_toArray, List.set_cons_succ, List.set_cons_zero]
  refine hK _ ?_
  clear hK K
  refine q_want rfl fun K hK => q_call hG 17 #[SV s] (SV (~~~s)) (x_call1 _ _ _ _ _ _ _ _ _ _ rfl rfl (enters_of Tryd.func17 (by kernel_rfl) rfl)) (fun w _ => not_any s w) ?_
  simp only [Act.put, List.setIfInBounds_toArray, List.set_cons_succ, List.set_cons_zero]
  refine hK _ ?_
  clear hK K
  refine q_want rfl fun K hK => q_call hG 17 #[SV (~~~s)] (SV (~~~(~~~s))) (x_call1 _ _ _ _ _ _ _ _ _ _ rfl rfl (enters_of Tryd.func17 (by kernel_rfl) rfl)) (fun w _ => not_any (~~~s) w) ?_
  simp only [Act.put, List.setIfInBounds_toArray, List.set_cons_succ, List.set_cons_zero]
  refine hK _ ?_
  clear hK K
  refine q_want rfl fun K hK => q_value (SV s) (fun w hw => x_loadSet _ _ _ _ _ _ _ _ s rfl w hw.s0) ?_
  simp only [Act.put, List.setIfInBounds_toArray, List.set_cons_succ, List.set_cons_zero]
  refine hK _ ?_
  clear hK K
  refine q_want rfl fun K hK => q_value (.bool (~~~(~~~s) == s)) (fun w _ => x_eqSet _ _ _ _ _ _ _ _ (~~~(~~~s)) s rfl rfl w) ?_
  rw [h30]
  simp only [Act.put, List.setIfInBounds_toArray, List.set_cons_succ, List.set_cons_zero]
  refine hK _ ?_
  clear hK K
  refine q_want rfl fun K hK => q_value (.bool true) (fun w _ => x_pick _ _ _ _ _ _ _ _ _ true (.bool true) (.bool false) rfl rfl rfl w) ?_
  simp only [Act.put, List.setIfInBounds_toArray, List.set_cons_succ, List.set_cons_zero]
  refine hK _ ?_
  clear hK K
  refine q_want rfl fun K hK => q_value (.bool true) (fun w _ => x_move _ _ _ _ _ _ _ _ rfl w) ?_
  simp only [Act.put, List.setIfInBounds_toArray, List.set_cons_succ, List.set_cons_zero]
  refine hK _ ?_
  clear hK K
  refine q_want rfl fun K hK => q_value (SV s) (fun w hw => x_loadSet _ _ _ _ _ _ _ _ s rfl w hw.s0) ?_
  simp only [Act.put, List.setIfInBounds_toArray, List.set_cons_succ, List.set_cons_zero]
  refine hK _ ?_
  clear hK K
  refine q_want rfl fun K hK => q_value (SV t) (fun w hw => x_loadSet _ _ _ _ _ _ _ _ t rfl w hw.t0) ?_
  simp only [Act.put, List.setIfInBounds_toArray, List.set_cons_succ, List.set_cons_zero]
  refine hK _ ?_
  clear hK K
  refine q_want rfl fun K hK => q_call hG 14 #[SV s, SV t] (SV (s &&& t)) (x_call2 _ _ _ _ _ _ _ _ _ _ _ _ _ rfl rfl rfl (enters_of Tryd.func14 (by kernel_rfl) rfl)) (fun w _ => and_any s t w) ?_
  simp only [Act.put, List.setIfInBounds_toArray, List.set_cons_succ, List.set_cons_zero]
  refine hK _ ?_
  clear hK K
  refine q_want rfl fun K hK => q_call hG 17 #[SV (s &&& t)] (SV (~~~(s &&& t))) (x_call1 _ _ _ _ _ _ _ _ _ _ rfl rfl (enters_of Tryd.func17 (by kernel_rfl) rfl)) (fun w _ => not_any (s &&& t) w) ?_
  simp only [Act.put, List.setIfInBounds_toArray, List.set_cons_succ, List.set_cons_zero]
  refine hK _ ?_
  clear hK K
  refine q_want rfl fun K hK => q_value (SV s) (fun w hw => x_loadSet _ _ _ _ _ _ _ _ s rfl w hw.s0) ?_
  simp only [Act.put, List.setIfInBounds_toArray, List.set_cons_succ, List.set_cons_zero]
  refine hK _ ?_
  clear hK K
  refine q_want rfl fun K hK => q_call hG 17 #[SV s] (SV (~~~s)) (x_call1 _ _ _ _ _ _ _ _ _ _ rfl rfl (enters_of Tryd.func17 (by kernel_rfl) rfl)) (fun w _ => not_any s w) ?_
  simp only [Act.put, List.setIfInBounds_toArray, List.set_cons_succ, List.set_cons_zero]
  refine hK _ ?_
  clear hK K
  refine q_want rfl fun K hK => q_value (SV t) (fun w hw => x_loadSet _ _ _ _ _ _ _ _ t rfl w hw.t0) ?_
  simp only [Act.put, List.setIfInBounds_toArray, List.set_cons_succ, List.set_cons_zero]
  refine hK _ ?_
  clear hK K
  refine q_want rfl fun K hK => q_call hG 17 #[SV t] (SV (~~~t)) (x_call1 _ _ _ _ _ _ _ _ _ _ rfl rfl (enters_of Tryd.func17 (by kernel_rfl) rfl)) (fun w _ => not_any t w) ?_
  simp only [Act.put, List.setIfInBounds_toArray, List.set_cons_succ, List.set_cons_zero]
  refine hK _ ?_
  clear hK K
  refine q_want rfl fun K hK => q_call hG 15 #[SV (~~~s), SV (~~~t)] (SV ((~~~s) ||| (~~~t))) (x_call2 _ _ _ _ _ _ _ _ _ _ _ _ _ rfl rfl rfl (enters_of Tryd.func15 (by kernel_rfl) rfl)) (fun w _ => or_any (~~~s) (~~~t) w) ?_
  simp only [Act.put, List.setIfInBounds_toArray, List.set_cons_succ, List.set_cons_zero]
  refine hK _ ?_
  clear hK K
  refine q_want rfl fun K hK => q_value (.bool (~~~(s &&& t) == (~~~s) ||| (~~~t))) (fun w _ => x_eqSet _ _ _ _ _ _ _ _ (~~~(s &&& t)) ((~~~s) ||| (~~~t)) rfl rfl w) ?_
  rw [h42]
  simp only [Act.put, List.setIfInBounds_toArray, List.set_cons_succ, List.set_cons_zero]
  refine hK _ ?_
  clear hK K
  refine q_want rfl fun K hK => q_value (.bool true) (fun w _ => x_pick _ _ _ _ _ _ _ _ _ true (.bool true) (.bool false) rfl rfl rfl w) ?_
  simp only [Act.put, List.setIfInBounds_toArray, List.set_cons_succ, List.set_cons_zero]
  refine hK _ ?_
  clear hK K
  refine q_want rfl fun K hK => q_value (.bool true) (fun w _ => x_move _ _ _ _ _ _ _ _ rfl w) ?_
  simp only [Act.put, List.setIfInBounds_toArray, List.set_cons_succ, List.set_cons_zero]
  refine hK _ ?_
  clear hK K
  refine q_want rfl fun K hK => q_value (SV s) (fun w hw => x_loadSet _ _ _ _ _ _ _ _ s rfl w hw.s0) ?_
  simp only [Act.put, List.setIfInBounds_toArray, List.set_cons_succ, List.set_cons_zero]
  refine hK _ ?_
  clear hK K
  refine q_want rfl fun K hK => q_value (SV t) (fun w hw => x_loadSet _ _ _ _ _ _ _ _ t rfl w hw.t0) ?_
  simp only [Act.put, List.setIfInBounds_toArray, List.set_cons_succ, List.set_cons_zero]
  refine hK _ ?_
  clear hK K
  refine q_want rfl fun K hK => q_value (SV u) (fun w hw => x_loadSet _ _ _ _ _ _ _ _ u rfl w hw.u0) ?_
  simp only [Act.put, List.setIfInBounds_toArray, List.set_cons_succ, List.set_cons_zero]
  refine hK _ ?_
  clear hK K
  refine q_want rfl fun K hK => q_call hG 15 #[SV t, SV u] (SV (t ||| u)) (x_call2 _ _ _ _ _ _ _ _ _ _ _ _ _ rfl rfl rfl (enters_of Tryd.func15 (by kernel_rfl) rfl)) (fun w _ => or_any t u w) ?_
  simp only [Act.put, List.setIfInBounds_toArray, List.set_cons_succ, List.set_cons_zero]
  refine hK _ ?_
  clear hK K
  refine q_want rfl fun K hK => q_call hG 14 #[SV s, SV (t ||| u)] (SV (s &&& (t ||| u))) (x_call2 _ _ _ _ _ _ _ _ _ _ _ _ _ rfl rfl rfl (enters_of Tryd.func14 (by kernel_rfl) rfl)) (fun w _ => and_any s (t ||| u) w) ?_
  simp only [Act.put, List.setIfInBounds_toArray, List.set_cons_succ, List.set_cons_zero]
  refine hK _ ?_
  clear hK K
  refine q_want rfl fun K hK => q_value (SV s) (fun w hw => x_loadSet _ _ _ _ _ _ _ _ s rfl w hw.s0) ?_
  simp only [Act.put, List.setIfInBounds_toArray, List.set_cons_succ, List.set_cons_zero]
  refine hK _ ?_
  clear hK K
  refine q_want rfl fun K hK => q_value (SV t) (fun w hw => x_loadSet _ _ _ _ _ _ _ _ t rfl w hw.t0) ?_
  simp only [Act.put, List.setIfInBounds_toArray, List.set_cons_succ, List.set_cons_zero]
  refine hK _ ?_
  clear hK K
  refine q_want rfl fun K hK => q_call hG 14 #[SV s, SV t] (SV (s &&& t)) (x_call2 _ _ _ _ _ _ _ _ _ _ _ _ _ rfl rfl rfl (enters_of Tryd.func14 (by kernel_rfl) rfl)) (fun w _ => and_any s t w) ?_
  simp only [Act.put, List.setIfInBounds_toArray, List.set_cons_succ, List.set_cons_zero]
  refine hK _ ?_
  clear hK K
  refine q_want rfl fun K hK => q_value (SV s) (fun w hw => x_loadSet _ _ _ _ _ _ _ _ s rfl w hw.s0) ?_
  simp only [Act.put, List.setIfInBounds_toArray, List.set_cons_succ, List.set_cons_zero]
  refine hK _ ?_
  clear hK K
  refine q_want rfl fun K hK => q_value (SV u) (fun w hw => x_loadSet _ _ _ _ _ _ _ _ u rfl w hw.u0) ?_
  simp only [Act.put, List.setIfInBounds_toArray, List.set_cons_succ, List.set_cons_zero]
  refine hK _ ?_
  clear hK K
  refine q_want rfl fun K hK => q_call hG 14 #[SV s, SV u] (SV (s &&& u)) (x_call2 _ _ _ _ _ _ _ _ _ _ _ _ _ rfl rfl rfl (enters_of Tryd.func14 (by kernel_rfl) rfl)) (fun w _ => and_any s u w) ?_
  simp only [Act.put, List.setIfInBounds_toArray, List.set_cons_succ, List.set_cons_zero]
  refine hK _ ?_
  clear hK K
  refine q_want rfl fun K hK => q_call hG 15 #[SV (s &&& t), SV (s &&& u)] (SV ((s &&& t) ||| (s &&& u))) (x_call2 _ _ _ _ _ _ _ _ _ _ _ _ _ rfl rfl rfl (enters_of Tryd.func15 (by kernel_rfl) rfl)) (fun w _ => or_any (s &&& t) (s &&& u) w) ?_
  simp only [Act.put, List.setIfInBounds_toArray, List.set_cons_succ, List.set_cons_zero]
  refine hK _ ?_
  clear hK K
  refine q_want rfl fun K hK => q_value (.bool (s &&& (t ||| u) == (s &&& t) ||| (s &&& u))) (fun w _ => x_eqSet _ _ _ _ _ _ _ _ (s &&& (t ||| u)) ((s &&& t) ||| (s &&& u)) rfl rfl w) ?_
  rw [h57]
  simp only [Act.put, List.setIfInBounds_toArray, List.set_cons_succ, List.set_cons_zero]
  refine hK _ ?_
  clear hK K
  refine q_want rfl fun K hK => q_value (.bool true) (fun w _ => x_pick _ _ _ _ _ _ _ _ _ true (.bool true) (.bool false) rfl rfl rfl w) ?_
  simp only [Act.put, List.setIfInBounds_toArray, List.set_cons_succ, List.set_cons_zero]
  refine hK _ ?_
  clear hK K
  refine q_want rfl fun K hK => q_value (.bool true) (fun w _ => x_move _ _ _ _ _ _ _ _ rfl w) ?_
  simp only [Act.put, List.setIfInBounds_toArray, List.set_cons_succ, List.set_cons_zero]
  refine hK _ ?_
  clear hK K
  refine q_want rfl fun K hK => q_value (SV s) (fun w hw => x_loadSet _ _ _ _ _ _ _ _ s rfl w hw.s0) ?_
  simp only [Act.put, List.setIfInBounds_toArray, List.set_cons_succ, List.set_cons_zero]
  refine hK _ ?_
  clear hK K
  refine q_want rfl fun K hK => q_value (SV t) (fun w hw => x_loadSet _ _ _ _ _ _ _ _ t rfl w hw.t0) ?_
  simp only [Act.put, List.setIfInBounds_toArray, List.set_cons_succ, List.set_cons_zero]
  refine hK _ ?_
  clear hK K
  refine q_want rfl fun K hK => q_call hG 16 #[SV s, SV t] (SV (s &&& ~~~t)) (x_call2 _ _ _ _ _ _ _ _ _ _ _ _ _ rfl rfl rfl (enters_of Tryd.func16 (by kernel_rfl) rfl)) (fun w _ => minus_any s t w) ?_
  simp only [Act.put, List.setIfInBounds_toArray, List.set_cons_succ, List.set_cons_zero]
  refine hK _ ?_
  clear hK K
  refine q_want rfl fun K hK => q_value (SV s) (fun w hw => x_loadSet _ _ _ _ _ _ _ _ s rfl w hw.s0) ?_
  simp only [Act.put, List.setIfInBounds_toArray, List.set_cons_succ, List.set_cons_zero]
  refine hK _ ?_
  clear hK K
  refine q_want rfl fun K hK => q_value (SV t) (fun w hw => x_loadSet _ _ _ _ _ _ _ _ t rfl w hw.t0) ?_
  simp only [Act.put, List.setIfInBounds_toArray, List.set_cons_succ, List.set_cons_zero]
  refine hK _ ?_
  clear hK K
  refine q_want rfl fun K hK => q_call hG 17 #[SV t] (SV (~~~t)) (x_call1 _ _ _ _ _ _ _ _ _ _ rfl rfl (enters_of Tryd.func17 (by kernel_rfl) rfl)) (fun w _ => not_any t w) ?_
  simp only [Act.put, List.setIfInBounds_toArray, List.set_cons_succ, List.set_cons_zero]
  refine hK _ ?_
  clear hK K
  refine q_want rfl fun K hK => q_call hG 14 #[SV s, SV (~~~t)] (SV (s &&& (~~~t))) (x_call2 _ _ _ _ _ _ _ _ _ _ _ _ _ rfl rfl rfl (enters_of Tryd.func14 (by kernel_rfl) rfl)) (fun w _ => and_any s (~~~t) w) ?_
  simp only [Act.put, List.setIfInBounds_toArray, List.set_cons_succ, List.set_cons_zero]
  refine hK _ ?_
  clear hK K
  refine q_want rfl fun K hK => q_value (.bool (s &&& ~~~t == s &&& (~~~t))) (fun w _ => x_eqSet _ _ _ _ _ _ _ _ (s &&& ~~~t) (s &&& (~~~t)) rfl rfl w) ?_
  rw [h67]
  simp only [Act.put, List.setIfInBounds_toArray, List.set_cons_succ, List.set_cons_zero]
  refine hK _ ?_
  clear hK K
  refine q_want rfl fun K hK => q_value (.bool true) (fun w _ => x_pick _ _ _ _ _ _ _ _ _ true (.bool true) (.bool false) rfl rfl rfl w) ?_
  simp only [Act.put, List.setIfInBounds_toArray, List.set_cons_succ, List.set_cons_zero]
  refine hK _ ?_
  clear hK K
  refine q_want rfl fun K hK => q_value (.bool true) (fun w _ => x_move _ _ _ _ _ _ _ _ rfl w) ?_
  simp only [Act.put, List.setIfInBounds_toArray, List.set_cons_succ, List.set_cons_zero]
  refine hK _ ?_
  clear hK K
  refine q_want rfl fun K hK => q_value (SV s) (fun w hw => x_loadSet _ _ _ _ _ _ _ _ s rfl w hw.s0) ?_
  simp only [Act.put, List.setIfInBounds_toArray, List.set_cons_succ, List.set_cons_zero]
  refine hK _ ?_
  clear hK K
  refine q_want rfl fun K hK => q_value (SV s) (fun w hw => x_loadSet _ _ _ _ _ _ _ _ s rfl w hw.s0) ?_
  simp only [Act.put, List.setIfInBounds_toArray, List.set_cons_succ, List.set_cons_zero]
  refine hK _ ?_
  clear hK K
  refine q_want rfl fun K hK => q_call hG 17 #[SV s] (SV (~~~s)) (x_call1 _ _ _ _ _ _ _ _ _ _ rfl rfl (enters_of Tryd.func17 (by kernel_rfl) rfl)) (fun w _ => not_any s w) ?_
  simp only [Act.put, List.setIfInBounds_toArray, List.set_cons_succ, List.set_cons_zero]
  refine hK _ ?_
  clear hK K
  refine q_want rfl fun K hK => q_call hG 15 #[SV s, SV (~~~s)] (SV (s ||| (~~~s))) (x_call2 _ _ _ _ _ _ _ _ _ _ _ _ _ rfl rfl rfl (enters_of Tryd.func15 (by kernel_rfl) rfl)) (fun w _ => or_any s (~~~s) w) ?_
  simp only [Act.put, List.setIfInBounds_toArray, List.set_cons_succ, List.set_cons_zero]
  refine hK _ ?_
  clear hK K
  refine q_want rfl fun K hK => q_call hG 22 #[] (SV allB) (x_call0 _ _ _ _ _ _ _ rfl (enters_of Tryd.func22 (by kernel_rfl) rfl)) (fun w _ => all_any  w) ?_
  simp only [Act.put, List.setIfInBounds_toArray, List.set_cons_succ, List.set_cons_zero]
  refine hK _ ?_
  clear hK K
  refine q_want rfl fun K hK => q_value (.bool (s ||| (~~~s) == allB)) (fun w _ => x_eqSet _ _ _ _ _ _ _ _ (s ||| (~~~s)) allB rfl rfl w) ?_
  rw [h75]
  simp only [Act.put, List.setIfInBounds_toArray, List.set_cons_succ, List.set_cons_zero]
  refine hK _ ?_
  clear hK K
  refine q_want rfl fun K hK => q_value (.bool true) (fun w _ => x_pick _ _ _ _ _ _ _ _ _ true (.bool true) (.bool false) rfl rfl rfl w) ?_
  simp only [Act.put, List.setIfInBounds_toArray, List.set_cons_succ, List.set_cons_zero]
  refine hK _ ?_
  clear hK K
  refine q_want rfl fun K hK => q_value (.bool true) (fun w _ => x_move _ _ _ _ _ _ _ _ rfl w) ?_
  simp only [Act.put, List.setIfInBounds_toArray, List.set_cons_succ, List.set_cons_zero]
  refine hK _ ?_
  clear hK K
  refine q_want rfl fun K hK => q_value (SV s) (fun w hw => x_loadSet _ _ _ _ _ _ _ _ s rfl w hw.s0) ?_
  simp only [Act.put, List.setIfInBounds_toArray, List.set_cons_succ, List.set_cons_zero]
  refine hK _ ?_
  clear hK K
  refine q_want rfl fun K hK => q_value (SV s) (fun w hw => x_loadSet _ _ _ _ _ _ _ _ s rfl w hw.s0) ?_
  simp only [Act.put, List.setIfInBounds_toArray, List.set_cons_succ, List.set_cons_zero]
  refine hK _ ?_
  clear hK K
  refine q_want rfl fun K hK => q_call hG 17 #[SV s] (SV (~~~s)) (x_call1 _ _ _ _ _ _ _ _ _ _ rfl rfl (enters_of Tryd.func17 (by kernel_rfl) rfl)) (fun w _ => not_any s w) ?_
  simp only [Act.put, List.setIfInBounds_toArray, List.set_cons_succ, List.set_cons_zero]
  refine hK _ ?_
  clear hK K
  refine q_want rfl fun K hK => q_call hG 14 #[SV s, SV (~~~s)] (SV (s &&& (~~~s))) (x_call2 _ _ _ _ _ _ _ _ _ _ _ _ _ rfl rfl rfl (enters_of Tryd.func14 (by kernel_rfl) rfl)) (fun w _ => and_any s (~~~s) w) ?_
  simp only [Act.put, List.setIfInBounds_toArray, List.set_cons_succ, List.set_cons_zero]
  refine hK _ ?_
  clear hK K
  refine q_want rfl fun K hK => q_call hG 19 #[SV (s &&& (~~~s))] (.bool (s &&& (~~~s) == 0#256)) (x_call1 _ _ _ _ _ _ _ _ _ _ rfl rfl (enters_of Tryd.func19 (by kernel_rfl) rfl)) (fun w _ => empty_any (s &&& (~~~s)) w) ?_
  rw [h_empty]
  simp only [Act.put, List.setIfInBounds_toArray, List.set_cons_succ, List.set_cons_zero]
  refine hK _ ?_
  clear hK K
  refine q_want rfl fun K hK => q_value (.bool true) (fun w _ => x_pick _ _ _ _ _ _ _ _ _ true (.bool true) (.bool false) rfl rfl rfl w) ?_
  simp only [Act.put, List.setIfInBounds_toArray, List.set_cons_succ, List.set_cons_zero]
  refine hK _ ?_
  clear hK K
  refine q_want rfl fun K hK => q_value (.bool true) (fun w _ => x_move _ _ _ _ _ _ _ _ rfl w) ?_
  simp only [Act.put, List.setIfInBounds_toArray, List.set_cons_succ, List.set_cons_zero]
  refine hK _ ?_
  clear hK K
  refine q_want rfl fun K hK => q_value (SV s) (fun w hw => x_loadSet _ _ _ _ _ _ _ _ s rfl w hw.s0) ?_
  simp only [Act.put, List.setIfInBounds_toArray, List.set_cons_succ, List.set_cons_zero]
  refine hK _ ?_
  clear hK K
  refine q_want rfl fun K hK => q_call hG 18 #[SV s] (.int .i64 (card s : Int)) (x_call1 _ _ _ _ _ _ _ _ _ _ rfl rfl (enters_of Tryd.func18 (by kernel_rfl) rfl)) (fun w _ => len_any s w) ?_
  simp only [Act.put, List.setIfInBounds_toArray, List.set_cons_succ, List.set_cons_zero]
  refine hK _ ?_
  clear hK K
  refine q_want rfl fun K hK => q_value (SV t) (fun w hw => x_loadSet _ _ _ _ _ _ _ _ t rfl w hw.t0) ?_
  simp only [Act.put, List.setIfInBounds_toArray, List.set_cons_succ, List.set_cons_zero]
  refine hK _ ?_
  clear hK K
  refine q_want rfl fun K hK => q_call hG 18 #[SV t] (.int .i64 (card t : Int)) (x_call1 _ _ _ _ _ _ _ _ _ _ rfl rfl (enters_of Tryd.func18 (by kernel_rfl) rfl)) (fun w _ => len_any t w) ?_
  simp only [Act.put, List.setIfInBounds_toArray, List.set_cons_succ, List.set_cons_zero]
  refine hK _ ?_
  clear hK K
  refine q_want rfl fun K hK => q_value (.int .i64 ((card s : Int) + (card t : Int))) (fun w _ => x_addInt _ _ _ _ _ _ _ _ _ _ rfl rfl (by omega) (by omega) w) ?_
  simp only [Act.put, List.setIfInBounds_toArray, List.set_cons_succ, List.set_cons_zero]
  refine hK _ ?_
  clear hK K
  refine q_want rfl fun K hK => q_value (SV s) (fun w hw => x_loadSet _ _ _ _ _ _ _ _ s rfl w hw.s0) ?_
  simp only [Act.put, List.setIfInBounds_toArray, List.set_cons_succ, List.set_cons_zero]
  refine hK _ ?_
  clear hK K
  refine q_want rfl fun K hK => q_value (SV t) (fun w hw => x_loadSet _ _ _ _ _ _ _ _ t rfl w hw.t0) ?_
  simp only [Act.put, List.setIfInBounds_toArray, List.set_cons_succ, List.set_cons_zero]
  refine hK _ ?_
  clear hK K
  refine q_want rfl fun K hK => q_call hG 14 #[SV s, SV t] (SV (s &&& t)) (x_call2 _ _ _ _ _ _ _ _ _ _ _ _ _ rfl rfl rfl (enters_of Tryd.func14 (by kernel_rfl) rfl)) (fun w _ => and_any s t w) ?_
  simp only [Act.put, List.setIfInBounds_toArray, List.set_cons_succ, List.set_cons_zero]
  refine hK _ ?_
  clear hK K
  refine q_want rfl fun K hK => q_call hG 18 #[SV (s &&& t)] (.int .i64 (card (s &&& t) : Int)) (x_call1 _ _ _ _ _ _ _ _ _ _ rfl rfl (enters_of Tryd.func18 (by kernel_rfl) rfl)) (fun w _ => len_any (s &&& t) w) ?_
  simp only [Act.put, List.setIfInBounds_toArray, List.set_cons_succ, List.set_cons_zero]
  refine hK _ ?_
  clear hK K
  refine q_want rfl fun K hK => q_value (SV s) (fun w hw => x_loadSet _ _ _ _ _ _ _ _ s rfl w hw.s0) ?_
  simp only [Act.put, List.setIfInBounds_toArray, List.set_cons_succ, List.set_cons_zero]
  refine hK _ ?_
  clear hK K
  refine q_want rfl fun K hK => q_value (SV t) (fun w hw => x_loadSet _ _ _ _ _ _ _ _ t rfl w hw.t0) ?_
  simp only [Act.put, List.setIfInBounds_toArray, List.set_cons_succ, List.set_cons_zero]
  refine hK _ ?_
  clear hK K
  refine q_want rfl fun K hK => q_call hG 15 #[SV s, SV t] (SV (s ||| t)) (x_call2 _ _ _ _ _ _ _ _ _ _ _ _ _ rfl rfl rfl (enters_of Tryd.func15 (by kernel_rfl) rfl)) (fun w _ => or_any s t w) ?_
  simp only [Act.put, List.setIfInBounds_toArray, List.set_cons_succ, List.set_cons_zero]
  refine hK _ ?_
  clear hK K
  refine q_want rfl fun K hK => q_call hG 18 #[SV (s ||| t)] (.int .i64 (card (s ||| t) : Int)) (x_call1 _ _ _ _ _ _ _ _ _ _ rfl rfl (enters_of Tryd.func18 (by kernel_rfl) rfl)) (fun w _ => len_any (s ||| t) w) ?_
  simp only [Act.put, List.setIfInBounds_toArray, List.set_cons_succ, List.set_cons_zero]
  refine hK _ ?_
  clear hK K
  refine q_want rfl fun K hK => q_value (.int .i64 ((card (s &&& t) : Int) + (card (s ||| t) : Int))) (fun w _ => x_addInt _ _ _ _ _ _ _ _ _ _ rfl rfl (by omega) (by omega) w) ?_
  simp only [Act.put, List.setIfInBounds_toArray, List.set_cons_succ, List.set_cons_zero]
  refine hK _ ?_
  clear hK K
  refine q_want rfl fun K hK => q_value (.bool (((card s : Int) + (card t : Int)) == ((card (s &&& t) : Int) + (card (s ||| t) : Int)))) (fun w _ => x_eqInt _ _ _ _ _ _ _ _ ((card s : Int) + (card t : Int)) ((card (s &&& t) : Int) + (card (s ||| t) : Int)) rfl rfl w) ?_
  rw [h99]
  simp only [Act.put, List.setIfInBounds_toArray, List.set_cons_succ, List.set_cons_zero]
  refine hK _ ?_
  clear hK K
  refine q_want rfl fun K hK => q_value (.bool true) (fun w _ => x_pick _ _ _ _ _ _ _ _ _ true (.bool true) (.bool false) rfl rfl rfl w) ?_
  simp only [Act.put, List.setIfInBounds_toArray, List.set_cons_succ, List.set_cons_zero]
  refine hK _ ?_
  clear hK K
  refine q_want rfl fun K hK => q_value (.bool true) (fun w _ => x_assign _ _ _ _ _ _ _ _ rfl w) ?_
  simp only [Act.put, List.setIfInBounds_toArray, List.set_cons_succ, List.set_cons_zero]
  refine hK _ ?_
  clear hK K
  refine wpQuiet_nil ?_
  rintro w2 fr2
  go_wp2
  go_ret
  exact ⟨rfl, fr2.below⟩
end Go.Proofs.YtddlcodililhnaaDoor
