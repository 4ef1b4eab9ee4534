/- Texts of this claim put together: AkH. -/
import Derived.Test.YtjcfnmjjkadaeaaGreatDoorJoinAkG
/- Package alike's oneGroup: all states in one group. -/
namespace Go.Proofs.YtjcfnmjjkadaeaaGreatDoor
set_option maxRecDepth 100000
set_option linter.unusedSimpArgs false
set_option linter.unusedVariables false
open Go.RowKit Go.Shelf

theorem four_alloc (w : World) (o op : Array Value) (t tp : TypeId) : ∀ Z, Z = ((((w.alloc (.cells o t)).alloc (.cells o t)).alloc (.cells o t)).alloc (.cells op tp)).drew →
    Below w.heap.size w Z ∧ Blk Z w.heap.size o t ∧ Blk Z (w.heap.size + 1) o t ∧ Blk Z (w.heap.size + 1 + 1) o t ∧ Blk Z (w.heap.size + 1 + 1 + 1) op tp := by
  rintro Z rfl
  obtain ⟨w1, h1⟩ : ∃ w1, w.alloc (.cells o t) = w1 := ⟨_, rfl⟩
  obtain ⟨w2, h2⟩ : ∃ w2, w1.alloc (.cells o t) = w2 := ⟨_, rfl⟩
  obtain ⟨w3, h3⟩ : ∃ w3, w2.alloc (.cells o t) = w3 := ⟨_, rfl⟩
  obtain ⟨w4, h4⟩ : ∃ w4, w3.alloc (.cells op tp) = w4 := ⟨_, rfl⟩
  rw [h1, h2, h3, h4]
  have s1 : w1.heap.size = w.heap.size + 1 := by rw [← h1]; simp
  have s2 : w2.heap.size = w.heap.size + 1 + 1 := by rw [← h2, ← s1]; simp
  have s3 : w3.heap.size = w.heap.size + 1 + 1 + 1 := by rw [← h3, ← s2]; simp
  have b1 : Below w.heap.size w w1 := by rw [← h1]; exact (Below.refl _ _).alloc (Nat.le_refl _) _
  have b2 : Below w1.heap.size w1 w2 := by rw [← h2]; exact (Below.refl _ _).alloc (Nat.le_refl _) _
  have b3 : Below w2.heap.size w2 w3 := by rw [← h3]; exact (Below.refl _ _).alloc (Nat.le_refl _) _
  have b4 : Below w3.heap.size w3 w4 := by rw [← h4]; exact (Below.refl _ _).alloc (Nat.le_refl _) _
  have b5 : Below w4.heap.size w4 w4.drew := ⟨rfl, rfl, rfl, Nat.le_refl _, fun _ _ => rfl⟩
  have k1 : Blk w1 w.heap.size o t := by rw [← h1]; exact Blk.new _ _ _
  have k2 : Blk w2 (w.heap.size + 1) o t := by rw [← h2, ← s1]; exact Blk.new _ _ _
  have k3 : Blk w3 (w.heap.size + 1 + 1) o t := by rw [← h3, ← s2]; exact Blk.new _ _ _
  have k4 : Blk w4 (w.heap.size + 1 + 1 + 1) op tp := by rw [← h4, ← s3]; exact Blk.new _ _ _
  have a2 := k1.below b2 k1.lt
  have a3 := a2.below b3 a2.lt
  have a4 := a3.below b4 a3.lt
  have c3 := k2.below b3 k2.lt
  have c4 := c3.below b4 c3.lt
  have d4 := k3.below b4 k3.lt
  exact ⟨(((b1.trans (b2.mono (by omega))).trans (b3.mono (by omega))).trans (b4.mono (by omega))).trans (b5.mono (by have := b4.size; omega)), a4.below b5 a4.lt, c4.below b5 c4.lt, d4.below b5 d4.lt, k4.below b5 k4.lt⟩
def upTo (i : Nat) : Nat → Nat := fun j => if j < i then j else 0
theorem upTo_succ (i j : Nat) : updN (upTo i) i i j = upTo (i + 1) j := by
  unfold updN upTo
  by_cases e : j = i
  · subst e; simp
  · rw [if_neg e]
    by_cases h : j < i
    · rw [if_pos h, if_pos (by omega)]
    · rw [if_neg h, if_neg (by omega)]
theorem PrtE.congrO {W : World} {p n : Nat} {f od pl od' pl' : Nat → Nat} {gs : List (Nat × Nat × Nat)} {ts : List Nat} {bf bo bp : Nat} {vg vt : Value} (h : PrtE W p n f od pl gs ts bf bo bp vg vt) (ho : ∀ q, q < n → od q = od' q) (hp : ∀ q, q < n → pl q = pl' q) : PrtE W p n f od' pl' gs ts bf bo bp vg vt := by
  refine ⟨h.blk, h.kf, ?_, ?_, h.og, h.ot, h.fo, h.fp, h.op, h.tf, h.to', h.tp⟩
  · have e : (iCells n fun j => ((od' j : Nat) : Int)) = iCells n fun j => ((od j : Nat) : Int) := iCells_congr fun j hj => by rw [ho j hj]
    rw [e]; exact h.ko
  · have e : (iCells n fun j => ((pl' j : Nat) : Int)) = iCells n fun j => ((pl j : Nat) : Int) := iCells_congr fun j hj => by rw [hp j hj]
    rw [e]; exact h.kp
set_option maxHeartbeats 8000000 in
theorem oneGroup_any (n : Nat) (w : World) (hn : n ≤ 1000000) (hn0 : 0 < n) :
    Calls Tryz.prog 92 #[.int .i64 n] w fun e w' => ∃ p o, e = .returned (PT p) ∧ PrtAt w' p n (fun _ => 0) id id [(0, 0, n)] [] o ∧ Below w.heap.size w w' ∧ ∀ k, o k → w.heap.size ≤ k := by
  have hmk : ∀ W : World, (Instr.makeSlice 36 (.int .i64 n) (.int .i64 n)).run Tryz.prog W = .ok (.slice (some ⟨W.heap.size, 0, none⟩) n n) (W.alloc (.cells (iCells n fun _ => 0) 3)) := fun W => ints_make n W hn
  go_enter Tryz.func92, Tryz.ntmps92
  go_wp2
  rename_i Q' K hK
  have key : ∀ (b1 b2 b3 : Nat) (Z : World), Below w.heap.size w Z → Blk Z (w.heap.size + 1 + 1 + 1) #[.slice (some ⟨b1, 0, none⟩) n n, .slice (some ⟨b2, 0, none⟩) n n, .slice (some ⟨b3, 0, none⟩) n n, .slice none 0 0, .slice none 0 0] 145 → Blk Z b1 (iCells n fun _ => 0) 3 → Blk Z b2 (iCells n fun _ => 0) 3 → Blk Z b3 (iCells n fun _ => 0) 3 → b1 ≠ b2 → b1 ≠ b3 → b2 ≠ b3 → w.heap.size ≤ b1 → w.heap.size ≤ b2 → w.heap.size ≤ b3 →
      Exit.then K Q' Exit.normal { tmps := #[.int .i64 n, undef, .pointer none, .pointer (some ⟨w.heap.size + 1 + 1 + 1, 0, none⟩), undef, .int .i64 n, .slice (some ⟨b1, 0, none⟩) n n, .int .i64 n, .slice (some ⟨b2, 0, none⟩) n n, .int .i64 n, .slice (some ⟨b3, 0, none⟩) n n, .agg #[.slice (some ⟨b1, 0, none⟩) n n, .slice (some ⟨b2, 0, none⟩) n n, .slice (some ⟨b3, 0, none⟩) n n, .slice none 0 0, .slice none 0 0], .pointer (some ⟨w.heap.size + 1 + 1 + 1, 0, none⟩), undef, undef, undef, undef, undef, undef, undef, undef, undef, undef, undef, undef, undef, undef, undef, undef, undef, undef, undef, undef, undef, undef, undef, undef, undef, undef, undef, undef, undef, undef, undef, undef, undef], defers := [] } Z := by
    intro b1 b2 b3 Z hb kp k1 k2 k3 n12 n13 n23 l1 l2 l3
    obtain ⟨p, hp⟩ : ∃ p, w.heap.size + 1 + 1 + 1 = p := ⟨_, rfl⟩
    rw [hp] at kp ⊢
    have HP := hide hp
    have HB := hide hb
    have HE0 : Hid (PrtE Z p n (fun _ => 0) (fun _ => 0) (fun _ => 0) [] [] b1 b2 b3 (.slice none 0 0) (.slice none 0 0)) := ⟨kp, k1, k2, k3, .inl ⟨rfl, rfl⟩, .inl ⟨rfl, rfl⟩, n12, n13, n23, by simp [Value.ownBlock], by simp [Value.ownBlock], by simp [Value.ownBlock]⟩
    clear hb kp k1 k2 k3 hp hmk
    go_wp2
    go_loopw [14] (fun iv wr => ∃ i : Nat, iv = .int .i64 i ∧ i ≤ n ∧ Hid (PrtE wr p n (fun _ => 0) (upTo i) (upTo i) [] [] b1 b2 b3 (.slice none 0 0) (.slice none 0 0)) ∧ Hid (Below w.heap.size w wr)) (fun iv _ => n - (intOf iv).toNat)
    case atStart => exact ⟨0, rfl, Nat.zero_le _, HE0.out.congrO (fun j _ => rfl) (fun j _ => rfl), HB.out⟩
    case round =>
      obtain ⟨i, rfl, hi, HE1, HB1⟩ := hrel
      by_cases hlt : i < n
      · have di : decide ((i : Int) < (n : Int)) = true := by simp; omega
        have hX0 : Below wr.heap.size wr { wr with drawn := wr.drawn + 1 } := ⟨rfl, rfl, rfl, Nat.le_refl _, fun _ _ => rfl⟩
        have HE2 := hide (HE1.out.keep hX0)
        have HB2 := hide (HB1.out.trans (hX0.mono HB1.out.size))
        clear hX0
        go_wp2
        try rw [show Value.pointer (some ⟨p, 0, none⟩) = PT p from rfl]
        refine wp_region_noPanic (wp_region_held (S := fun X => X.cell? ⟨p, 1, none⟩ = some (.slice (some ⟨b2, 0, none⟩) n n) ∧ X.cell? ⟨p, 2, none⟩ = some (.slice (some ⟨b3, 0, none⟩) n n)) (by kernel_rfl) ?_)
        show wpAnyH _ _ _ _ _ 16 #[false, false, false, false, false, false, false, false, false, false, false, false, false, false, false, false] _ _
        generalize ({ wr with drawn := wr.drawn + 1 } : World) = X at HE2 HB2 ⊢
        have hE := HE2.out
        have hS : X.cell? ⟨p, 1, none⟩ = some (.slice (some ⟨b2, 0, none⟩) n n) ∧ X.cell? ⟨p, 2, none⟩ = some (.slice (some ⟨b3, 0, none⟩) n n) := ⟨hE.c.2.1, hE.c.2.2.1⟩
        refine h_take 0 (PT p) rfl (by kernel_rfl) (by kernel_rfl) (by kernel_rfl) rfl (fun w hw => x_move _ _ _ _ _ _ _ _ rfl w) hS ?_
        simp only [Act.put, List.setIfInBounds_toArray, List.set_cons_succ, List.set_cons_zero]
        refine h_take 1 (PT p) rfl (by kernel_rfl) (by kernel_rfl) (by kernel_rfl) rfl (fun w hw => x_nilCheck _ _ _ _ _ _ _ _ rfl w) hS ?_
        simp only [Act.put, List.setIfInBounds_toArray, List.set_cons_succ, List.set_cons_zero]
        refine h_take 2 (.pointer (some ⟨p, 1, none⟩)) rfl (by kernel_rfl) (by kernel_rfl) (by kernel_rfl) rfl (fun w hw => x_akF1 _ _ _ _ _ _ _ p rfl w) hS ?_
        simp only [Act.put, List.setIfInBounds_toArray, List.set_cons_succ, List.set_cons_zero]
        refine h_take 3 (.slice (some ⟨b2, 0, none⟩) n n) rfl (by kernel_rfl) (by kernel_rfl) (by kernel_rfl) rfl (fun w hw => x_ldIs _ _ _ _ _ _ _ p 1 (.slice (some ⟨b2, 0, none⟩) n n) rfl w (hw.1)) hS ?_
        simp only [Act.put, List.setIfInBounds_toArray, List.set_cons_succ, List.set_cons_zero]
        refine h_take 4 (.int .i64 i) rfl (by kernel_rfl) (by kernel_rfl) (by kernel_rfl) rfl (fun w hw => x_move _ _ _ _ _ _ _ _ rfl w) hS ?_
        simp only [Act.put, List.setIfInBounds_toArray, List.set_cons_succ, List.set_cons_zero]
        refine h_take 5 (PT p) rfl (by kernel_rfl) (by kernel_rfl) (by kernel_rfl) rfl (fun w hw => x_move _ _ _ _ _ _ _ _ rfl w) hS ?_
        simp only [Act.put, List.setIfInBounds_toArray, List.set_cons_succ, List.set_cons_zero]
        refine h_take 6 (PT p) rfl (by kernel_rfl) (by kernel_rfl) (by kernel_rfl) rfl (fun w hw => x_nilCheck _ _ _ _ _ _ _ _ rfl w) hS ?_
        simp only [Act.put, List.setIfInBounds_toArray, List.set_cons_succ, List.set_cons_zero]
        refine h_take 7 (.pointer (some ⟨p, 2, none⟩)) rfl (by kernel_rfl) (by kernel_rfl) (by kernel_rfl) rfl (fun w hw => x_akF2 _ _ _ _ _ _ _ p rfl w) hS ?_
        simp only [Act.put, List.setIfInBounds_toArray, List.set_cons_succ, List.set_cons_zero]
        refine h_take 8 (.slice (some ⟨b3, 0, none⟩) n n) rfl (by kernel_rfl) (by kernel_rfl) (by kernel_rfl) rfl (fun w hw => x_ldIs _ _ _ _ _ _ _ p 2 (.slice (some ⟨b3, 0, none⟩) n n) rfl w (hw.2)) hS ?_
        simp only [Act.put, List.setIfInBounds_toArray, List.set_cons_succ, List.set_cons_zero]
        refine h_take 9 (.int .i64 i) rfl (by kernel_rfl) (by kernel_rfl) (by kernel_rfl) rfl (fun w hw => x_move _ _ _ _ _ _ _ _ rfl w) hS ?_
        simp only [Act.put, List.setIfInBounds_toArray, List.set_cons_succ, List.set_cons_zero]
        refine h_take 10 (.int .i64 i) rfl (by kernel_rfl) (by kernel_rfl) (by kernel_rfl) rfl (fun w hw => x_move _ _ _ _ _ _ _ _ rfl w) hS ?_
        simp only [Act.put, List.setIfInBounds_toArray, List.set_cons_succ, List.set_cons_zero]
        refine h_take 11 (.int .i64 i) rfl (by kernel_rfl) (by kernel_rfl) (by kernel_rfl) rfl (fun w hw => x_move _ _ _ _ _ _ _ _ rfl w) hS ?_
        simp only [Act.put, List.setIfInBounds_toArray, List.set_cons_succ, List.set_cons_zero]
        refine h_take 12 (.pointer (some ⟨b2, i, none⟩)) rfl (by kernel_rfl) (by kernel_rfl) (by kernel_rfl) rfl (fun w hw => x_iIdx _ _ _ _ _ _ _ _ b2 i n n (hlt) rfl rfl w) hS ?_
        simp only [Act.put, List.setIfInBounds_toArray, List.set_cons_succ, List.set_cons_zero]
        have e1 := hE.setO i i
        have e12 := e1.setP i i
        refine h_step 13 _ rfl (by kernel_rfl) rfl (x_stI _ _ _ _ _ _ _ _ b2 i (i : Nat) _ rfl rfl _ (hE.ko.cI hlt) (hE.ko.frozen i)) ⟨e1.c.2.1, e1.c.2.2.1⟩ ?_
        have hS := (⟨e1.c.2.1, e1.c.2.2.1⟩ : _ ∧ _)
        refine h_take 14 (.pointer (some ⟨b3, i, none⟩)) rfl (by kernel_rfl) (by kernel_rfl) (by kernel_rfl) rfl (fun w hw => x_iIdx _ _ _ _ _ _ _ _ b3 i n n (hlt) rfl rfl w) hS ?_
        simp only [Act.put, List.setIfInBounds_toArray, List.set_cons_succ, List.set_cons_zero]
        refine h_step 15 _ rfl (by kernel_rfl) rfl (x_stI _ _ _ _ _ _ _ _ b3 i (i : Nat) _ rfl rfl _ (e1.kp.cI hlt) (e1.kp.frozen i)) ⟨e12.c.2.1, e12.c.2.2.1⟩ ?_
        refine wpAnyH_done (by kernel_rfl) ?_ _
        refine NoPanic.normal ?_
        have HE3 := hide (e12.congrO (od' := upTo (i + 1)) (pl' := upTo (i + 1)) (fun j _ => upTo_succ i j) (fun j _ => upTo_succ i j))
        have HB3 : Hid (Below w.heap.size w ((X.setCell ⟨b2, i, none⟩ (.int .i64 (i : Nat))).setCell ⟨b3, i, none⟩ (.int .i64 (i : Nat)))) := (HB2.out.setCell l2 _).setCell l3 _
        clear hS hE e1 e12 HE2 HB2
        try rw [show PT p = Value.pointer (some ⟨p, 0, none⟩) from rfl]
        go_wp2
        first | exact ⟨⟨i + 1, by go_num, hlt, HE3, HB3⟩, by simp [intOf]; omega⟩ | (refine ⟨⟨_, _, _, _, _, _, _, _, _, _, _, _, _, _, _, _, _, _, _, ⟨i + 1, by go_num, hlt, HE3, HB3⟩, rfl⟩, ?_⟩; simp [intOf]; omega)
      · have di : decide ((i : Int) < (n : Int)) = false := by simp; omega
        obtain rfl : i = n := by omega
        have d0 : decide ((0 : Int) < (i : Int)) = true := by simp; omega
        have hE := HE1.out.congrO (od' := id) (pl' := id) (fun j hj => if_pos hj) (fun j hj => if_pos hj)
        have c3 := hE.c.2.2.2.1
        obtain ⟨Z1, hZ1⟩ : ∃ Z1, wr.alloc (.cells #[.int .i64 0, .int .i64 0, .int .i64 i] 176) = Z1 := ⟨_, rfl⟩
        have hb1 : Below wr.heap.size wr Z1 := by rw [← hZ1]; exact (Below.refl _ _).alloc (Nat.le_refl _) _
        have hk1 : Blk Z1 wr.heap.size #[.int .i64 0, .int .i64 0, .int .i64 i] 176 := by rw [← hZ1]; exact Blk.newAt rfl _ _
        have hE1 := hE.keep hb1
        obtain ⟨vg', W', hr7, ho, ha⟩ := run_appendJ (S := grpS) (W := Z1) (v := .slice none 0 0) (l := []) 143 143 (.agg #[.int .i64 0, .int .i64 0, .int .i64 0]) 24 Tryz.underlying143 (by kernel_rfl) rfl (by omega) hE1.og ⟨wr.heap.size, 0, none⟩ 1 (0, 0, i) (fun j u hj => by
          rw [Go.WideShapes.add_plain, Nat.zero_add, hk1.cell, ← hj]
          show _ = ([Value.int .i64 ((0 : Nat) : Int), Value.int .i64 ((0 : Nat) : Int), Value.int .i64 (i : Nat)] : List Value)[j]?
          simp) (by simp)
        obtain ⟨va, vc, rfl, -⟩ := ho.slice
        have ht := hE1.grow ha ho
        have hpn := hE1.og.neT hE1.blk (by decide)
        have hbp : Blk W' p _ 145 := (ha.other p hE1.blk.lt hpn).trans hE1.blk
        have cp3 := hbp.cell 3
        have fp3 := hbp.frozen 3
        simp only [List.getElem?_toArray, List.getElem?_cons_zero, List.getElem?_cons_succ] at cp3
        have HE4 := hide ht.1
        have HBW : Hid (Below w.heap.size w (W'.setCell ⟨p, 3, none⟩ (.slice va ([] ++ [((0 : Nat), (0 : Nat), i)]).length vc))) := by
          have h1 : Below w.heap.size w W' := by
            refine (HB1.out.trans (hb1.mono HB1.out.size)).trans ⟨ha.os, ha.tape, ha.output, ha.size, fun k hk => ha.other k (by have := HB1.out.size; have := hb1.size; omega) (by simp [Value.ownBlock])⟩
          exact h1.setCell (by have := HP.out; show w.heap.size ≤ p; omega) _
        have HOW : Hid (∀ k, ownP p b1 b2 b3 (.slice va ([] ++ [((0 : Nat), (0 : Nat), i)]).length vc) (.slice none 0 0) k → w.heap.size ≤ k) := fun k hk => by
          rcases hk with e | e | e | e | e | e
          · have := HP.out; omega
          · omega
          · omega
          · omega
          · rcases ha.own with e2 | e2
            · rw [e2] at e; cases e
            · rw [e2] at e; injection e with e; have := HB1.out.size; have := hb1.size; omega
          · cases e
        clear hE hE1 hb1 hk1 ho ha ht hpn hbp
        go_wp2_with (refine wpList_append_run rfl _ _ _ rfl _ _ _ rfl rfl hr7 ?_)
        go_ret
        exact ⟨p, _, rfl, ⟨b1, b2, b3, _, _, HE4.out, rfl⟩, HBW.out, HOW.out⟩
  clear hK
  go_region
  all_goals
    obtain ⟨f1, f2, f3, f4, f5⟩ := four_alloc w _ _ _ _ _ rfl
    exact key _ _ _ _ f1 f5 (by first | exact f2 | exact f3 | exact f4) (by first | exact f2 | exact f3 | exact f4) (by first | exact f2 | exact f3 | exact f4) (by omega) (by omega) (by omega) (by omega) (by omega) (by omega)
end Go.Proofs.YtjcfnmjjkadaeaaGreatDoor
