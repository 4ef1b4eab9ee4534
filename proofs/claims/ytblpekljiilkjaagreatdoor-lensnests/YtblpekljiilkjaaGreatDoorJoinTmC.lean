/- Texts of this claim put together: TmC. -/
import Derived.Test.YtblpekljiilkjaaGreatDoorJoinTmB
import Derived.Deep.RegionHeld3
/- appendArgument, appendParts: what stands behind a word without parentheses. -/
namespace Go.Proofs.YtblpekljiilkjaaGreatDoor
set_option maxRecDepth 100000
set_option linter.unusedSimpArgs false
set_option linter.unusedVariables false
open Go.RowKit Go.Shelf

theorem drewBelow (w : World) : Below w.heap.size w { w with drawn := w.drawn + 1 } := ⟨rfl, rfl, rfl, Nat.le_refl _, fun _ _ => rfl⟩
/-- One byte laid, and appended. -/
theorem x_lay1 (ρ : Operand → Value) (d : Option Tmp) (t : TypeId) (pos : String) (af : Array Edge) (g : Option (Nat × Bool)) (c : Nat) (hx : ρ (.const (.int .u8 c)) = .int .u8 c) (w : World) :
    (execOp ρ { dst := d, op := .buildSlice 77 1 #[(0, .const (.int .u8 c))], type := t, pos := pos, after := af, guard := g }).run Tryz.prog w = .ok (.value (.slice (some ⟨w.heap.size, 0, none⟩) 1 1)) (w.alloc (.cells #[.int .u8 c] 5)) := by
  simp [go_sem, hx]
theorem x_appK (ρ : Operand → Value) (d : Option Tmp) (x y : Operand) (ty : TypeId) (pos : String) (af : Array Edge) (g : Option (Nat × Bool)) (t u : TypeId) (v z v' : Value) (w w' : World) (hx : ρ x = v) (hy : ρ y = z)
    (hr : (Builtin.append_ #[t, u] ty #[v, z]).run Tryz.prog w = .ok v' w') :
    (execOp ρ { dst := d, op := .call { callee := .builtin .append, args := #[x, y], argTypes := #[t, u] }, type := ty, pos := pos, after := af, guard := g }).run Tryz.prog w = .ok (.value v') w' := by
  unfold execOp
  simp only [resolve, invoke, builtin, Sem.run_bind, Sem.run_pure, Result.andThen_ok, List.map_toArray, List.map_cons, List.map_nil, hx, hy, hr]

/-- What stands behind the word. -/
def restT (o : Nat) (n t b : ByteArray) (r : Option RE) : List Nat :=
  (if o = 3 then [32] ++ bytesN n else []) ++ (if o = 6 then [] else [32] ++ argT r) ++ (if o = 4 ∨ o = 6 ∨ o = 17 then [32] ++ quoteT t else []) ++ (if o = 4 ∨ o = 5 then [32] ++ quoteT b else [])
theorem leafT_rest (o : Nat) (n t b : ByteArray) (r : Option RE) : leafT o n t b r = wordT o ++ restT o n t b r := by unfold leafT restT; simp only [List.append_assoc]

set_option maxHeartbeats 2000000 in
theorem arg_any (b o : Nat) (nm tx bk : ByteArray) (r : Option RE) (rp : Value) (a : Option Addr) (c : Nat) (v : Value) (m : Nat) (xs : List Value) (w0 w : World) (hS : TmSee w0 b o nm tx bk r [] rp a c) (hw : ∀ q, r = some q → Wf q ∧ q.txt.length ≤ 1000000)
    (hW : Below w0.heap.size w0 w) (hO : OwnU w w0.heap.size v m xs) (hl : m + (argT r).length ≤ 800000000000) (hT : TabAt w0) :
    Calls Tryz.prog 96 #[PT b, v] w fun e w' => ∃ V, e = .returned V ∧ AV w w0.heap.size v m xs (argT r) V w' := by
  have hP : (∃ q, rp = PT q) ∨ rp = .pointer none := by
    have := hS.re
    cases r with
    | none => exact .inr this
    | some r => obtain ⟨p, e, -⟩ := this; exact .inl ⟨p, e⟩
  obtain ⟨a0, cp0, rfl⟩ := hO.slice
  have HK := hide (lensRe_any r rp _ m xs w0 w hP hS.re hw hW hO hl hT)
  have c6 := hS.c6 w hW
  have c3 := hS.c3 w hW
  simp only [List.length_nil] at c6
  clear hS hw hW hO hl hT
  have HP := hide hP
  clear hP
  obtain ⟨q, rfl⟩ | rfl := HP.out
  all_goals
    try unfold PT at HK c3
    unfold PT
    go_enter Tryz.func96, Tryz.ntmps96
    go_wp2_with fail
    refine HK.out.mono ?_
    rintro e w2 ⟨V, rfl, hA⟩
    obtain ⟨a2, c2, hv2⟩ := hA.slice
    obtain ⟨M2, hM2⟩ : ∃ M2, M2 = m + (argT r).length := ⟨_, rfl⟩
    rw [← hM2] at hv2
    subst hv2
    have HA := hide hA
    clear hA hM2 HK c3 c6
    go_wp2
    go_ret
    exact ⟨_, rfl, HA.out⟩

abbrev PartsAt (o : Nat) : Prop := ∀ (b : Nat) (nm tx bk : ByteArray) (r : Option RE) (rp : Value) (a : Option Addr) (c : Nat) (v : Value) (m : Nat) (xs : List Value) (w0 w : World), TmSee w0 b o nm tx bk r [] rp a c → (∀ q, r = some q → Wf q ∧ q.txt.length ≤ 1000000) →
  (nm.size ≤ 1000000 ∧ tx.size ≤ 1000000 ∧ bk.size ≤ 1000000) → Below w0.heap.size w0 w → OwnU w w0.heap.size v m xs → m + (restT o nm tx bk r).length ≤ 800000000000 → TabAt w0 →
  Calls Tryz.prog 66 #[PT b, v] w fun e w' => ∃ V, e = .returned V ∧ AV w w0.heap.size v m xs (restT o nm tx bk r) V w'
set_option maxHeartbeats 4000000 in
theorem parts_2 : PartsAt 2 := by
  intro b nm tx bk r rp a c v m xs w0 w hS hw hsz hW hO hl hT
  obtain ⟨hs1, hs2, hs3⟩ := hsz
  obtain ⟨a0, cp0, rfl⟩ := hO.slice
  have hl2 : m + (restT 2 nm tx bk r).length ≤ 800000000000 := hl
  simp only [restT, Nat.reduceEqDiff, if_true, if_false, reduceIte, or_true, true_or, or_self, List.length_append, List.length_nil, List.length_cons] at hl2
  have HC : Hid (∀ W, Below w0.heap.size w0 W → W.cell? ⟨b, 0, none⟩ = some (.int .i64 (2 : Nat)) ∧ W.cell? ⟨b, 2, none⟩ = some (.string nm) ∧ W.cell? ⟨b, 4, none⟩ = some (.string tx) ∧ W.cell? ⟨b, 5, none⟩ = some (.string bk)) := fun W h => ⟨hS.c0 W h, hS.c2 W h, hS.c4 W h, hS.c5 W h⟩
  have HS := hide hS
  have HWF := hide hw
  have HW := hide hW
  have HO := hide hO
  have HT := hide hT
  have HA := hide (AV.start hO hW.size)
  obtain ⟨c0, c2, c4, c5⟩ := HC.out w hW
  clear hS hw hW hO hT hl
  unfold PT
  go_enter Tryz.func66, Tryz.ntmps66
  -- the argument
  obtain ⟨V1, W1, hr1, hA1⟩ := HA.out.app1 32 (by simp; omega)
  obtain ⟨a1, d1, hv1⟩ := hA1.slice
  obtain ⟨M1, hM1⟩ : ∃ M1, M1 = m + ([] ++ [32] : List Nat).length := ⟨_, rfl⟩
  rw [← hM1] at hv1
  subst hv1
  have HK := hide (arg_any b 2 nm tx bk r rp a c _ _ _ w0 W1 HS.out HWF.out (hA1.below HW.out HO.out) hA1.own (by simp; omega) HT.out)
  rw [← hM1] at HK
  have HA1 := hide hA1
  have HM1 := hide hM1
  clear hA1 hM1 HA
  unfold PT at HK
  go_wp2_with (refine wpList_append_run rfl _ _ _ rfl _ _ _ rfl rfl hr1 ?_)
  refine HK.out.mono ?_
  rintro e w1 ⟨U1, rfl, hB⟩
  have hC := HA1.out.more (m := argT r) (V' := U1) (W' := w1) (by rw [← HM1.out]; exact hB)
  obtain ⟨aa1, dd1, hw1⟩ := hC.slice
  obtain ⟨N1, hN1⟩ : ∃ N1, N1 = m + ([] ++ [32] ++ argT r : List Nat).length := ⟨_, rfl⟩
  rw [← hN1] at hw1
  subst hw1
  have HA := hide hC
  clear hB hC hN1 HK HA1 HM1 hr1 c0 c2 c4 c5
  obtain ⟨c0, c2, c4, c5⟩ := HC.out _ (HA.out.below HW.out HO.out)
  go_wp2
  go_ret
  refine ⟨_, rfl, ?_⟩
  have hA := HA.out
  have e : [] ++ [32] ++ argT r = restT 2 nm tx bk r := by simp [restT]
  rw [← e]
  exact hA

set_option maxHeartbeats 4000000 in
theorem parts_16 : PartsAt 16 := by
  intro b nm tx bk r rp a c v m xs w0 w hS hw hsz hW hO hl hT
  obtain ⟨hs1, hs2, hs3⟩ := hsz
  obtain ⟨a0, cp0, rfl⟩ := hO.slice
  have hl2 : m + (restT 16 nm tx bk r).length ≤ 800000000000 := hl
  simp only [restT, Nat.reduceEqDiff, if_true, if_false, reduceIte, or_true, true_or, or_self, List.length_append, List.length_nil, List.length_cons] at hl2
  have HC : Hid (∀ W, Below w0.heap.size w0 W → W.cell? ⟨b, 0, none⟩ = some (.int .i64 (16 : Nat)) ∧ W.cell? ⟨b, 2, none⟩ = some (.string nm) ∧ W.cell? ⟨b, 4, none⟩ = some (.string tx) ∧ W.cell? ⟨b, 5, none⟩ = some (.string bk)) := fun W h => ⟨hS.c0 W h, hS.c2 W h, hS.c4 W h, hS.c5 W h⟩
  have HS := hide hS
  have HWF := hide hw
  have HW := hide hW
  have HO := hide hO
  have HT := hide hT
  have HA := hide (AV.start hO hW.size)
  obtain ⟨c0, c2, c4, c5⟩ := HC.out w hW
  clear hS hw hW hO hT hl
  unfold PT
  go_enter Tryz.func66, Tryz.ntmps66
  -- the argument
  obtain ⟨V1, W1, hr1, hA1⟩ := HA.out.app1 32 (by simp; omega)
  obtain ⟨a1, d1, hv1⟩ := hA1.slice
  obtain ⟨M1, hM1⟩ : ∃ M1, M1 = m + ([] ++ [32] : List Nat).length := ⟨_, rfl⟩
  rw [← hM1] at hv1
  subst hv1
  have HK := hide (arg_any b 16 nm tx bk r rp a c _ _ _ w0 W1 HS.out HWF.out (hA1.below HW.out HO.out) hA1.own (by simp; omega) HT.out)
  rw [← hM1] at HK
  have HA1 := hide hA1
  have HM1 := hide hM1
  clear hA1 hM1 HA
  unfold PT at HK
  go_wp2_with (refine wpList_append_run rfl _ _ _ rfl _ _ _ rfl rfl hr1 ?_)
  refine HK.out.mono ?_
  rintro e w1 ⟨U1, rfl, hB⟩
  have hC := HA1.out.more (m := argT r) (V' := U1) (W' := w1) (by rw [← HM1.out]; exact hB)
  obtain ⟨aa1, dd1, hw1⟩ := hC.slice
  obtain ⟨N1, hN1⟩ : ∃ N1, N1 = m + ([] ++ [32] ++ argT r : List Nat).length := ⟨_, rfl⟩
  rw [← hN1] at hw1
  subst hw1
  have HA := hide hC
  clear hB hC hN1 HK HA1 HM1 hr1 c0 c2 c4 c5
  obtain ⟨c0, c2, c4, c5⟩ := HC.out _ (HA.out.below HW.out HO.out)
  go_wp2
  go_ret
  refine ⟨_, rfl, ?_⟩
  have hA := HA.out
  have e : [] ++ [32] ++ argT r = restT 16 nm tx bk r := by simp [restT]
  rw [← e]
  exact hA

set_option maxHeartbeats 4000000 in
theorem parts_3 : PartsAt 3 := by
  intro b nm tx bk r rp a c v m xs w0 w hS hw hsz hW hO hl hT
  obtain ⟨hs1, hs2, hs3⟩ := hsz
  obtain ⟨a0, cp0, rfl⟩ := hO.slice
  have hl2 : m + (restT 3 nm tx bk r).length ≤ 800000000000 := hl
  simp only [restT, Nat.reduceEqDiff, if_true, if_false, reduceIte, or_true, true_or, or_self, List.length_append, List.length_nil, List.length_cons] at hl2
  have HC : Hid (∀ W, Below w0.heap.size w0 W → W.cell? ⟨b, 0, none⟩ = some (.int .i64 (3 : Nat)) ∧ W.cell? ⟨b, 2, none⟩ = some (.string nm) ∧ W.cell? ⟨b, 4, none⟩ = some (.string tx) ∧ W.cell? ⟨b, 5, none⟩ = some (.string bk)) := fun W h => ⟨hS.c0 W h, hS.c2 W h, hS.c4 W h, hS.c5 W h⟩
  have HS := hide hS
  have HWF := hide hw
  have HW := hide hW
  have HO := hide hO
  have HT := hide hT
  have HA := hide (AV.start hO hW.size)
  obtain ⟨c0, c2, c4, c5⟩ := HC.out w hW
  clear hS hw hW hO hT hl
  unfold PT
  go_enter Tryz.func66, Tryz.ntmps66
  -- field 2
  go_wp2
  try rw [show Value.pointer (some ⟨b, 0, none⟩) = PT b from rfl]
  have hS0 : Below w0.heap.size w0 w := HA.out.below HW.out HO.out
  have hS : Below w0.heap.size w0 { w with drawn := w.drawn + 1 } := hS0.trans ((drewBelow w).mono hS0.size)
  have HD := hide (HA.out.step (drewBelow w))
  refine wp_region_noPanic (wp_region_held (S := fun W => Below w0.heap.size w0 W) (by kernel_rfl) ?_)
  show wpAnyH _ _ _ _ _ 9 #[false, false, false, false, false, false, false, false, false] _ _
  generalize ({ w with drawn := w.drawn + 1 } : World) = X1 at hS HD ⊢
  clear hS0 HA c0 c2 c4 c5
  obtain ⟨ao1, co1, ho1⟩ := HD.out.slice
  refine h_take 0 (.slice a0 m cp0) rfl (by kernel_rfl) (by kernel_rfl) (by kernel_rfl) rfl (fun w hw => x_move _ _ _ _ _ _ _ _ rfl w) hS ?_
  simp only [Act.put, List.setIfInBounds_toArray, List.set_cons_succ, List.set_cons_zero]
  refine h_take 3 (PT b) rfl (by kernel_rfl) (by kernel_rfl) (by kernel_rfl) rfl (fun w hw => x_move _ _ _ _ _ _ _ _ rfl w) hS ?_
  simp only [Act.put, List.setIfInBounds_toArray, List.set_cons_succ, List.set_cons_zero]
  refine h_take 4 (PT b) rfl (by kernel_rfl) (by kernel_rfl) (by kernel_rfl) rfl (fun w hw => x_nilCheck _ _ _ _ _ _ _ _ rfl w) hS ?_
  simp only [Act.put, List.setIfInBounds_toArray, List.set_cons_succ, List.set_cons_zero]
  refine h_take 5 (.pointer (some ⟨b, 2, none⟩)) rfl (by kernel_rfl) (by kernel_rfl) (by kernel_rfl) rfl (fun w hw => x_tmF2 _ _ _ _ _ _ _ _ rfl w) hS ?_
  simp only [Act.put, List.setIfInBounds_toArray, List.set_cons_succ, List.set_cons_zero]
  refine h_take 6 (.string nm) rfl (by kernel_rfl) (by kernel_rfl) (by kernel_rfl) rfl (fun w hw => x_tmStr _ _ _ _ _ _ _ _ _ _ rfl w (HC.out w hw).2.1) hS ?_
  simp only [Act.put, List.setIfInBounds_toArray, List.set_cons_succ, List.set_cons_zero]
  refine h_alloc 1 (.slice (some ⟨X1.heap.size, 0, none⟩) 1 1) (X1.alloc (.cells #[.int .u8 32] 5)) rfl (by kernel_rfl) rfl (x_lay1 _ _ _ _ _ _ 32 rfl X1) (hS.alloc hS.size _) ?_
  simp only [Act.put, List.setIfInBounds_toArray, List.set_cons_succ, List.set_cons_zero]
  obtain ⟨V1, W1, hr1, hA1⟩ := HD.out.app1 32 (by simp; omega)
  have hS1 : Below w0.heap.size w0 W1 := hA1.below HW.out HO.out
  refine h_alloc 2 V1 W1 rfl (by kernel_rfl) rfl (x_appK _ _ _ _ _ _ _ _ _ _ _ _ _ _ _ rfl rfl hr1) hS1 ?_
  simp only [Act.put, List.setIfInBounds_toArray, List.set_cons_succ, List.set_cons_zero]
  obtain ⟨U1, w1, hq1, hB1⟩ := hA1.appT nm (bytesN nm) rfl (by simp; omega)
  refine h_alloc 7 U1 w1 rfl (by kernel_rfl) rfl (x_appK _ _ _ _ _ _ _ _ _ _ _ _ _ _ _ rfl rfl hq1) (hB1.below HW.out HO.out) ?_
  simp only [Act.put, List.setIfInBounds_toArray, List.set_cons_succ, List.set_cons_zero]
  refine h_take 8 U1 rfl (by kernel_rfl) (by kernel_rfl) (by kernel_rfl) rfl (fun w hw => x_assign _ _ _ _ _ _ _ _ rfl w) (hB1.below HW.out HO.out) ?_
  simp only [Act.put, List.setIfInBounds_toArray, List.set_cons_succ, List.set_cons_zero]
  refine wpAnyH_done (by kernel_rfl) ?_ _
  refine NoPanic.normal ?_
  obtain ⟨aa1, dd1, hw1⟩ := hB1.slice
  obtain ⟨N1, hN1⟩ : ∃ N1, N1 = m + ([] ++ [32] ++ bytesN nm : List Nat).length := ⟨_, rfl⟩
  rw [← hN1] at hw1
  subst hw1
  have HA := hide hB1
  clear hB1 hN1 hr1 hA1 hS hS1 HD ho1 hq1
  unfold PT
  obtain ⟨c0, c2, c4, c5⟩ := HC.out _ (HA.out.below HW.out HO.out)
  -- the argument
  obtain ⟨V2, W2, hr2, hA2⟩ := HA.out.app1 32 (by simp; omega)
  obtain ⟨a2, d2, hv2⟩ := hA2.slice
  obtain ⟨M2, hM2⟩ : ∃ M2, M2 = m + ([] ++ [32] ++ bytesN nm ++ [32] : List Nat).length := ⟨_, rfl⟩
  rw [← hM2] at hv2
  subst hv2
  have HK := hide (arg_any b 3 nm tx bk r rp a c _ _ _ w0 W2 HS.out HWF.out (hA2.below HW.out HO.out) hA2.own (by simp; omega) HT.out)
  rw [← hM2] at HK
  have HA1 := hide hA2
  have HM1 := hide hM2
  clear hA2 hM2 HA
  unfold PT at HK
  go_wp2_with (refine wpList_append_run rfl _ _ _ rfl _ _ _ rfl rfl hr2 ?_)
  refine HK.out.mono ?_
  rintro e w2 ⟨U2, rfl, hB⟩
  have hC := HA1.out.more (m := argT r) (V' := U2) (W' := w2) (by rw [← HM1.out]; exact hB)
  obtain ⟨aa2, dd2, hw2⟩ := hC.slice
  obtain ⟨N2, hN2⟩ : ∃ N2, N2 = m + ([] ++ [32] ++ bytesN nm ++ [32] ++ argT r : List Nat).length := ⟨_, rfl⟩
  rw [← hN2] at hw2
  subst hw2
  have HA := hide hC
  clear hB hC hN2 HK HA1 HM1 hr2 c0 c2 c4 c5
  obtain ⟨c0, c2, c4, c5⟩ := HC.out _ (HA.out.below HW.out HO.out)
  go_wp2
  go_ret
  refine ⟨_, rfl, ?_⟩
  have hA := HA.out
  have e : [] ++ [32] ++ bytesN nm ++ [32] ++ argT r = restT 3 nm tx bk r := by simp [restT]
  rw [← e]
  exact hA

set_option maxHeartbeats 4000000 in
theorem parts_4 : PartsAt 4 := by
  intro b nm tx bk r rp a c v m xs w0 w hS hw hsz hW hO hl hT
  obtain ⟨hs1, hs2, hs3⟩ := hsz
  obtain ⟨a0, cp0, rfl⟩ := hO.slice
  have hl2 : m + (restT 4 nm tx bk r).length ≤ 800000000000 := hl
  simp only [restT, Nat.reduceEqDiff, if_true, if_false, reduceIte, or_true, true_or, or_self, List.length_append, List.length_nil, List.length_cons] at hl2
  have HC : Hid (∀ W, Below w0.heap.size w0 W → W.cell? ⟨b, 0, none⟩ = some (.int .i64 (4 : Nat)) ∧ W.cell? ⟨b, 2, none⟩ = some (.string nm) ∧ W.cell? ⟨b, 4, none⟩ = some (.string tx) ∧ W.cell? ⟨b, 5, none⟩ = some (.string bk)) := fun W h => ⟨hS.c0 W h, hS.c2 W h, hS.c4 W h, hS.c5 W h⟩
  have HS := hide hS
  have HWF := hide hw
  have HW := hide hW
  have HO := hide hO
  have HT := hide hT
  have HA := hide (AV.start hO hW.size)
  obtain ⟨c0, c2, c4, c5⟩ := HC.out w hW
  clear hS hw hW hO hT hl
  unfold PT
  go_enter Tryz.func66, Tryz.ntmps66
  -- the argument
  obtain ⟨V1, W1, hr1, hA1⟩ := HA.out.app1 32 (by simp; omega)
  obtain ⟨a1, d1, hv1⟩ := hA1.slice
  obtain ⟨M1, hM1⟩ : ∃ M1, M1 = m + ([] ++ [32] : List Nat).length := ⟨_, rfl⟩
  rw [← hM1] at hv1
  subst hv1
  have HK := hide (arg_any b 4 nm tx bk r rp a c _ _ _ w0 W1 HS.out HWF.out (hA1.below HW.out HO.out) hA1.own (by simp; omega) HT.out)
  rw [← hM1] at HK
  have HA1 := hide hA1
  have HM1 := hide hM1
  clear hA1 hM1 HA
  unfold PT at HK
  go_wp2_with (refine wpList_append_run rfl _ _ _ rfl _ _ _ rfl rfl hr1 ?_)
  refine HK.out.mono ?_
  rintro e w1 ⟨U1, rfl, hB⟩
  have hC := HA1.out.more (m := argT r) (V' := U1) (W' := w1) (by rw [← HM1.out]; exact hB)
  obtain ⟨aa1, dd1, hw1⟩ := hC.slice
  obtain ⟨N1, hN1⟩ : ∃ N1, N1 = m + ([] ++ [32] ++ argT r : List Nat).length := ⟨_, rfl⟩
  rw [← hN1] at hw1
  subst hw1
  have HA := hide hC
  clear hB hC hN1 HK HA1 HM1 hr1 c0 c2 c4 c5
  obtain ⟨c0, c2, c4, c5⟩ := HC.out _ (HA.out.below HW.out HO.out)
  -- field 4
  go_wp2
  try rw [show Value.pointer (some ⟨b, 0, none⟩) = PT b from rfl]
  have hS0 : Below w0.heap.size w0 w1 := HA.out.below HW.out HO.out
  have hS : Below w0.heap.size w0 { w1 with drawn := w1.drawn + 1 } := hS0.trans ((drewBelow w1).mono hS0.size)
  have HD := hide (HA.out.step (drewBelow w1))
  refine wp_region_noPanic (wp_region_held (S := fun W => Below w0.heap.size w0 W) (by kernel_rfl) ?_)
  show wpAnyH _ _ _ _ _ 9 #[false, false, false, false, false, false, false, false, false] _ _
  generalize ({ w1 with drawn := w1.drawn + 1 } : World) = X2 at hS HD ⊢
  clear hS0 HA c0 c2 c4 c5
  obtain ⟨ao2, co2, ho2⟩ := HD.out.slice
  refine h_take 0 (.slice aa1 N1 dd1) rfl (by kernel_rfl) (by kernel_rfl) (by kernel_rfl) rfl (fun w hw => x_move _ _ _ _ _ _ _ _ rfl w) hS ?_
  simp only [Act.put, List.setIfInBounds_toArray, List.set_cons_succ, List.set_cons_zero]
  refine h_take 3 (PT b) rfl (by kernel_rfl) (by kernel_rfl) (by kernel_rfl) rfl (fun w hw => x_move _ _ _ _ _ _ _ _ rfl w) hS ?_
  simp only [Act.put, List.setIfInBounds_toArray, List.set_cons_succ, List.set_cons_zero]
  refine h_take 4 (PT b) rfl (by kernel_rfl) (by kernel_rfl) (by kernel_rfl) rfl (fun w hw => x_nilCheck _ _ _ _ _ _ _ _ rfl w) hS ?_
  simp only [Act.put, List.setIfInBounds_toArray, List.set_cons_succ, List.set_cons_zero]
  refine h_take 5 (.pointer (some ⟨b, 4, none⟩)) rfl (by kernel_rfl) (by kernel_rfl) (by kernel_rfl) rfl (fun w hw => x_tmF4 _ _ _ _ _ _ _ _ rfl w) hS ?_
  simp only [Act.put, List.setIfInBounds_toArray, List.set_cons_succ, List.set_cons_zero]
  refine h_take 6 (.string tx) rfl (by kernel_rfl) (by kernel_rfl) (by kernel_rfl) rfl (fun w hw => x_tmStr _ _ _ _ _ _ _ _ _ _ rfl w (HC.out w hw).2.2.1) hS ?_
  simp only [Act.put, List.setIfInBounds_toArray, List.set_cons_succ, List.set_cons_zero]
  refine h_alloc 1 (.slice (some ⟨X2.heap.size, 0, none⟩) 1 1) (X2.alloc (.cells #[.int .u8 32] 5)) rfl (by kernel_rfl) rfl (x_lay1 _ _ _ _ _ _ 32 rfl X2) (hS.alloc hS.size _) ?_
  simp only [Act.put, List.setIfInBounds_toArray, List.set_cons_succ, List.set_cons_zero]
  obtain ⟨V2, W2, hr2, hA2⟩ := HD.out.app1 32 (by simp; omega)
  have hS2 : Below w0.heap.size w0 W2 := hA2.below HW.out HO.out
  refine h_alloc 2 V2 W2 rfl (by kernel_rfl) rfl (x_appK _ _ _ _ _ _ _ _ _ _ _ _ _ _ _ rfl rfl hr2) hS2 ?_
  simp only [Act.put, List.setIfInBounds_toArray, List.set_cons_succ, List.set_cons_zero]
  refine h_callE 7 47 #[V2, .string tx] (fun v w' => AV w w0.heap.size (.slice a0 m cp0) m xs ([] ++ [32] ++ argT r ++ [32] ++ quoteT tx) v w') rfl (by kernel_rfl) rfl (x_call2 _ _ _ _ _ _ _ _ _ _ _ _ _ rfl rfl rfl (enters_of Tryz.func47 (by kernel_rfl) rfl) _) ((appendQuote_any tx V2 _ w0.heap.size _ W2 hA2.own hS2.size (by simp; omega) (by omega)).mono fun e w' ⟨V, h1, h2⟩ => ⟨V, h1, hA2.more h2⟩) (fun v w' h => h.below HW.out HO.out) ?_
  intro U2 w2 hB2
  simp only [Act.put, List.setIfInBounds_toArray, List.set_cons_succ, List.set_cons_zero]
  refine h_take 8 U2 rfl (by kernel_rfl) (by kernel_rfl) (by kernel_rfl) rfl (fun w hw => x_assign _ _ _ _ _ _ _ _ rfl w) (hB2.below HW.out HO.out) ?_
  simp only [Act.put, List.setIfInBounds_toArray, List.set_cons_succ, List.set_cons_zero]
  refine wpAnyH_done (by kernel_rfl) ?_ _
  refine NoPanic.normal ?_
  obtain ⟨aa2, dd2, hw2⟩ := hB2.slice
  obtain ⟨N2, hN2⟩ : ∃ N2, N2 = m + ([] ++ [32] ++ argT r ++ [32] ++ quoteT tx : List Nat).length := ⟨_, rfl⟩
  rw [← hN2] at hw2
  subst hw2
  have HA := hide hB2
  clear hB2 hN2 hr2 hA2 hS hS2 HD ho2
  unfold PT
  obtain ⟨c0, c2, c4, c5⟩ := HC.out _ (HA.out.below HW.out HO.out)
  -- field 5
  go_wp2
  try rw [show Value.pointer (some ⟨b, 0, none⟩) = PT b from rfl]
  have hS0 : Below w0.heap.size w0 w2 := HA.out.below HW.out HO.out
  have hS : Below w0.heap.size w0 { w2 with drawn := w2.drawn + 1 } := hS0.trans ((drewBelow w2).mono hS0.size)
  have HD := hide (HA.out.step (drewBelow w2))
  refine wp_region_noPanic (wp_region_held (S := fun W => Below w0.heap.size w0 W) (by kernel_rfl) ?_)
  show wpAnyH _ _ _ _ _ 9 #[false, false, false, false, false, false, false, false, false] _ _
  generalize ({ w2 with drawn := w2.drawn + 1 } : World) = X3 at hS HD ⊢
  clear hS0 HA c0 c2 c4 c5
  obtain ⟨ao3, co3, ho3⟩ := HD.out.slice
  refine h_take 0 (.slice aa2 N2 dd2) rfl (by kernel_rfl) (by kernel_rfl) (by kernel_rfl) rfl (fun w hw => x_move _ _ _ _ _ _ _ _ rfl w) hS ?_
  simp only [Act.put, List.setIfInBounds_toArray, List.set_cons_succ, List.set_cons_zero]
  refine h_take 3 (PT b) rfl (by kernel_rfl) (by kernel_rfl) (by kernel_rfl) rfl (fun w hw => x_move _ _ _ _ _ _ _ _ rfl w) hS ?_
  simp only [Act.put, List.setIfInBounds_toArray, List.set_cons_succ, List.set_cons_zero]
  refine h_take 4 (PT b) rfl (by kernel_rfl) (by kernel_rfl) (by kernel_rfl) rfl (fun w hw => x_nilCheck _ _ _ _ _ _ _ _ rfl w) hS ?_
  simp only [Act.put, List.setIfInBounds_toArray, List.set_cons_succ, List.set_cons_zero]
  refine h_take 5 (.pointer (some ⟨b, 5, none⟩)) rfl (by kernel_rfl) (by kernel_rfl) (by kernel_rfl) rfl (fun w hw => x_tmF5 _ _ _ _ _ _ _ _ rfl w) hS ?_
  simp only [Act.put, List.setIfInBounds_toArray, List.set_cons_succ, List.set_cons_zero]
  refine h_take 6 (.string bk) rfl (by kernel_rfl) (by kernel_rfl) (by kernel_rfl) rfl (fun w hw => x_tmStr _ _ _ _ _ _ _ _ _ _ rfl w (HC.out w hw).2.2.2) hS ?_
  simp only [Act.put, List.setIfInBounds_toArray, List.set_cons_succ, List.set_cons_zero]
  refine h_alloc 1 (.slice (some ⟨X3.heap.size, 0, none⟩) 1 1) (X3.alloc (.cells #[.int .u8 32] 5)) rfl (by kernel_rfl) rfl (x_lay1 _ _ _ _ _ _ 32 rfl X3) (hS.alloc hS.size _) ?_
  simp only [Act.put, List.setIfInBounds_toArray, List.set_cons_succ, List.set_cons_zero]
  obtain ⟨V3, W3, hr3, hA3⟩ := HD.out.app1 32 (by simp; omega)
  have hS3 : Below w0.heap.size w0 W3 := hA3.below HW.out HO.out
  refine h_alloc 2 V3 W3 rfl (by kernel_rfl) rfl (x_appK _ _ _ _ _ _ _ _ _ _ _ _ _ _ _ rfl rfl hr3) hS3 ?_
  simp only [Act.put, List.setIfInBounds_toArray, List.set_cons_succ, List.set_cons_zero]
  refine h_callE 7 47 #[V3, .string bk] (fun v w' => AV w w0.heap.size (.slice a0 m cp0) m xs ([] ++ [32] ++ argT r ++ [32] ++ quoteT tx ++ [32] ++ quoteT bk) v w') rfl (by kernel_rfl) rfl (x_call2 _ _ _ _ _ _ _ _ _ _ _ _ _ rfl rfl rfl (enters_of Tryz.func47 (by kernel_rfl) rfl) _) ((appendQuote_any bk V3 _ w0.heap.size _ W3 hA3.own hS3.size (by simp; omega) (by omega)).mono fun e w' ⟨V, h1, h2⟩ => ⟨V, h1, hA3.more h2⟩) (fun v w' h => h.below HW.out HO.out) ?_
  intro U3 w3 hB3
  simp only [Act.put, List.setIfInBounds_toArray, List.set_cons_succ, List.set_cons_zero]
  refine h_take 8 U3 rfl (by kernel_rfl) (by kernel_rfl) (by kernel_rfl) rfl (fun w hw => x_assign _ _ _ _ _ _ _ _ rfl w) (hB3.below HW.out HO.out) ?_
  simp only [Act.put, List.setIfInBounds_toArray, List.set_cons_succ, List.set_cons_zero]
  refine wpAnyH_done (by kernel_rfl) ?_ _
  refine NoPanic.normal ?_
  obtain ⟨aa3, dd3, hw3⟩ := hB3.slice
  obtain ⟨N3, hN3⟩ : ∃ N3, N3 = m + ([] ++ [32] ++ argT r ++ [32] ++ quoteT tx ++ [32] ++ quoteT bk : List Nat).length := ⟨_, rfl⟩
  rw [← hN3] at hw3
  subst hw3
  have HA := hide hB3
  clear hB3 hN3 hr3 hA3 hS hS3 HD ho3
  unfold PT
  obtain ⟨c0, c2, c4, c5⟩ := HC.out _ (HA.out.below HW.out HO.out)
  go_wp2
  go_ret
  refine ⟨_, rfl, ?_⟩
  have hA := HA.out
  have e : [] ++ [32] ++ argT r ++ [32] ++ quoteT tx ++ [32] ++ quoteT bk = restT 4 nm tx bk r := by simp [restT]
  rw [← e]
  exact hA

set_option maxHeartbeats 4000000 in
theorem parts_5 : PartsAt 5 := by
  intro b nm tx bk r rp a c v m xs w0 w hS hw hsz hW hO hl hT
  obtain ⟨hs1, hs2, hs3⟩ := hsz
  obtain ⟨a0, cp0, rfl⟩ := hO.slice
  have hl2 : m + (restT 5 nm tx bk r).length ≤ 800000000000 := hl
  simp only [restT, Nat.reduceEqDiff, if_true, if_false, reduceIte, or_true, true_or, or_self, List.length_append, List.length_nil, List.length_cons] at hl2
  have HC : Hid (∀ W, Below w0.heap.size w0 W → W.cell? ⟨b, 0, none⟩ = some (.int .i64 (5 : Nat)) ∧ W.cell? ⟨b, 2, none⟩ = some (.string nm) ∧ W.cell? ⟨b, 4, none⟩ = some (.string tx) ∧ W.cell? ⟨b, 5, none⟩ = some (.string bk)) := fun W h => ⟨hS.c0 W h, hS.c2 W h, hS.c4 W h, hS.c5 W h⟩
  have HS := hide hS
  have HWF := hide hw
  have HW := hide hW
  have HO := hide hO
  have HT := hide hT
  have HA := hide (AV.start hO hW.size)
  obtain ⟨c0, c2, c4, c5⟩ := HC.out w hW
  clear hS hw hW hO hT hl
  unfold PT
  go_enter Tryz.func66, Tryz.ntmps66
  -- the argument
  obtain ⟨V1, W1, hr1, hA1⟩ := HA.out.app1 32 (by simp; omega)
  obtain ⟨a1, d1, hv1⟩ := hA1.slice
  obtain ⟨M1, hM1⟩ : ∃ M1, M1 = m + ([] ++ [32] : List Nat).length := ⟨_, rfl⟩
  rw [← hM1] at hv1
  subst hv1
  have HK := hide (arg_any b 5 nm tx bk r rp a c _ _ _ w0 W1 HS.out HWF.out (hA1.below HW.out HO.out) hA1.own (by simp; omega) HT.out)
  rw [← hM1] at HK
  have HA1 := hide hA1
  have HM1 := hide hM1
  clear hA1 hM1 HA
  unfold PT at HK
  go_wp2_with (refine wpList_append_run rfl _ _ _ rfl _ _ _ rfl rfl hr1 ?_)
  refine HK.out.mono ?_
  rintro e w1 ⟨U1, rfl, hB⟩
  have hC := HA1.out.more (m := argT r) (V' := U1) (W' := w1) (by rw [← HM1.out]; exact hB)
  obtain ⟨aa1, dd1, hw1⟩ := hC.slice
  obtain ⟨N1, hN1⟩ : ∃ N1, N1 = m + ([] ++ [32] ++ argT r : List Nat).length := ⟨_, rfl⟩
  rw [← hN1] at hw1
  subst hw1
  have HA := hide hC
  clear hB hC hN1 HK HA1 HM1 hr1 c0 c2 c4 c5
  obtain ⟨c0, c2, c4, c5⟩ := HC.out _ (HA.out.below HW.out HO.out)
  -- field 5
  go_wp2
  try rw [show Value.pointer (some ⟨b, 0, none⟩) = PT b from rfl]
  have hS0 : Below w0.heap.size w0 w1 := HA.out.below HW.out HO.out
  have hS : Below w0.heap.size w0 { w1 with drawn := w1.drawn + 1 } := hS0.trans ((drewBelow w1).mono hS0.size)
  have HD := hide (HA.out.step (drewBelow w1))
  refine wp_region_noPanic (wp_region_held (S := fun W => Below w0.heap.size w0 W) (by kernel_rfl) ?_)
  show wpAnyH _ _ _ _ _ 9 #[false, false, false, false, false, false, false, false, false] _ _
  generalize ({ w1 with drawn := w1.drawn + 1 } : World) = X2 at hS HD ⊢
  clear hS0 HA c0 c2 c4 c5
  obtain ⟨ao2, co2, ho2⟩ := HD.out.slice
  refine h_take 0 (.slice aa1 N1 dd1) rfl (by kernel_rfl) (by kernel_rfl) (by kernel_rfl) rfl (fun w hw => x_move _ _ _ _ _ _ _ _ rfl w) hS ?_
  simp only [Act.put, List.setIfInBounds_toArray, List.set_cons_succ, List.set_cons_zero]
  refine h_take 3 (PT b) rfl (by kernel_rfl) (by kernel_rfl) (by kernel_rfl) rfl (fun w hw => x_move _ _ _ _ _ _ _ _ rfl w) hS ?_
  simp only [Act.put, List.setIfInBounds_toArray, List.set_cons_succ, List.set_cons_zero]
  refine h_take 4 (PT b) rfl (by kernel_rfl) (by kernel_rfl) (by kernel_rfl) rfl (fun w hw => x_nilCheck _ _ _ _ _ _ _ _ rfl w) hS ?_
  simp only [Act.put, List.setIfInBounds_toArray, List.set_cons_succ, List.set_cons_zero]
  refine h_take 5 (.pointer (some ⟨b, 5, none⟩)) rfl (by kernel_rfl) (by kernel_rfl) (by kernel_rfl) rfl (fun w hw => x_tmF5 _ _ _ _ _ _ _ _ rfl w) hS ?_
  simp only [Act.put, List.setIfInBounds_toArray, List.set_cons_succ, List.set_cons_zero]
  refine h_take 6 (.string bk) rfl (by kernel_rfl) (by kernel_rfl) (by kernel_rfl) rfl (fun w hw => x_tmStr _ _ _ _ _ _ _ _ _ _ rfl w (HC.out w hw).2.2.2) hS ?_
  simp only [Act.put, List.setIfInBounds_toArray, List.set_cons_succ, List.set_cons_zero]
  refine h_alloc 1 (.slice (some ⟨X2.heap.size, 0, none⟩) 1 1) (X2.alloc (.cells #[.int .u8 32] 5)) rfl (by kernel_rfl) rfl (x_lay1 _ _ _ _ _ _ 32 rfl X2) (hS.alloc hS.size _) ?_
  simp only [Act.put, List.setIfInBounds_toArray, List.set_cons_succ, List.set_cons_zero]
  obtain ⟨V2, W2, hr2, hA2⟩ := HD.out.app1 32 (by simp; omega)
  have hS2 : Below w0.heap.size w0 W2 := hA2.below HW.out HO.out
  refine h_alloc 2 V2 W2 rfl (by kernel_rfl) rfl (x_appK _ _ _ _ _ _ _ _ _ _ _ _ _ _ _ rfl rfl hr2) hS2 ?_
  simp only [Act.put, List.setIfInBounds_toArray, List.set_cons_succ, List.set_cons_zero]
  refine h_callE 7 47 #[V2, .string bk] (fun v w' => AV w w0.heap.size (.slice a0 m cp0) m xs ([] ++ [32] ++ argT r ++ [32] ++ quoteT bk) v w') rfl (by kernel_rfl) rfl (x_call2 _ _ _ _ _ _ _ _ _ _ _ _ _ rfl rfl rfl (enters_of Tryz.func47 (by kernel_rfl) rfl) _) ((appendQuote_any bk V2 _ w0.heap.size _ W2 hA2.own hS2.size (by simp; omega) (by omega)).mono fun e w' ⟨V, h1, h2⟩ => ⟨V, h1, hA2.more h2⟩) (fun v w' h => h.below HW.out HO.out) ?_
  intro U2 w2 hB2
  simp only [Act.put, List.setIfInBounds_toArray, List.set_cons_succ, List.set_cons_zero]
  refine h_take 8 U2 rfl (by kernel_rfl) (by kernel_rfl) (by kernel_rfl) rfl (fun w hw => x_assign _ _ _ _ _ _ _ _ rfl w) (hB2.below HW.out HO.out) ?_
  simp only [Act.put, List.setIfInBounds_toArray, List.set_cons_succ, List.set_cons_zero]
  refine wpAnyH_done (by kernel_rfl) ?_ _
  refine NoPanic.normal ?_
  obtain ⟨aa2, dd2, hw2⟩ := hB2.slice
  obtain ⟨N2, hN2⟩ : ∃ N2, N2 = m + ([] ++ [32] ++ argT r ++ [32] ++ quoteT bk : List Nat).length := ⟨_, rfl⟩
  rw [← hN2] at hw2
  subst hw2
  have HA := hide hB2
  clear hB2 hN2 hr2 hA2 hS hS2 HD ho2
  unfold PT
  obtain ⟨c0, c2, c4, c5⟩ := HC.out _ (HA.out.below HW.out HO.out)
  go_wp2
  go_ret
  refine ⟨_, rfl, ?_⟩
  have hA := HA.out
  have e : [] ++ [32] ++ argT r ++ [32] ++ quoteT bk = restT 5 nm tx bk r := by simp [restT]
  rw [← e]
  exact hA

set_option maxHeartbeats 4000000 in
theorem parts_17 : PartsAt 17 := by
  intro b nm tx bk r rp a c v m xs w0 w hS hw hsz hW hO hl hT
  obtain ⟨hs1, hs2, hs3⟩ := hsz
  obtain ⟨a0, cp0, rfl⟩ := hO.slice
  have hl2 : m + (restT 17 nm tx bk r).length ≤ 800000000000 := hl
  simp only [restT, Nat.reduceEqDiff, if_true, if_false, reduceIte, or_true, true_or, or_self, List.length_append, List.length_nil, List.length_cons] at hl2
  have HC : Hid (∀ W, Below w0.heap.size w0 W → W.cell? ⟨b, 0, none⟩ = some (.int .i64 (17 : Nat)) ∧ W.cell? ⟨b, 2, none⟩ = some (.string nm) ∧ W.cell? ⟨b, 4, none⟩ = some (.string tx) ∧ W.cell? ⟨b, 5, none⟩ = some (.string bk)) := fun W h => ⟨hS.c0 W h, hS.c2 W h, hS.c4 W h, hS.c5 W h⟩
  have HS := hide hS
  have HWF := hide hw
  have HW := hide hW
  have HO := hide hO
  have HT := hide hT
  have HA := hide (AV.start hO hW.size)
  obtain ⟨c0, c2, c4, c5⟩ := HC.out w hW
  clear hS hw hW hO hT hl
  unfold PT
  go_enter Tryz.func66, Tryz.ntmps66
  -- the argument
  obtain ⟨V1, W1, hr1, hA1⟩ := HA.out.app1 32 (by simp; omega)
  obtain ⟨a1, d1, hv1⟩ := hA1.slice
  obtain ⟨M1, hM1⟩ : ∃ M1, M1 = m + ([] ++ [32] : List Nat).length := ⟨_, rfl⟩
  rw [← hM1] at hv1
  subst hv1
  have HK := hide (arg_any b 17 nm tx bk r rp a c _ _ _ w0 W1 HS.out HWF.out (hA1.below HW.out HO.out) hA1.own (by simp; omega) HT.out)
  rw [← hM1] at HK
  have HA1 := hide hA1
  have HM1 := hide hM1
  clear hA1 hM1 HA
  unfold PT at HK
  go_wp2_with (refine wpList_append_run rfl _ _ _ rfl _ _ _ rfl rfl hr1 ?_)
  refine HK.out.mono ?_
  rintro e w1 ⟨U1, rfl, hB⟩
  have hC := HA1.out.more (m := argT r) (V' := U1) (W' := w1) (by rw [← HM1.out]; exact hB)
  obtain ⟨aa1, dd1, hw1⟩ := hC.slice
  obtain ⟨N1, hN1⟩ : ∃ N1, N1 = m + ([] ++ [32] ++ argT r : List Nat).length := ⟨_, rfl⟩
  rw [← hN1] at hw1
  subst hw1
  have HA := hide hC
  clear hB hC hN1 HK HA1 HM1 hr1 c0 c2 c4 c5
  obtain ⟨c0, c2, c4, c5⟩ := HC.out _ (HA.out.below HW.out HO.out)
  -- field 4
  go_wp2
  try rw [show Value.pointer (some ⟨b, 0, none⟩) = PT b from rfl]
  have hS0 : Below w0.heap.size w0 w1 := HA.out.below HW.out HO.out
  have hS : Below w0.heap.size w0 { w1 with drawn := w1.drawn + 1 } := hS0.trans ((drewBelow w1).mono hS0.size)
  have HD := hide (HA.out.step (drewBelow w1))
  refine wp_region_noPanic (wp_region_held (S := fun W => Below w0.heap.size w0 W) (by kernel_rfl) ?_)
  show wpAnyH _ _ _ _ _ 9 #[false, false, false, false, false, false, false, false, false] _ _
  generalize ({ w1 with drawn := w1.drawn + 1 } : World) = X2 at hS HD ⊢
  clear hS0 HA c0 c2 c4 c5
  obtain ⟨ao2, co2, ho2⟩ := HD.out.slice
  refine h_take 0 (.slice aa1 N1 dd1) rfl (by kernel_rfl) (by kernel_rfl) (by kernel_rfl) rfl (fun w hw => x_move _ _ _ _ _ _ _ _ rfl w) hS ?_
  simp only [Act.put, List.setIfInBounds_toArray, List.set_cons_succ, List.set_cons_zero]
  refine h_take 3 (PT b) rfl (by kernel_rfl) (by kernel_rfl) (by kernel_rfl) rfl (fun w hw => x_move _ _ _ _ _ _ _ _ rfl w) hS ?_
  simp only [Act.put, List.setIfInBounds_toArray, List.set_cons_succ, List.set_cons_zero]
  refine h_take 4 (PT b) rfl (by kernel_rfl) (by kernel_rfl) (by kernel_rfl) rfl (fun w hw => x_nilCheck _ _ _ _ _ _ _ _ rfl w) hS ?_
  simp only [Act.put, List.setIfInBounds_toArray, List.set_cons_succ, List.set_cons_zero]
  refine h_take 5 (.pointer (some ⟨b, 4, none⟩)) rfl (by kernel_rfl) (by kernel_rfl) (by kernel_rfl) rfl (fun w hw => x_tmF4 _ _ _ _ _ _ _ _ rfl w) hS ?_
  simp only [Act.put, List.setIfInBounds_toArray, List.set_cons_succ, List.set_cons_zero]
  refine h_take 6 (.string tx) rfl (by kernel_rfl) (by kernel_rfl) (by kernel_rfl) rfl (fun w hw => x_tmStr _ _ _ _ _ _ _ _ _ _ rfl w (HC.out w hw).2.2.1) hS ?_
  simp only [Act.put, List.setIfInBounds_toArray, List.set_cons_succ, List.set_cons_zero]
  refine h_alloc 1 (.slice (some ⟨X2.heap.size, 0, none⟩) 1 1) (X2.alloc (.cells #[.int .u8 32] 5)) rfl (by kernel_rfl) rfl (x_lay1 _ _ _ _ _ _ 32 rfl X2) (hS.alloc hS.size _) ?_
  simp only [Act.put, List.setIfInBounds_toArray, List.set_cons_succ, List.set_cons_zero]
  obtain ⟨V2, W2, hr2, hA2⟩ := HD.out.app1 32 (by simp; omega)
  have hS2 : Below w0.heap.size w0 W2 := hA2.below HW.out HO.out
  refine h_alloc 2 V2 W2 rfl (by kernel_rfl) rfl (x_appK _ _ _ _ _ _ _ _ _ _ _ _ _ _ _ rfl rfl hr2) hS2 ?_
  simp only [Act.put, List.setIfInBounds_toArray, List.set_cons_succ, List.set_cons_zero]
  refine h_callE 7 47 #[V2, .string tx] (fun v w' => AV w w0.heap.size (.slice a0 m cp0) m xs ([] ++ [32] ++ argT r ++ [32] ++ quoteT tx) v w') rfl (by kernel_rfl) rfl (x_call2 _ _ _ _ _ _ _ _ _ _ _ _ _ rfl rfl rfl (enters_of Tryz.func47 (by kernel_rfl) rfl) _) ((appendQuote_any tx V2 _ w0.heap.size _ W2 hA2.own hS2.size (by simp; omega) (by omega)).mono fun e w' ⟨V, h1, h2⟩ => ⟨V, h1, hA2.more h2⟩) (fun v w' h => h.below HW.out HO.out) ?_
  intro U2 w2 hB2
  simp only [Act.put, List.setIfInBounds_toArray, List.set_cons_succ, List.set_cons_zero]
  refine h_take 8 U2 rfl (by kernel_rfl) (by kernel_rfl) (by kernel_rfl) rfl (fun w hw => x_assign _ _ _ _ _ _ _ _ rfl w) (hB2.below HW.out HO.out) ?_
  simp only [Act.put, List.setIfInBounds_toArray, List.set_cons_succ, List.set_cons_zero]
  refine wpAnyH_done (by kernel_rfl) ?_ _
  refine NoPanic.normal ?_
  obtain ⟨aa2, dd2, hw2⟩ := hB2.slice
  obtain ⟨N2, hN2⟩ : ∃ N2, N2 = m + ([] ++ [32] ++ argT r ++ [32] ++ quoteT tx : List Nat).length := ⟨_, rfl⟩
  rw [← hN2] at hw2
  subst hw2
  have HA := hide hB2
  clear hB2 hN2 hr2 hA2 hS hS2 HD ho2
  unfold PT
  obtain ⟨c0, c2, c4, c5⟩ := HC.out _ (HA.out.below HW.out HO.out)
  go_wp2
  go_ret
  refine ⟨_, rfl, ?_⟩
  have hA := HA.out
  have e : [] ++ [32] ++ argT r ++ [32] ++ quoteT tx = restT 17 nm tx bk r := by simp [restT]
  rw [← e]
  exact hA

set_option maxHeartbeats 4000000 in
theorem parts_6 : PartsAt 6 := by
  intro b nm tx bk r rp a c v m xs w0 w hS hw hsz hW hO hl hT
  obtain ⟨hs1, hs2, hs3⟩ := hsz
  obtain ⟨a0, cp0, rfl⟩ := hO.slice
  have hl2 : m + (restT 6 nm tx bk r).length ≤ 800000000000 := hl
  simp only [restT, Nat.reduceEqDiff, if_true, if_false, reduceIte, or_true, true_or, or_self, List.length_append, List.length_nil, List.length_cons] at hl2
  have HC : Hid (∀ W, Below w0.heap.size w0 W → W.cell? ⟨b, 0, none⟩ = some (.int .i64 (6 : Nat)) ∧ W.cell? ⟨b, 2, none⟩ = some (.string nm) ∧ W.cell? ⟨b, 4, none⟩ = some (.string tx) ∧ W.cell? ⟨b, 5, none⟩ = some (.string bk)) := fun W h => ⟨hS.c0 W h, hS.c2 W h, hS.c4 W h, hS.c5 W h⟩
  have HS := hide hS
  have HWF := hide hw
  have HW := hide hW
  have HO := hide hO
  have HT := hide hT
  have HA := hide (AV.start hO hW.size)
  obtain ⟨c0, c2, c4, c5⟩ := HC.out w hW
  clear hS hw hW hO hT hl
  unfold PT
  go_enter Tryz.func66, Tryz.ntmps66
  -- field 4
  go_wp2
  try rw [show Value.pointer (some ⟨b, 0, none⟩) = PT b from rfl]
  have hS0 : Below w0.heap.size w0 w := HA.out.below HW.out HO.out
  have hS : Below w0.heap.size w0 { w with drawn := w.drawn + 1 } := hS0.trans ((drewBelow w).mono hS0.size)
  have HD := hide (HA.out.step (drewBelow w))
  refine wp_region_noPanic (wp_region_held (S := fun W => Below w0.heap.size w0 W) (by kernel_rfl) ?_)
  show wpAnyH _ _ _ _ _ 9 #[false, false, false, false, false, false, false, false, false] _ _
  generalize ({ w with drawn := w.drawn + 1 } : World) = X1 at hS HD ⊢
  clear hS0 HA c0 c2 c4 c5
  obtain ⟨ao1, co1, ho1⟩ := HD.out.slice
  refine h_take 0 (.slice a0 m cp0) rfl (by kernel_rfl) (by kernel_rfl) (by kernel_rfl) rfl (fun w hw => x_move _ _ _ _ _ _ _ _ rfl w) hS ?_
  simp only [Act.put, List.setIfInBounds_toArray, List.set_cons_succ, List.set_cons_zero]
  refine h_take 3 (PT b) rfl (by kernel_rfl) (by kernel_rfl) (by kernel_rfl) rfl (fun w hw => x_move _ _ _ _ _ _ _ _ rfl w) hS ?_
  simp only [Act.put, List.setIfInBounds_toArray, List.set_cons_succ, List.set_cons_zero]
  refine h_take 4 (PT b) rfl (by kernel_rfl) (by kernel_rfl) (by kernel_rfl) rfl (fun w hw => x_nilCheck _ _ _ _ _ _ _ _ rfl w) hS ?_
  simp only [Act.put, List.setIfInBounds_toArray, List.set_cons_succ, List.set_cons_zero]
  refine h_take 5 (.pointer (some ⟨b, 4, none⟩)) rfl (by kernel_rfl) (by kernel_rfl) (by kernel_rfl) rfl (fun w hw => x_tmF4 _ _ _ _ _ _ _ _ rfl w) hS ?_
  simp only [Act.put, List.setIfInBounds_toArray, List.set_cons_succ, List.set_cons_zero]
  refine h_take 6 (.string tx) rfl (by kernel_rfl) (by kernel_rfl) (by kernel_rfl) rfl (fun w hw => x_tmStr _ _ _ _ _ _ _ _ _ _ rfl w (HC.out w hw).2.2.1) hS ?_
  simp only [Act.put, List.setIfInBounds_toArray, List.set_cons_succ, List.set_cons_zero]
  refine h_alloc 1 (.slice (some ⟨X1.heap.size, 0, none⟩) 1 1) (X1.alloc (.cells #[.int .u8 32] 5)) rfl (by kernel_rfl) rfl (x_lay1 _ _ _ _ _ _ 32 rfl X1) (hS.alloc hS.size _) ?_
  simp only [Act.put, List.setIfInBounds_toArray, List.set_cons_succ, List.set_cons_zero]
  obtain ⟨V1, W1, hr1, hA1⟩ := HD.out.app1 32 (by simp; omega)
  have hS1 : Below w0.heap.size w0 W1 := hA1.below HW.out HO.out
  refine h_alloc 2 V1 W1 rfl (by kernel_rfl) rfl (x_appK _ _ _ _ _ _ _ _ _ _ _ _ _ _ _ rfl rfl hr1) hS1 ?_
  simp only [Act.put, List.setIfInBounds_toArray, List.set_cons_succ, List.set_cons_zero]
  refine h_callE 7 47 #[V1, .string tx] (fun v w' => AV w w0.heap.size (.slice a0 m cp0) m xs ([] ++ [32] ++ quoteT tx) v w') rfl (by kernel_rfl) rfl (x_call2 _ _ _ _ _ _ _ _ _ _ _ _ _ rfl rfl rfl (enters_of Tryz.func47 (by kernel_rfl) rfl) _) ((appendQuote_any tx V1 _ w0.heap.size _ W1 hA1.own hS1.size (by simp; omega) (by omega)).mono fun e w' ⟨V, h1, h2⟩ => ⟨V, h1, hA1.more h2⟩) (fun v w' h => h.below HW.out HO.out) ?_
  intro U1 w1 hB1
  simp only [Act.put, List.setIfInBounds_toArray, List.set_cons_succ, List.set_cons_zero]
  refine h_take 8 U1 rfl (by kernel_rfl) (by kernel_rfl) (by kernel_rfl) rfl (fun w hw => x_assign _ _ _ _ _ _ _ _ rfl w) (hB1.below HW.out HO.out) ?_
  simp only [Act.put, List.setIfInBounds_toArray, List.set_cons_succ, List.set_cons_zero]
  refine wpAnyH_done (by kernel_rfl) ?_ _
  refine NoPanic.normal ?_
  obtain ⟨aa1, dd1, hw1⟩ := hB1.slice
  obtain ⟨N1, hN1⟩ : ∃ N1, N1 = m + ([] ++ [32] ++ quoteT tx : List Nat).length := ⟨_, rfl⟩
  rw [← hN1] at hw1
  subst hw1
  have HA := hide hB1
  clear hB1 hN1 hr1 hA1 hS hS1 HD ho1
  unfold PT
  obtain ⟨c0, c2, c4, c5⟩ := HC.out _ (HA.out.below HW.out HO.out)
  go_wp2
  go_ret
  refine ⟨_, rfl, ?_⟩
  have hA := HA.out
  have e : [] ++ [32] ++ quoteT tx = restT 6 nm tx bk r := by simp [restT]
  rw [← e]
  exact hA
end Go.Proofs.YtblpekljiilkjaaGreatDoor
