/- The document's example, as the statements of layer 3 ask it first. -/
import Derived.Test.YtkjmjppmpcnejaaDoorShE
namespace Go.Proofs.YtkjmjppmpcnejaaDoor
set_option maxRecDepth 100000
set_option linter.unusedSimpArgs false
set_option linter.unusedVariables false
open Go.RowKit

theorem x_neqNil (ρ : Operand → Value) (d : Option Tmp) (x : Operand) (t : TypeId) (pos : String) (af : Array Edge) (g : Option (Nat × Bool)) (b : Nat) (hx : ρ x = PT b) (hy : ρ (.const (.pointer none)) = .pointer none) (w : World) :
    (execOp ρ { dst := d, op := .binOp .neq 27 x (.const (.pointer none)) 27, type := t, pos := pos, after := af, guard := g }).run Tryd.prog w = .ok (.value (.bool true)) w := by
  simp [go_sem, hx, hy, PT]
theorem x_eqOpC (ρ : Operand → Value) (d : Option Tmp) (x : Operand) (n : Int) (t : TypeId) (pos : String) (af : Array Edge) (g : Option (Nat × Bool)) (u : Int) (c : Bool) (hc : (u == n) = c) (hx : ρ x = .int .i64 u) (hy : ρ (.const (.int .i64 n)) = .int .i64 n) (w : World) :
    (execOp ρ { dst := d, op := .binOp .eql 47 x (.const (.int .i64 n)) 47, type := t, pos := pos, after := af, guard := g }).run Tryd.prog w = .ok (.value (.bool c)) w := by
  rw [← hc]
  simp [go_sem, hx, hy]
theorem x_build97 (ρ : Operand → Value) (d : Option Tmp) (t : TypeId) (pos : String) (af : Array Edge) (g : Option (Nat × Bool)) (hx : ρ (.const (.int .u8 97)) = .int .u8 97) (hy : ρ (.const (.int .u8 98)) = .int .u8 98) (w : World) :
    (execOp ρ { dst := d, op := .buildSlice 57 2 #[(0, .const (.int .u8 97)), (1, .const (.int .u8 98))], type := t, pos := pos, after := af, guard := g }).run Tryd.prog w = .ok (.value (.slice (some ⟨w.heap.size, 0, none⟩) 2 2)) (w.alloc (.cells #[.int .u8 97, .int .u8 98] 5)) := by
  simp [go_sem, hx, hy]
theorem x_buildP2 (ρ : Operand → Value) (d : Option Tmp) (x y : Operand) (t : TypeId) (pos : String) (af : Array Edge) (g : Option (Nat × Bool)) (a b : Nat) (hx : ρ x = PT a) (hy : ρ y = PT b) (w : World) :
    (execOp ρ { dst := d, op := .buildSlice 39 2 #[(0, x), (1, y)], type := t, pos := pos, after := af, guard := g }).run Tryd.prog w = .ok (.value (.slice (some ⟨w.heap.size, 0, none⟩) 2 2)) (w.alloc (.cells #[PT a, PT b] 27)) := by
  simp [go_sem, hx, hy, PT]
theorem x_neqStr (ρ : Operand → Value) (d : Option Tmp) (x y : Operand) (t : TypeId) (pos : String) (af : Array Edge) (g : Option (Nat × Bool)) (u v : ByteArray) (hne : u ≠ v) (hx : ρ x = .string u) (hy : ρ y = .string v) (w : World) :
    (execOp ρ { dst := d, op := .binOp .neq 9 x y 9, type := t, pos := pos, after := af, guard := g }).run Tryd.prog w = .ok (.value (.bool true)) w := by
  have hb : ¬ u.toList = v.toList := fun e => hne (Go.WideShapes.bytes_inj (by rw [ByteArray.toList_eq, ByteArray.toList_eq] at e; exact e))
  simp [go_sem, hx, hy, hb]
theorem head3_x : rAny [rOne sA, rOne sB] = rOne sAB := by
  have h1 : (rOne sA).op = 2 := one_op _ (by decide +kernel)
  have h2 : (rOne sB).op = 2 := one_op _ (by decide +kernel)
  have e1 : (rOne sA).set = sA := by unfold rOne; rw [if_neg (by decide +kernel)]; rfl
  have e2 : (rOne sB).set = sB := by unfold rOne; rw [if_neg (by decide +kernel)]; rfl
  have hf : flatL 4 [rOne sA, rOne sB] = [rOne sA, rOne sB] := by simp [flatL, h1, h2]
  have hk : orKeep [rOne sA, rOne sB] = [] := by simp [orKeep, h1, h2]
  have hs : orSet [rOne sA, rOne sB] = sAB := by
    simp only [orSet, List.foldl_cons, List.foldl_nil, h1, h2, e1, e2, if_true]
    decide +kernel
  unfold rAny
  simp only [hf, hk, hs]
  have hz : ¬ sAB = 0#256 := by decide +kernel
  simp only [hz, if_false, List.nil_append]
  rw [if_neg (by simp)]
  rfl
theorem head3_t : rThen [rEmpty, rOne sA] = rOne sA := by
  have h1 : (rOne sA).op = 2 := one_op _ (by decide +kernel)
  have h0 : rEmpty.op = 1 := rfl
  have hc : catL [rEmpty, rOne sA] = [rOne sA] := by simp [catL, catK, h1, h0]
  unfold rThen
  rw [if_neg (by simp [h1, h0]), hc, if_neg (by simp)]
  rfl
theorem head3_c : (catL [rEmpty, rOne sA]).length ≤ 2 := by
  have h1 := cntL_catL [rEmpty, rOne sA]
  have h2 := cntL_len (catL [rEmpty, rOne sA])
  have h3 : cntL [rEmpty, rOne sA] = 2 := by simp [cntL, cnt_empty, cnt_one]
  omega
theorem head3_ne : rOne sA ≠ rOne sAB := fun e => by
  have e1 : (rOne sA).set = sA := by unfold rOne; rw [if_neg (by decide +kernel)]; rfl
  have e2 : (rOne sAB).set = sAB := by unfold rOne; rw [if_neg (by decide +kernel)]; rfl
  rw [e, e2] at e1
  exact absurd e1 (by decide +kernel)
theorem key_one_len (s : BitVec 256) : (rOne s).key.length ≤ 1000 := by
  rw [(rOne s).eta, RE.key_mk, rOne_kids]
  have := runs_le (rOne s).set
  have h2 := rnB_length (runsOf (rOne s).set)
  split
  · simp [keysL]; omega
  · simp [keysL]
theorem ofRow1 {w : World} {c : Nat} {g : Nat} (hg : Blk w g #[.int .u8 c] 5) : ∀ k, k < [c].length → ∃ b off, (some ⟨g, 0, none⟩ : Option Addr) = some ⟨b, off, none⟩ ∧ b < w.heap.size ∧ w.cell? ⟨b, off + k, none⟩ = some (.int .u8 (([c] : List Nat).getD k 0)) := fun k hk => by
  obtain rfl : k = 0 := by simp at hk; omega
  exact ⟨_, _, rfl, hg.lt, hg.cell 0⟩
theorem ofRow2 {w : World} {c d : Nat} {g : Nat} (hg : Blk w g #[.int .u8 c, .int .u8 d] 5) : ∀ k, k < [c, d].length → ∃ b off, (some ⟨g, 0, none⟩ : Option Addr) = some ⟨b, off, none⟩ ∧ b < w.heap.size ∧ w.cell? ⟨b, off + k, none⟩ = some (.int .u8 (([c, d] : List Nat).getD k 0)) := fun k hk => by
  have hk2 : k = 0 ∨ k = 1 := by simp at hk; omega
  rcases hk2 with rfl | rfl
  · exact ⟨_, _, rfl, hg.lt, hg.cell 0⟩
  · exact ⟨_, _, rfl, hg.lt, hg.cell 1⟩

set_option maxHeartbeats 4000000 in
theorem head3_any (w : World) (hT : TabAt w) :
    Calls Tryd.prog 6 #[] w fun e w' => e = .returned (.bool true) ∧ Below w.heap.size w w' := by
  have HT := hide hT
  clear hT
  go_enter Tryd.func6, Tryd.ntmps6
  go_wp2_with fail
  have hb0 := (Below.refl w.heap.size w).alloc (Nat.le_refl _) (.cells #[.int .u8 (97 : Nat)] 5)
  refine (of_any [97] (by decide) _ _ 1 (ofRow1 (Blk.newAt (w := w) rfl #[.int .u8 (97 : Nat)] 5)) (by decide)).mono ?_
  rintro e w1 ⟨rfl, hb⟩
  have HB1 := hide (hb0.trans (hb.mono (by simp)))
  clear hb hb0
  rw [show setOf [97] = sA from rfl]
  go_wp2_with fail
  refine (one_any sA _).mono ?_
  rintro e w2 ⟨ab, rfl, ha, hb⟩
  have HB2 := hide (HB1.out.trans (hb.mono HB1.out.size))
  have HA := hide ha
  clear ha hb
  go_wp2_with fail
  have hb0 := (Below.refl w2.heap.size w2).alloc (Nat.le_refl _) (.cells #[.int .u8 (98 : Nat)] 5)
  refine (of_any [98] (by decide) _ _ 1 (ofRow1 (Blk.newAt (w := w2) rfl #[.int .u8 (98 : Nat)] 5)) (by decide)).mono ?_
  rintro e w3 ⟨rfl, hb⟩
  have HB3 := hide (HB2.out.trans ((hb0.trans (hb.mono (by simp))).mono HB2.out.size))
  have HA3 := hide ((HA.out.keep hb0).keep hb)
  clear hb hb0 HA
  rw [show setOf [98] = sB from rfl]
  go_wp2_with fail
  refine (one_any sB _).mono ?_
  rintro e w4 ⟨bb, rfl, hbb, hb⟩
  have HB4 := hide (HB3.out.trans (hb.mono HB3.out.size))
  have HA4 := hide (HA3.out.keep hb)
  have HBB := hide hbb
  clear hb hbb HA3
  unfold PT
  go_wp2_with fail
  have hb0 := (Below.refl w4.heap.size w4).alloc (Nat.le_refl _) (.cells #[PT ab, PT bb] 27)
  have HB5 := hide (HB4.out.trans (hb0.mono HB4.out.size))
  have hone : ∀ s : BitVec 256, (rOne s).op ≠ 4 := fun s => by unfold rOne; split <;> (simp only [rNothing, RE.op]; omega)
  refine (any_re [rOne sA, rOne sB] _ _ (resRow_two (Blk.newAt rfl #[PT ab, PT bb] 27) (HA4.out.keep hb0) (HBB.out.keep hb0)) (fun r hr => by simp at hr; rcases hr with rfl | rfl <;> exact wf_one _) (by simp) (by simp [flatL, hone]) (HT.out.agree (Agree.of_all (K := fun _ => True) HB5.out) trivial)).mono ?_
  rw [head3_x]
  rintro e w6 ⟨xb, rfl, hx, hb⟩
  have HB6 := hide (HB5.out.trans (hb.mono HB5.out.size))
  have HA6 := hide ((HA4.out.keep hb0).keep hb)
  have HX6 := hide hx
  clear hb hx hb0 HA4 HBB hone HB1 HB2 HB3 HB4 HB5
  unfold PT
  go_wp2
  rw [show Value.pointer (some ⟨ab, 0, none⟩) = PT ab from rfl, show Value.pointer (some ⟨xb, 0, none⟩) = PT xb from rfl, show Value.pointer (some ⟨bb, 0, none⟩) = PT bb from rfl]
  obtain ⟨S, hSd⟩ : ∃ S : World → Prop, S = fun W => Below w6.heap.size w6 W := ⟨_, rfl⟩
  have hSb : ∀ W, S W → Below w6.heap.size w6 W := fun W h => by rw [hSd] at h; exact h
  have hbS : ∀ W, Below w6.heap.size w6 W → S W := fun W h => by rw [hSd]; exact h
  have hSg : ∀ W W', S W → Below W.heap.size W W' → S W' := fun W W' h hb => hbS _ ((hSb W h).trans (hb.mono (hSb W h).size))
  have hSa : ∀ W, S W → ReAt W ab (rOne sA) := fun W h => HA6.out.keep (hSb W h)
  have hSx : ∀ W, S W → ReAt W xb (rOne sAB) := fun W h => HX6.out.keep (hSb W h)
  have hSt : ∀ W, S W → TabAt W := fun W h => HT.out.agree (Agree.of_all (K := fun _ => True) (HB6.out.trans ((hSb W h).mono HB6.out.size))) trivial
  have hS : S { w6 with drawn := w6.drawn + 1 } := hbS _ ⟨rfl, rfl, rfl, Nat.le_refl _, fun _ _ => rfl⟩
  have hopx : (rOne sAB).op = 2 := one_op _ (by decide +kernel)
  have hsetx : (rOne sAB).set = sAB := by unfold rOne; rw [if_neg (by decide +kernel)]; rfl
  clear hSd
  refine wp_region_noPanic (wp_region_held (S := S) (by kernel_rfl) ?_)
  show wpAnyH _ _ _ _ _ 38 #[false, false, false, false, false, false, false, false, false, false, false, false, false, false, false, false, false, false, false, false, false, false, false, false, false, false, false, false, false, false, false, false, false, false, false, false, false, false] _ _
  generalize ({ w6 with drawn := w6.drawn + 1 } : World) = W at hS ⊢
  refine h_take 0 (PT ab) rfl (by kernel_rfl) (by kernel_rfl) (by kernel_rfl) (by kernel_rfl) (fun w hw => x_move _ _ _ _ _ _ _ _ rfl w) hS ?_
  simp only [Act.put, List.setIfInBounds_toArray, List.set_cons_succ, List.set_cons_zero]
  refine h_take 1 (.bool true) rfl (by kernel_rfl) (by kernel_rfl) (by kernel_rfl) (by kernel_rfl) (fun w hw => x_neqNil _ _ _ _ _ _ _ _ rfl rfl w) hS ?_
  simp only [Act.put, List.setIfInBounds_toArray, List.set_cons_succ, List.set_cons_zero]
  refine h_take 2 (.bool true) rfl (by kernel_rfl) (by kernel_rfl) (by kernel_rfl) (by kernel_rfl) (fun w hw => x_move _ _ _ _ _ _ _ _ rfl w) hS ?_
  simp only [Act.put, List.setIfInBounds_toArray, List.set_cons_succ, List.set_cons_zero]
  refine h_take 3 (PT xb) rfl (by kernel_rfl) (by kernel_rfl) (by kernel_rfl) (by kernel_rfl) (fun w hw => x_move _ _ _ _ _ _ _ _ rfl w) hS ?_
  simp only [Act.put, List.setIfInBounds_toArray, List.set_cons_succ, List.set_cons_zero]
  refine h_take 4 (.bool true) rfl (by kernel_rfl) (by kernel_rfl) (by kernel_rfl) (by kernel_rfl) (fun w hw => x_neqNil _ _ _ _ _ _ _ _ rfl rfl w) hS ?_
  simp only [Act.put, List.setIfInBounds_toArray, List.set_cons_succ, List.set_cons_zero]
  refine h_take 5 (.bool true) rfl (by kernel_rfl) (by kernel_rfl) (by kernel_rfl) (by kernel_rfl) (fun w hw => x_pick _ _ _ _ _ _ _ _ _ true _ _ rfl rfl rfl w) hS ?_
  simp only [Act.put, List.setIfInBounds_toArray, List.set_cons_succ, List.set_cons_zero]
  refine h_take 6 (.bool true) rfl (by kernel_rfl) (by kernel_rfl) (by kernel_rfl) (by kernel_rfl) (fun w hw => x_move _ _ _ _ _ _ _ _ rfl w) hS ?_
  simp only [Act.put, List.setIfInBounds_toArray, List.set_cons_succ, List.set_cons_zero]
  refine h_take 7 (PT xb) rfl (by kernel_rfl) (by kernel_rfl) (by kernel_rfl) (by kernel_rfl) (fun w hw => x_move _ _ _ _ _ _ _ _ rfl w) hS ?_
  simp only [Act.put, List.setIfInBounds_toArray, List.set_cons_succ, List.set_cons_zero]
  refine h_take 8 (PT xb) rfl (by kernel_rfl) (by kernel_rfl) (by kernel_rfl) (by kernel_rfl) (fun w hw => x_nilCheck _ _ _ _ _ _ _ _ rfl w) hS ?_
  simp only [Act.put, List.setIfInBounds_toArray, List.set_cons_succ, List.set_cons_zero]
  refine h_take 9 (PT xb) rfl (by kernel_rfl) (by kernel_rfl) (by kernel_rfl) (by kernel_rfl) (fun w hw => x_field0 _ _ _ _ _ _ _ _ rfl w) hS ?_
  simp only [Act.put, List.setIfInBounds_toArray, List.set_cons_succ, List.set_cons_zero]
  refine h_take 10 (.int .i64 ((2 : Nat) : Int)) rfl (by kernel_rfl) (by kernel_rfl) (by kernel_rfl) (by kernel_rfl) (fun w hw => x_loadOp _ _ _ _ _ _ _ _ _ rfl w (by have := (hSx w hw).cell0; rwa [hopx] at this)) hS ?_
  simp only [Act.put, List.setIfInBounds_toArray, List.set_cons_succ, List.set_cons_zero]
  refine h_take 11 (.bool true) rfl (by kernel_rfl) (by kernel_rfl) (by kernel_rfl) (by kernel_rfl) (fun w hw => x_eqOpC _ _ _ _ _ _ _ _ _ true (by decide) rfl rfl w) hS ?_
  simp only [Act.put, List.setIfInBounds_toArray, List.set_cons_succ, List.set_cons_zero]
  refine h_take 12 (.bool true) rfl (by kernel_rfl) (by kernel_rfl) (by kernel_rfl) (by kernel_rfl) (fun w hw => x_pick _ _ _ _ _ _ _ _ _ true _ _ rfl rfl rfl w) hS ?_
  simp only [Act.put, List.setIfInBounds_toArray, List.set_cons_succ, List.set_cons_zero]
  refine h_take 13 (.bool true) rfl (by kernel_rfl) (by kernel_rfl) (by kernel_rfl) (by kernel_rfl) (fun w hw => x_move _ _ _ _ _ _ _ _ rfl w) hS ?_
  simp only [Act.put, List.setIfInBounds_toArray, List.set_cons_succ, List.set_cons_zero]
  refine h_take 14 (PT xb) rfl (by kernel_rfl) (by kernel_rfl) (by kernel_rfl) (by kernel_rfl) (fun w hw => x_move _ _ _ _ _ _ _ _ rfl w) hS ?_
  simp only [Act.put, List.setIfInBounds_toArray, List.set_cons_succ, List.set_cons_zero]
  refine h_take 15 (PT xb) rfl (by kernel_rfl) (by kernel_rfl) (by kernel_rfl) (by kernel_rfl) (fun w hw => x_nilCheck _ _ _ _ _ _ _ _ rfl w) hS ?_
  simp only [Act.put, List.setIfInBounds_toArray, List.set_cons_succ, List.set_cons_zero]
  refine h_take 16 (.pointer (some ⟨xb, 1, none⟩)) rfl (by kernel_rfl) (by kernel_rfl) (by kernel_rfl) (by kernel_rfl) (fun w hw => x_field1 _ _ _ _ _ _ _ _ rfl w) hS ?_
  simp only [Act.put, List.setIfInBounds_toArray, List.set_cons_succ, List.set_cons_zero]
  refine h_take 17 (SV sAB) rfl (by kernel_rfl) (by kernel_rfl) (by kernel_rfl) (by kernel_rfl) (fun w hw => x_loadAt _ _ _ _ _ _ _ _ _ _ rfl w (by have := (hSx w hw).cellS; rwa [hsetx] at this)) hS ?_
  simp only [Act.put, List.setIfInBounds_toArray, List.set_cons_succ, List.set_cons_zero]
  have hS2 := hSg _ _ hS ((Below.refl W.heap.size W).alloc (Nat.le_refl _) (.cells #[.int .u8 97, .int .u8 98] 5))
  refine h_alloc 18 (.slice (some ⟨W.heap.size, 0, none⟩) 2 2) (W.alloc (.cells #[.int .u8 97, .int .u8 98] 5)) rfl (by kernel_rfl) (by kernel_rfl) (x_build97 _ _ _ _ _ _ rfl rfl _) hS2 ?_
  simp only [Act.put, List.setIfInBounds_toArray, List.set_cons_succ, List.set_cons_zero]
  have hof := ofRow2 (c := 97) (d := 98) (Blk.newAt (w := W) rfl #[.int .u8 97, .int .u8 98] 5)
  refine h_callE 19 24 #[.slice (some ⟨W.heap.size, 0, none⟩) 2 2] (fun v w' => v = SV sAB ∧ S w') rfl (by kernel_rfl) (by kernel_rfl) (x_call1 _ _ _ _ _ _ _ _ _ _ rfl rfl (enters_of Tryd.func24 (by kernel_rfl) rfl) _) ((of_any [97, 98] (by decide) _ _ 2 hof (by decide)).mono fun e w' h => ⟨_, h.1, rfl, hSg _ _ hS2 h.2⟩) (fun v w' h => h.2) ?_
  clear hof hS2
  rintro v3 W3 ⟨rfl, hS3⟩
  simp only [Act.put, List.setIfInBounds_toArray, List.set_cons_succ, List.set_cons_zero]
  refine h_take 20 (.bool true) rfl (by kernel_rfl) (by kernel_rfl) (by kernel_rfl) (by kernel_rfl) (fun w hw => by rw [show true = (sAB == sAB) from by simp]; exact x_eqSet _ _ _ _ _ _ _ _ _ _ rfl rfl w) hS3 ?_
  simp only [Act.put, List.setIfInBounds_toArray, List.set_cons_succ, List.set_cons_zero]
  refine h_take 21 (.bool true) rfl (by kernel_rfl) (by kernel_rfl) (by kernel_rfl) (by kernel_rfl) (fun w hw => x_pick _ _ _ _ _ _ _ _ _ true _ _ rfl rfl rfl w) hS3 ?_
  simp only [Act.put, List.setIfInBounds_toArray, List.set_cons_succ, List.set_cons_zero]
  refine h_take 22 (.bool true) rfl (by kernel_rfl) (by kernel_rfl) (by kernel_rfl) (by kernel_rfl) (fun w hw => x_move _ _ _ _ _ _ _ _ rfl w) hS3 ?_
  simp only [Act.put, List.setIfInBounds_toArray, List.set_cons_succ, List.set_cons_zero]
  refine h_take 24 (PT ab) rfl (by kernel_rfl) (by kernel_rfl) (by kernel_rfl) (by kernel_rfl) (fun w hw => x_move _ _ _ _ _ _ _ _ rfl w) hS3 ?_
  simp only [Act.put, List.setIfInBounds_toArray, List.set_cons_succ, List.set_cons_zero]
  refine h_take 27 (PT ab) rfl (by kernel_rfl) (by kernel_rfl) (by kernel_rfl) (by kernel_rfl) (fun w hw => x_move _ _ _ _ _ _ _ _ rfl w) hS3 ?_
  simp only [Act.put, List.setIfInBounds_toArray, List.set_cons_succ, List.set_cons_zero]
  refine h_callE 23 25 #[] (fun v w' => ∃ eb, v = PT eb ∧ ReAt w' eb rEmpty ∧ S w') rfl (by kernel_rfl) (by kernel_rfl) (x_call0 _ _ _ _ _ _ _ rfl (enters_of Tryd.func25 (by kernel_rfl) rfl) _) ((empty_re _).mono fun e w' ⟨c, h1, h2, h3⟩ => ⟨_, h1, c, rfl, h2, hSg _ _ hS3 h3⟩) (fun v w' ⟨_, _, _, h⟩ => h) ?_
  rintro v4 W4 ⟨eb, rfl, he, hS4⟩
  simp only [Act.put, List.setIfInBounds_toArray, List.set_cons_succ, List.set_cons_zero]
  have hb5 := (Below.refl W4.heap.size W4).alloc (Nat.le_refl _) (.cells #[PT eb, PT ab] 27)
  have hS5 := hSg _ _ hS4 hb5
  refine h_alloc 25 (.slice (some ⟨W4.heap.size, 0, none⟩) 2 2) (W4.alloc (.cells #[PT eb, PT ab] 27)) rfl (by kernel_rfl) (by kernel_rfl) (x_buildP2 _ _ _ _ _ _ _ _ _ _ rfl rfl _) hS5 ?_
  simp only [Act.put, List.setIfInBounds_toArray, List.set_cons_succ, List.set_cons_zero]
  refine h_callE 26 22 #[.slice (some ⟨W4.heap.size, 0, none⟩) 2 2] (fun v w' => ∃ tb, v = PT tb ∧ ReAt w' tb (rOne sA) ∧ S w') rfl (by kernel_rfl) (by kernel_rfl) (x_call1 _ _ _ _ _ _ _ _ _ _ rfl rfl (enters_of Tryd.func22 (by kernel_rfl) rfl) _) ((then_any [rEmpty, rOne sA] _ _ (resRow_two (Blk.newAt rfl #[PT eb, PT ab] 27) (he.keep hb5) ((hSa _ hS4).keep hb5)) (fun r hr => by simp at hr; rcases hr with rfl | rfl; exact wf_empty; exact wf_one _) (by simp) (by have := head3_c; omega)).mono fun e w' ⟨c, h1, h2, h3⟩ => ⟨_, h1, c, rfl, by rw [head3_t] at h2; exact h2, hSg _ _ hS5 h3⟩) (fun v w' ⟨_, _, _, h⟩ => h) ?_
  rintro v6 W6 ⟨tb, rfl, ht, hS6⟩
  simp only [Act.put, List.setIfInBounds_toArray, List.set_cons_succ, List.set_cons_zero]
  refine h_callE 28 18 #[PT tb, PT ab] (fun v w' => v = .bool true ∧ S w') rfl (by kernel_rfl) (by kernel_rfl) (x_call2 _ _ _ _ _ _ _ _ _ _ _ _ _ rfl rfl rfl (enters_of Tryd.func18 (by kernel_rfl) rfl) _) ((same_re _ _ tb ab W6 (wf_one _).k (wf_one _).k ht (hSa _ hS6) (hSt _ hS6)).mono fun e w' h => ⟨_, h.1, by rw [lexN_self]; rfl, hSg _ _ hS6 h.2.below⟩) (fun v w' h => h.2) ?_
  rintro v7 W7 ⟨rfl, hS7⟩
  simp only [Act.put, List.setIfInBounds_toArray, List.set_cons_succ, List.set_cons_zero]
  refine h_take 29 (.bool true) rfl (by kernel_rfl) (by kernel_rfl) (by kernel_rfl) (by kernel_rfl) (fun w hw => x_pick _ _ _ _ _ _ _ _ _ true _ _ rfl rfl rfl w) hS7 ?_
  simp only [Act.put, List.setIfInBounds_toArray, List.set_cons_succ, List.set_cons_zero]
  refine h_take 30 (.bool true) rfl (by kernel_rfl) (by kernel_rfl) (by kernel_rfl) (by kernel_rfl) (fun w hw => x_move _ _ _ _ _ _ _ _ rfl w) hS7 ?_
  simp only [Act.put, List.setIfInBounds_toArray, List.set_cons_succ, List.set_cons_zero]
  refine h_take 31 (PT ab) rfl (by kernel_rfl) (by kernel_rfl) (by kernel_rfl) (by kernel_rfl) (fun w hw => x_move _ _ _ _ _ _ _ _ rfl w) hS7 ?_
  simp only [Act.put, List.setIfInBounds_toArray, List.set_cons_succ, List.set_cons_zero]
  refine h_take 33 (PT xb) rfl (by kernel_rfl) (by kernel_rfl) (by kernel_rfl) (by kernel_rfl) (fun w hw => x_move _ _ _ _ _ _ _ _ rfl w) hS7 ?_
  simp only [Act.put, List.setIfInBounds_toArray, List.set_cons_succ, List.set_cons_zero]
  refine h_callE 32 16 #[PT ab] (fun v w' => v = .string (strB (rOne sA).key) ∧ S w') rfl (by kernel_rfl) (by kernel_rfl) (x_call1 _ _ _ _ _ _ _ _ _ _ rfl rfl (enters_of Tryd.func16 (by kernel_rfl) rfl) _) ((key_any _ ab W7 (wf_one _).k (hSa _ hS7) (by have := key_one_len sA; omega) (hSt _ hS7)).mono fun e w' h => ⟨_, h.1, rfl, hSg _ _ hS7 h.2⟩) (fun v w' h => h.2) ?_
  rintro v8 W8 ⟨rfl, hS8⟩
  simp only [Act.put, List.setIfInBounds_toArray, List.set_cons_succ, List.set_cons_zero]
  refine h_callE 34 16 #[PT xb] (fun v w' => v = .string (strB (rOne sAB).key) ∧ S w') rfl (by kernel_rfl) (by kernel_rfl) (x_call1 _ _ _ _ _ _ _ _ _ _ rfl rfl (enters_of Tryd.func16 (by kernel_rfl) rfl) _) ((key_any _ xb W8 (wf_one _).k (hSx _ hS8) (by have := key_one_len sAB; omega) (hSt _ hS8)).mono fun e w' h => ⟨_, h.1, rfl, hSg _ _ hS8 h.2⟩) (fun v w' h => h.2) ?_
  rintro v9 W9 ⟨rfl, hS9⟩
  simp only [Act.put, List.setIfInBounds_toArray, List.set_cons_succ, List.set_cons_zero]
  have hne : strB (rOne sA).key ≠ strB (rOne sAB).key := fun e => head3_ne (key_inj (wf_one _).k (wf_one _).k (strB_inj (key_lt256 _ (wf_one _).k) (key_lt256 _ (wf_one _).k) e))
  refine h_take 35 (.bool true) rfl (by kernel_rfl) (by kernel_rfl) (by kernel_rfl) (by kernel_rfl) (fun w hw => x_neqStr _ _ _ _ _ _ _ _ _ _ hne rfl rfl w) hS9 ?_
  simp only [Act.put, List.setIfInBounds_toArray, List.set_cons_succ, List.set_cons_zero]
  refine h_take 36 (.bool true) rfl (by kernel_rfl) (by kernel_rfl) (by kernel_rfl) (by kernel_rfl) (fun w hw => x_pick _ _ _ _ _ _ _ _ _ true _ _ rfl rfl rfl w) hS9 ?_
  simp only [Act.put, List.setIfInBounds_toArray, List.set_cons_succ, List.set_cons_zero]
  refine h_take 37 (.bool true) rfl (by kernel_rfl) (by kernel_rfl) (by kernel_rfl) (by kernel_rfl) (fun w hw => x_assign _ _ _ _ _ _ _ _ rfl w) hS9 ?_
  simp only [Act.put, List.setIfInBounds_toArray, List.set_cons_succ, List.set_cons_zero]
  refine wpAnyH_done (by kernel_rfl) ?_ _
  refine NoPanic.normal ?_
  have HB9 := hide (HB6.out.trans ((hSb _ hS9).mono HB6.out.size))
  clear hS hS3 hS4 hS5 hS6 hS7 hS8 hS9 hSb hbS hSg hSa hSx hSt hne ht he hb5
  go_wp2
  go_ret
  exact ⟨rfl, HB9.out⟩
end Go.Proofs.YtkjmjppmpcnejaaDoor
