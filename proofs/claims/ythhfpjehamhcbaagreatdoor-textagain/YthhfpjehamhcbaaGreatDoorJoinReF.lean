/- Texts of this claim put together: ReE, ReF. -/
import Derived.Test.YthhfpjehamhcbaaGreatDoorJoinMathKey
/- How expressions compare: slices.CompareFunc, compare, Same. -/
namespace Go.Proofs.YthhfpjehamhcbaaGreatDoor
set_option maxRecDepth 100000
set_option linter.unusedSimpArgs false
set_option linter.unusedVariables false
open Go.RowKit

section
variable {C : World → Prop} {ops : Array Oper} {Q : Act → Prop} {a : Act} {o : Oper} {rest : List Oper}
theorem w_callC (f : FuncId) (vs : Array Value) (v : Value) (hw : Region.wanted o (yielded ops a.tmps) = true) (h : ∀ w, (execOp a.eval o).run Tryz.prog w = .ok (.enter f vs) w)
    (hc : ∀ w, C w → Calls Tryz.prog f vs w fun e w' => e = .returned v ∧ C w') (hk : WQ ops C Q rest (a.put o.dst v)) : WQ ops C Q (o :: rest) a :=
  ⟨q_want hw fun _ hK => ⟨v, fun w hw => by unfold Oper.quietAt; rw [h w]; exact ⟨rfl, hc w hw⟩, hK _ hk.out⟩⟩
end
theorem x_call3 (ρ : Operand → Value) (d : Option Tmp) (f : FuncId) (x y z : Operand) (t t1 t2 t3 : TypeId) (pos : String) (af : Array Edge) (g : Option (Nat × Bool)) (u v s : Value) (hx : ρ x = u) (hy : ρ y = v) (hz : ρ z = s) (hfn : ρ (.func f) = .func (.func f) #[] #[]) (hf : ∀ args w, (callFunc f args).run Tryz.prog w = .ok (.enter f args) w) (w : World) :
    (execOp ρ { dst := d, op := .call { callee := .value (.func f), args := #[x, y, z], argTypes := #[t1, t2, t3] }, type := t, pos := pos, after := af, guard := g }).run Tryz.prog w = .ok (.enter f #[u, v, s]) w := by
  simp [go_sem, hfn, hx, hy, hz, hf]
theorem x_nilCheck (ρ : Operand → Value) (d : Option Tmp) (x : Operand) (t : TypeId) (pos : String) (af : Array Edge) (g : Option (Nat × Bool)) (b : Nat) (hx : ρ x = PT b) (w : World) :
    (execOp ρ { dst := d, op := .nilCheck x, type := t, pos := pos, after := af, guard := g }).run Tryz.prog w = .ok (.value (PT b)) w := by
  simp [go_sem, hx, PT]
theorem x_field0 (ρ : Operand → Value) (d : Option Tmp) (x : Operand) (t : TypeId) (pos : String) (af : Array Edge) (g : Option (Nat × Bool)) (b : Nat) (hx : ρ x = PT b) (w : World) :
    (execOp ρ { dst := d, op := .fieldAddr 77 x 0, type := t, pos := pos, after := af, guard := g }).run Tryz.prog w = .ok (.value (PT b)) w := by
  simp [go_sem, hx, PT]
theorem x_field1 (ρ : Operand → Value) (d : Option Tmp) (x : Operand) (t : TypeId) (pos : String) (af : Array Edge) (g : Option (Nat × Bool)) (b : Nat) (hx : ρ x = PT b) (w : World) :
    (execOp ρ { dst := d, op := .fieldAddr 77 x 1, type := t, pos := pos, after := af, guard := g }).run Tryz.prog w = .ok (.value (.pointer (some ⟨b, 1, none⟩))) w := by
  simp [go_sem, hx, PT]
theorem x_field2 (ρ : Operand → Value) (d : Option Tmp) (x : Operand) (t : TypeId) (pos : String) (af : Array Edge) (g : Option (Nat × Bool)) (b : Nat) (hx : ρ x = PT b) (w : World) :
    (execOp ρ { dst := d, op := .fieldAddr 77 x 2, type := t, pos := pos, after := af, guard := g }).run Tryz.prog w = .ok (.value (.pointer (some ⟨b, 5, none⟩))) w := by
  simp [go_sem, hx, PT]
theorem x_field5 (ρ : Operand → Value) (d : Option Tmp) (x : Operand) (t : TypeId) (pos : String) (af : Array Edge) (g : Option (Nat × Bool)) (b : Nat) (hx : ρ x = PT b) (w : World) :
    (execOp ρ { dst := d, op := .fieldAddr 77 x 5, type := t, pos := pos, after := af, guard := g }).run Tryz.prog w = .ok (.value (.pointer (some ⟨b, 8, none⟩))) w := by
  simp [go_sem, hx, PT]
theorem x_loadOp (ρ : Operand → Value) (d : Option Tmp) (x : Operand) (t : TypeId) (pos : String) (af : Array Edge) (g : Option (Nat × Bool)) (b n : Nat) (hx : ρ x = PT b) (w : World) (hc : w.cell? ⟨b, 0, none⟩ = some (.int .i64 n)) :
    (execOp ρ { dst := d, op := .load 75 x, type := t, pos := pos, after := af, guard := g }).run Tryz.prog w = .ok (.value (.int .i64 n)) w := by
  simp [go_sem, hx, hc, PT]
theorem x_loadKids (ρ : Operand → Value) (d : Option Tmp) (x : Operand) (t : TypeId) (pos : String) (af : Array Edge) (g : Option (Nat × Bool)) (b n : Nat) (v : Value) (hx : ρ x = .pointer (some ⟨b, n, none⟩)) (w : World) (hc : w.cell? ⟨b, n, none⟩ = some v) :
    (execOp ρ { dst := d, op := .load 52 x, type := t, pos := pos, after := af, guard := g }).run Tryz.prog w = .ok (.value v) w := by
  simp [go_sem, hx, hc]
theorem x_neqOp (ρ : Operand → Value) (d : Option Tmp) (x y : Operand) (t : TypeId) (pos : String) (af : Array Edge) (g : Option (Nat × Bool)) (u v : Int) (hx : ρ x = .int .i64 u) (hy : ρ y = .int .i64 v) (w : World) :
    (execOp ρ { dst := d, op := .binOp .neq 75 x y 75, type := t, pos := pos, after := af, guard := g }).run Tryz.prog w = .ok (.value (.bool (u != v))) w := by
  simp [go_sem, hx, hy, bne]
theorem ReAt.cell0 {w : World} {b : Nat} {r : RE} (h : ReAt w b r) : w.cell? ⟨b, 0, none⟩ = some (.int .i64 r.op) := by
  obtain ⟨v, hb, -⟩ := h.row; rw [hb.cell]; rfl
theorem ReAt.cellS {w : World} {b : Nat} {r : RE} (h : ReAt w b r) : ∀ j, j < 4 → w.cell? ⟨b, 1 + j, none⟩ = some (.int .u64 (wd r.set j)) := by
  obtain ⟨v, hb, -⟩ := h.row
  intro j hj
  rw [hb.cell]
  match j, hj with
  | 0, _ => rfl
  | 1, _ => rfl
  | 2, _ => rfl
  | 3, _ => rfl
theorem ReAt.cell8 {w : World} {b : Nat} {r : RE} (h : ReAt w b r) : w.cell? ⟨b, 8, none⟩ = some (.int .i64 r.size) := by
  obtain ⟨v, hb, -⟩ := h.row; rw [hb.cell]; rfl

/-- New memory, and draws. -/
structure More (w w' : World) : Prop where
  below : Below w.heap.size w w'
  drawn : w.drawn ≤ w'.drawn
theorem More.refl (w : World) : More w w := ⟨Below.refl _ _, Nat.le_refl _⟩
theorem More.trans {a b c : World} (h : More a b) (k : More b c) : More a c := ⟨h.below.trans (k.below.mono h.below.size), Nat.le_trans h.drawn k.drawn⟩
theorem More.drew {a b : World} (h : More a b) : More a { b with drawn := b.drawn + 1 } := ⟨⟨h.below.os, h.below.tape, h.below.output, h.below.size, h.below.block⟩, Nat.le_trans h.drawn (Nat.le_succ _)⟩
theorem TabAt.more {w w' : World} (h : TabAt w) (hm : More w w') : TabAt w' := h.agree (Agree.of_all (K := fun _ => True) hm.below) trivial

set_option maxHeartbeats 1000000 in
theorem compareFunc_any (l1 l2 : List RE) (v1 v2 : Value) (w : World) (h1 : ResRow w v1 l1) (h2 : ResRow w v2 l2) (k1 : ∀ k ∈ l1, WfK k) (k2 : ∀ k ∈ l2, WfK k)
    (hc : ∀ r ∈ l1, ∀ o b b' W, More w W → WfK r → WfK o → ReAt W b r → ReAt W b' o → Calls Tryz.prog 49 #[PT b, PT b'] W fun e w' => e = .returned (.int .i64 (lexN r.key o.key)) ∧ More W w') :
    Calls Tryz.prog 81 #[v1, v2, .func (.func 49) #[] #[]] w fun e w' => e = .returned (.int .i64 (lexN (keysL l1 ++ [0]) (keysL l2 ++ [0]))) ∧ More w w' := by
  obtain ⟨n1, a1, cap1, rfl, -⟩ := h1.at
  obtain ⟨n2, a2, cap2, rfl, -⟩ := h2.at
  have ent := enters_of Tryz.func49 (by kernel_rfl) rfl
  obtain ⟨res, hres⟩ : ∃ res, res = lexN (keysL l1 ++ [0]) (keysL l2 ++ [0]) := ⟨_, rfl⟩
  rw [← hres]
  have HR := hide hres
  clear hres
  have H1 := hide h1
  have H2 := hide h2
  clear h1 h2
  go_enter Tryz.func81, Tryz.ntmps81
  go_wp2
  go_loopw [13] (fun i wr => ∃ k : Nat, k ≤ l1.length ∧ k ≤ l2.length ∧ i = .int .i64 k ∧ Hid (res = lexN (keysL (l1.drop k) ++ [0]) (keysL (l2.drop k) ++ [0])) ∧ Hid (More w wr)) (fun i _ => l1.length - (intOf i).toNat)
  case atStart => exact ⟨0, by omega, by omega, rfl, HR, More.refl w⟩
  case round =>
    clear HR
    obtain ⟨k, hk1, hk2, rfl, HR, HM⟩ := hrel
    obtain ⟨-, a1', c1', e1, g1⟩ := (H1.out.below HM.out.below).at
    obtain ⟨rfl, rfl⟩ : a1 = a1' ∧ cap1 = c1' := by cases e1; exact ⟨rfl, rfl⟩
    obtain ⟨-, a2', c2', e2, g2⟩ := (H2.out.below HM.out.below).at
    obtain ⟨rfl, rfl⟩ : a2 = a2' ∧ cap2 = c2' := by cases e2; exact ⟨rfl, rfl⟩
    clear e1 e2
    by_cases hlt : k < l1.length
    · have hkd : decide (k < l1.length) = true := by simp [hlt]
      obtain ⟨b1, o1, p1, rfl, -, d1, r1⟩ := g1 k hlt
      unfold PT at d1
      by_cases hlt2 : k < l2.length
      · obtain ⟨b2, o2, p2, rfl, -, d2, r2⟩ := g2 k hlt2
        unfold PT at d2
        have hkd2 : decide (l2.length ≤ k) = false := by simp; omega
        have hw1 := k1 _ (List.getElem_mem hlt)
        have hw2 := k2 _ (List.getElem_mem hlt2)
        have HC := hide (keys_cons hw1 hw2 (l1.drop (k + 1)) (l2.drop (k + 1)))
        rw [List.getElem_cons_drop, List.getElem_cons_drop] at HC
        have hcc := hc _ (List.getElem_mem hlt) l2[k] p1 p2 wr HM.out hw1 hw2 r1 r2
        generalize lexN (l1[k]).key (l2[k]).key = cc at HC hcc
        clear g1 g2 r1 r2 hw1 hw2
        go_wp2_with fail
        refine hcc.mono ?_
        rintro e w1 ⟨rfl, hm⟩
        have HM2 := hide (HM.out.trans hm)
        clear hm hcc d1 d2
        by_cases h0 : cc = 0
        · subst h0
          go_wp2
          refine ⟨⟨k + 1, by omega, by omega, by go_num, ?_, HM2⟩, by simp [intOf]; omega⟩
          have := HC.out
          rw [if_pos (by trivial)] at this
          exact HR.out.trans this
        · have hd0 : (cc == 0) = false := beq_eq_false_iff_ne.2 h0
          have H0 := hide h0
          clear h0
          go_wp2
          go_ret
          have := HC.out
          rw [if_neg H0.out] at this
          exact ⟨by rw [HR.out, this]; rfl, HM2.out⟩
      · obtain rfl : k = l2.length := by omega
        have hkd2 : decide (l2.length ≤ l2.length) = true := by simp
        have HF : Hid (res = 1) := by
          have := HR.out
          rw [List.drop_length, ← List.getElem_cons_drop hlt, keys_short] at this
          exact this
        clear g1 g2 r1
        go_wp2
        go_ret
        exact ⟨by rw [HF.out]; rfl, HM.out⟩
    · obtain rfl : k = l1.length := by omega
      have HL : Hid (res = if l1.length < l2.length then -1 else 0) := by
        have := HR.out
        rw [List.drop_length] at this
        by_cases h : l1.length < l2.length
        · rw [if_pos h]
          rw [← List.getElem_cons_drop h, keys_long] at this
          exact this
        · rw [if_neg h]
          have e : l2.drop l1.length = [] := List.drop_eq_nil_of_le (by omega)
          rw [e, lexN_self] at this
          exact this
      clear g1 g2
      by_cases h : l1.length < l2.length
      · have hd : decide ((l1.length : Int) < l2.length) = true := by simp; omega
        have hd' : decide (l1.length < l2.length) = true := by simp [h]
        go_wp2
        go_ret
        exact ⟨by rw [HL.out, if_pos h]; rfl, HM.out⟩
      · have hd : decide ((l1.length : Int) < l2.length) = false := by simp; omega
        have hd' : decide (l1.length < l2.length) = false := by simp; omega
        go_wp2
        go_ret
        exact ⟨by rw [HL.out, if_neg h]; rfl, HM.out⟩

set_option maxHeartbeats 2000000 in
theorem reCompare_any (r : RE) : ∀ (o : RE) (b b' : Nat) (w : World), WfK r → WfK o → ReAt w b r → ReAt w b' o → TabAt w →
    Calls Tryz.prog 49 #[PT b, PT b'] w fun e w' => e = .returned (.int .i64 (lexN r.key o.key)) ∧ More w w' := by
  refine RE.ind (P := fun r => ∀ (o : RE) (b b' : Nat) (w : World), WfK r → WfK o → ReAt w b r → ReAt w b' o → TabAt w →
    Calls Tryz.prog 49 #[PT b, PT b'] w fun e w' => e = .returned (.int .i64 (lexN r.key o.key)) ∧ More w w') ?_ r
  intro op s ks ih o b b' w hr ho hb hb' hT
  have hkid : ∀ k ∈ (RE.mk op s ks).kids, ∀ (o : RE) (b b' : Nat) (w : World), WfK k → WfK o → ReAt w b k → ReAt w b' o → TabAt w →
    Calls Tryz.prog 49 #[PT b, PT b'] w fun e w' => e = .returned (.int .i64 (lexN k.key o.key)) ∧ More w w' := ih
  clear ih
  generalize RE.mk op s ks = r at *
  clear op s ks
  obtain ⟨res, hres⟩ : ∃ res, res = lexN r.key o.key := ⟨_, rfl⟩
  rw [← hres]
  by_cases hbb : b = b'
  · subst hbb
    obtain rfl := hb.one hb'
    rw [lexN_self] at hres
    have HR := hide hres
    have hself := ptr_same ⟨b, 0, none⟩
    clear hres
    unfold PT
    go_enter Tryz.func49, Tryz.ntmps49
    go_wp2
    go_ret
    exact ⟨by rw [HR.out]; rfl, More.refl _⟩
  · obtain ⟨v1, hk1, hrow1⟩ := hb.row
    obtain ⟨v2, hk2, hrow2⟩ := hb'.row
    have hoth := ptr_other w hbb hk1 hk2
    obtain ⟨C, hCd⟩ : ∃ C : World → Prop, C = fun W => More w W := ⟨_, rfl⟩
    have hCm : ∀ W, C W → More w W := fun W h => by rw [hCd] at h; exact h
    have hmC : ∀ W, More w W → C W := fun W h => by rw [hCd]; exact h
    have hC1 : ∀ W, C W → ReAt W b r := fun W h => hb.keep (hCm W h).below
    have hC2 : ∀ W, C W → ReAt W b' o := fun W h => hb'.keep (hCm W h).below
    have hCk1 : ∀ W, C W → W.cell? ⟨b, 5, none⟩ = some v1 := fun W h => by rw [(hk1.below (hCm W h).below hk1.lt).cell]; rfl
    have hCk2 : ∀ W, C W → W.cell? ⟨b', 5, none⟩ = some v2 := fun W h => by rw [(hk2.below (hCm W h).below hk2.lt).cell]; rfl
    have hC0 : C w := hmC _ (More.refl w)
    have hCd2 : ∀ W, C W → C { W with drawn := W.drawn + 1 } := fun W h => hmC _ (hCm W h).drew
    clear hCd hk1 hk2
    have HR := hide hres
    have HT := hide hT
    have HR1 := hide hrow1
    have HR2 := hide hrow2
    clear hres hT hrow1 hrow2
    unfold PT
    go_enter Tryz.func49, Tryz.ntmps49
    go_wp2
    rw [show Value.pointer (some ⟨b, 0, none⟩) = PT b from rfl, show Value.pointer (some ⟨b', 0, none⟩) = PT b' from rfl]
    clear hoth
    refine w_lit (C := C) (by kernel_rfl) (by kernel_rfl) (hCd2 _ hC0) ?_
    refine w_value (PT b) (by kernel_rfl) (fun w hw => x_move _ _ _ _ _ _ _ _ rfl w) ?_
    simp only [Act.put, List.setIfInBounds_toArray, List.set_cons_succ, List.set_cons_zero]
    refine w_value (PT b) (by kernel_rfl) (fun w hw => x_nilCheck _ _ _ _ _ _ _ _ rfl w) ?_
    simp only [Act.put, List.setIfInBounds_toArray, List.set_cons_succ, List.set_cons_zero]
    refine w_value (PT b) (by kernel_rfl) (fun w hw => x_field0 _ _ _ _ _ _ _ _ rfl w) ?_
    simp only [Act.put, List.setIfInBounds_toArray, List.set_cons_succ, List.set_cons_zero]
    refine w_value (.int .i64 r.op) (by kernel_rfl) (fun w hw => x_loadOp _ _ _ _ _ _ _ _ _ rfl w (hC1 w hw).cell0) ?_
    simp only [Act.put, List.setIfInBounds_toArray, List.set_cons_succ, List.set_cons_zero]
    refine w_value (PT b') (by kernel_rfl) (fun w hw => x_move _ _ _ _ _ _ _ _ rfl w) ?_
    simp only [Act.put, List.setIfInBounds_toArray, List.set_cons_succ, List.set_cons_zero]
    refine w_value (PT b') (by kernel_rfl) (fun w hw => x_nilCheck _ _ _ _ _ _ _ _ rfl w) ?_
    simp only [Act.put, List.setIfInBounds_toArray, List.set_cons_succ, List.set_cons_zero]
    refine w_value (PT b') (by kernel_rfl) (fun w hw => x_field0 _ _ _ _ _ _ _ _ rfl w) ?_
    simp only [Act.put, List.setIfInBounds_toArray, List.set_cons_succ, List.set_cons_zero]
    refine w_value (.int .i64 o.op) (by kernel_rfl) (fun w hw => x_loadOp _ _ _ _ _ _ _ _ _ rfl w (hC2 w hw).cell0) ?_
    simp only [Act.put, List.setIfInBounds_toArray, List.set_cons_succ, List.set_cons_zero]
    refine w_value (.bool ((r.op : Int) != (o.op : Int))) (by kernel_rfl) (fun w hw => x_neqOp _ _ _ _ _ _ _ _ _ _ rfl rfl w) ?_
    simp only [Act.put, List.setIfInBounds_toArray, List.set_cons_succ, List.set_cons_zero]
    refine w_nil ?_
    clear hC0
    intro w1 hC0
    by_cases hop : r.op = o.op
    · rw [show ((r.op : Int) != (o.op : Int)) = false from by simp [hop]]
      go_wp2
      refine w_lit (C := C) (by kernel_rfl) (by kernel_rfl) (hCd2 _ hC0) ?_
      refine w_value (PT b) (by kernel_rfl) (fun w hw => x_move _ _ _ _ _ _ _ _ rfl w) ?_
      simp only [Act.put, List.setIfInBounds_toArray, List.set_cons_succ, List.set_cons_zero]
      refine w_value (PT b) (by kernel_rfl) (fun w hw => x_nilCheck _ _ _ _ _ _ _ _ rfl w) ?_
      simp only [Act.put, List.setIfInBounds_toArray, List.set_cons_succ, List.set_cons_zero]
      refine w_value (.pointer (some ⟨b, 1, none⟩)) (by kernel_rfl) (fun w hw => x_field1 _ _ _ _ _ _ _ _ rfl w) ?_
      simp only [Act.put, List.setIfInBounds_toArray, List.set_cons_succ, List.set_cons_zero]
      refine w_value (SV r.set) (by kernel_rfl) (fun w hw => x_loadAt _ _ _ _ _ _ _ _ _ _ rfl w (hC1 w hw).cellS) ?_
      simp only [Act.put, List.setIfInBounds_toArray, List.set_cons_succ, List.set_cons_zero]
      refine w_value (PT b') (by kernel_rfl) (fun w hw => x_move _ _ _ _ _ _ _ _ rfl w) ?_
      simp only [Act.put, List.setIfInBounds_toArray, List.set_cons_succ, List.set_cons_zero]
      refine w_value (PT b') (by kernel_rfl) (fun w hw => x_nilCheck _ _ _ _ _ _ _ _ rfl w) ?_
      simp only [Act.put, List.setIfInBounds_toArray, List.set_cons_succ, List.set_cons_zero]
      refine w_value (.pointer (some ⟨b', 1, none⟩)) (by kernel_rfl) (fun w hw => x_field1 _ _ _ _ _ _ _ _ rfl w) ?_
      simp only [Act.put, List.setIfInBounds_toArray, List.set_cons_succ, List.set_cons_zero]
      refine w_value (SV o.set) (by kernel_rfl) (fun w hw => x_loadAt _ _ _ _ _ _ _ _ _ _ rfl w (hC2 w hw).cellS) ?_
      simp only [Act.put, List.setIfInBounds_toArray, List.set_cons_succ, List.set_cons_zero]
      refine w_value (.bool (r.set != o.set)) (by kernel_rfl) (fun w hw => x_neqS _ _ _ _ _ _ _ _ _ _ rfl rfl w) ?_
      simp only [Act.put, List.setIfInBounds_toArray, List.set_cons_succ, List.set_cons_zero]
      refine w_nil ?_
      clear hC0
      intro w1 hC0
      by_cases hset : r.set = o.set
      · rw [show (r.set != o.set) = false from by simp [hset]]
        have HK := hide (key_kids hop hset)
        go_wp2
        refine w_lit (C := C) (by kernel_rfl) (by kernel_rfl) (hCd2 _ hC0) ?_
        refine w_value (PT b) (by kernel_rfl) (fun w hw => x_move _ _ _ _ _ _ _ _ rfl w) ?_
        simp only [Act.put, List.setIfInBounds_toArray, List.set_cons_succ, List.set_cons_zero]
        refine w_value (PT b) (by kernel_rfl) (fun w hw => x_nilCheck _ _ _ _ _ _ _ _ rfl w) ?_
        simp only [Act.put, List.setIfInBounds_toArray, List.set_cons_succ, List.set_cons_zero]
        refine w_value (.pointer (some ⟨b, 5, none⟩)) (by kernel_rfl) (fun w hw => x_field2 _ _ _ _ _ _ _ _ rfl w) ?_
        simp only [Act.put, List.setIfInBounds_toArray, List.set_cons_succ, List.set_cons_zero]
        refine w_value (v1) (by kernel_rfl) (fun w hw => x_loadKids _ _ _ _ _ _ _ _ _ _ rfl w (hCk1 w hw)) ?_
        simp only [Act.put, List.setIfInBounds_toArray, List.set_cons_succ, List.set_cons_zero]
        refine w_value (PT b') (by kernel_rfl) (fun w hw => x_move _ _ _ _ _ _ _ _ rfl w) ?_
        simp only [Act.put, List.setIfInBounds_toArray, List.set_cons_succ, List.set_cons_zero]
        refine w_value (PT b') (by kernel_rfl) (fun w hw => x_nilCheck _ _ _ _ _ _ _ _ rfl w) ?_
        simp only [Act.put, List.setIfInBounds_toArray, List.set_cons_succ, List.set_cons_zero]
        refine w_value (.pointer (some ⟨b', 5, none⟩)) (by kernel_rfl) (fun w hw => x_field2 _ _ _ _ _ _ _ _ rfl w) ?_
        simp only [Act.put, List.setIfInBounds_toArray, List.set_cons_succ, List.set_cons_zero]
        refine w_value (v2) (by kernel_rfl) (fun w hw => x_loadKids _ _ _ _ _ _ _ _ _ _ rfl w (hCk2 w hw)) ?_
        simp only [Act.put, List.setIfInBounds_toArray, List.set_cons_succ, List.set_cons_zero]
        refine w_callC 81 #[v1, v2, .func (.func 49) #[] #[]] (.int .i64 (lexN (keysL r.kids ++ [0]) (keysL o.kids ++ [0]))) (by kernel_rfl) (x_call3 _ _ _ _ _ _ _ _ _ _ _ _ _ _ _ _ rfl rfl rfl rfl (enters_of Tryz.func81 (by kernel_rfl) rfl))
          (fun W hW => (compareFunc_any r.kids o.kids v1 v2 W (HR1.out.below (hCm W hW).below) (HR2.out.below (hCm W hW).below) (by rw [r.eta] at hr; exact hr.kid) (by rw [o.eta] at ho; exact ho.kid)
            (fun k hk o b b' W' hm h1 h2 h3 h4 => hkid k hk o b b' W' h1 h2 h3 h4 (HT.out.more ((hCm W hW).trans hm)))).mono fun e w' h => ⟨h.1, hmC _ ((hCm W hW).trans h.2)⟩) ?_
        simp only [Act.put, List.setIfInBounds_toArray, List.set_cons_succ, List.set_cons_zero]
        refine w_value (.int .i64 (lexN (keysL r.kids ++ [0]) (keysL o.kids ++ [0]))) (by kernel_rfl) (fun w hw => x_assign _ _ _ _ _ _ _ _ rfl w) ?_
        simp only [Act.put, List.setIfInBounds_toArray, List.set_cons_succ, List.set_cons_zero]
        refine w_nil ?_
        clear hC0
        intro w1 hC0
        have HM := hide (hCm _ hC0)
        clear hC0 hCm hmC hC1 hC2 hCk1 hCk2 hCd2 hkid
        go_wp2
        go_ret
        exact ⟨by rw [HR.out, HK.out]; rfl, HM.out⟩
      · rw [show (r.set != o.set) = true from by simp [hset]]
        have HK := hide (key_set hr ho hop hset)
        go_wp2
        refine w_lit (C := C) (by kernel_rfl) (by kernel_rfl) (hCd2 _ hC0) ?_
        refine w_value (PT b) (by kernel_rfl) (fun w hw => x_move _ _ _ _ _ _ _ _ rfl w) ?_
        simp only [Act.put, List.setIfInBounds_toArray, List.set_cons_succ, List.set_cons_zero]
        refine w_value (PT b) (by kernel_rfl) (fun w hw => x_nilCheck _ _ _ _ _ _ _ _ rfl w) ?_
        simp only [Act.put, List.setIfInBounds_toArray, List.set_cons_succ, List.set_cons_zero]
        refine w_value (.pointer (some ⟨b, 1, none⟩)) (by kernel_rfl) (fun w hw => x_field1 _ _ _ _ _ _ _ _ rfl w) ?_
        simp only [Act.put, List.setIfInBounds_toArray, List.set_cons_succ, List.set_cons_zero]
        refine w_value (SV r.set) (by kernel_rfl) (fun w hw => x_loadAt _ _ _ _ _ _ _ _ _ _ rfl w (hC1 w hw).cellS) ?_
        simp only [Act.put, List.setIfInBounds_toArray, List.set_cons_succ, List.set_cons_zero]
        refine w_value (PT b') (by kernel_rfl) (fun w hw => x_move _ _ _ _ _ _ _ _ rfl w) ?_
        simp only [Act.put, List.setIfInBounds_toArray, List.set_cons_succ, List.set_cons_zero]
        refine w_value (PT b') (by kernel_rfl) (fun w hw => x_nilCheck _ _ _ _ _ _ _ _ rfl w) ?_
        simp only [Act.put, List.setIfInBounds_toArray, List.set_cons_succ, List.set_cons_zero]
        refine w_value (.pointer (some ⟨b', 1, none⟩)) (by kernel_rfl) (fun w hw => x_field1 _ _ _ _ _ _ _ _ rfl w) ?_
        simp only [Act.put, List.setIfInBounds_toArray, List.set_cons_succ, List.set_cons_zero]
        refine w_value (SV o.set) (by kernel_rfl) (fun w hw => x_loadAt _ _ _ _ _ _ _ _ _ _ rfl w (hC2 w hw).cellS) ?_
        simp only [Act.put, List.setIfInBounds_toArray, List.set_cons_succ, List.set_cons_zero]
        refine w_callC 80 #[SV r.set, SV o.set] (.int .i64 (lexN (rnB (runsOf r.set)) (rnB (runsOf o.set)))) (by kernel_rfl) (x_call2 _ _ _ _ _ _ _ _ _ _ _ _ _ rfl rfl rfl (enters_of Tryz.func80 (by kernel_rfl) rfl))
          (fun W hW => (compareSets_any r.set o.set W (HT.out.more (hCm W hW))).mono fun e w' h => ⟨h.1, hmC _ ((hCm W hW).trans ⟨h.2.1, h.2.2⟩)⟩) ?_
        simp only [Act.put, List.setIfInBounds_toArray, List.set_cons_succ, List.set_cons_zero]
        refine w_value (.int .i64 (lexN (rnB (runsOf r.set)) (rnB (runsOf o.set)))) (by kernel_rfl) (fun w hw => x_assign _ _ _ _ _ _ _ _ rfl w) ?_
        simp only [Act.put, List.setIfInBounds_toArray, List.set_cons_succ, List.set_cons_zero]
        refine w_nil ?_
        clear hC0
        intro w1 hC0
        have HM := hide (hCm _ hC0)
        clear hC0 hCm hmC hC1 hC2 hCk1 hCk2 hCd2 hkid
        go_wp2
        go_ret
        exact ⟨by rw [HR.out, HK.out]; rfl, HM.out⟩
    · rw [show ((r.op : Int) != (o.op : Int)) = true from by simp; omega]
      have HK := hide (key_op hop)
      go_wp2
      refine w_lit (C := C) (by kernel_rfl) (by kernel_rfl) (hCd2 _ hC0) ?_
      refine w_value (PT b) (by kernel_rfl) (fun w hw => x_move _ _ _ _ _ _ _ _ rfl w) ?_
      simp only [Act.put, List.setIfInBounds_toArray, List.set_cons_succ, List.set_cons_zero]
      refine w_value (PT b) (by kernel_rfl) (fun w hw => x_nilCheck _ _ _ _ _ _ _ _ rfl w) ?_
      simp only [Act.put, List.setIfInBounds_toArray, List.set_cons_succ, List.set_cons_zero]
      refine w_value (PT b) (by kernel_rfl) (fun w hw => x_field0 _ _ _ _ _ _ _ _ rfl w) ?_
      simp only [Act.put, List.setIfInBounds_toArray, List.set_cons_succ, List.set_cons_zero]
      refine w_value (.int .i64 r.op) (by kernel_rfl) (fun w hw => x_loadOp _ _ _ _ _ _ _ _ _ rfl w (hC1 w hw).cell0) ?_
      simp only [Act.put, List.setIfInBounds_toArray, List.set_cons_succ, List.set_cons_zero]
      refine w_value (PT b') (by kernel_rfl) (fun w hw => x_move _ _ _ _ _ _ _ _ rfl w) ?_
      simp only [Act.put, List.setIfInBounds_toArray, List.set_cons_succ, List.set_cons_zero]
      refine w_value (PT b') (by kernel_rfl) (fun w hw => x_nilCheck _ _ _ _ _ _ _ _ rfl w) ?_
      simp only [Act.put, List.setIfInBounds_toArray, List.set_cons_succ, List.set_cons_zero]
      refine w_value (PT b') (by kernel_rfl) (fun w hw => x_field0 _ _ _ _ _ _ _ _ rfl w) ?_
      simp only [Act.put, List.setIfInBounds_toArray, List.set_cons_succ, List.set_cons_zero]
      refine w_value (.int .i64 o.op) (by kernel_rfl) (fun w hw => x_loadOp _ _ _ _ _ _ _ _ _ rfl w (hC2 w hw).cell0) ?_
      simp only [Act.put, List.setIfInBounds_toArray, List.set_cons_succ, List.set_cons_zero]
      refine w_callC 79 #[.int .i64 r.op, .int .i64 o.op] (.int .i64 (cmpN r.op o.op)) (by kernel_rfl) (x_call2 _ _ _ _ _ _ _ _ _ _ _ _ _ rfl rfl rfl (enters_of Tryz.func79 (by kernel_rfl) rfl))
          (fun W hW => (compareOp_any r.op o.op W).mono fun e w' h => ⟨h.1, h.2 ▸ hW⟩) ?_
      simp only [Act.put, List.setIfInBounds_toArray, List.set_cons_succ, List.set_cons_zero]
      refine w_value (.int .i64 (cmpN r.op o.op)) (by kernel_rfl) (fun w hw => x_assign _ _ _ _ _ _ _ _ rfl w) ?_
      simp only [Act.put, List.setIfInBounds_toArray, List.set_cons_succ, List.set_cons_zero]
      refine w_nil ?_
      clear hC0
      intro w1 hC0
      have HM := hide (hCm _ hC0)
      clear hC0 hCm hmC hC1 hC2 hCk1 hCk2 hCd2 hkid
      go_wp2
      go_ret
      exact ⟨by rw [HR.out, HK.out]; rfl, HM.out⟩

theorem ptr_nsame (a : Addr) (w : World) : (binOp .neq 26 (.pointer (some a)) (.pointer (some a))).run Tryz.prog w = .ok (.bool false) w := by
  have h := ptr_same a w
  simp only [binOp, Sem.run_bind] at h ⊢
  cases e : (Op.equal 26 (.pointer (some a)) (.pointer (some a))).run Tryz.prog w with
  | ok v w' =>
    rw [e] at h
    simp [Result.andThen] at h
    simp [Result.andThen, h.1, h.2]
  | _ => rw [e] at h; simp [Result.andThen] at h
theorem x_eqIntC (ρ : Operand → Value) (d : Option Tmp) (x : Operand) (n : Int) (t : TypeId) (pos : String) (af : Array Edge) (g : Option (Nat × Bool)) (u : Int) (hx : ρ x = .int .i64 u) (hy : ρ (.const (.int .i64 n)) = .int .i64 n) (w : World) :
    (execOp ρ { dst := d, op := .binOp .eql 3 x (.const (.int .i64 n)) 3, type := t, pos := pos, after := af, guard := g }).run Tryz.prog w = .ok (.value (.bool (u == n))) w := by
  simp [go_sem, hx, hy]
theorem x_eqIntB (ρ : Operand → Value) (d : Option Tmp) (x y : Operand) (t : TypeId) (pos : String) (af : Array Edge) (g : Option (Nat × Bool)) (u v : Int) (c : Bool) (hc : (u == v) = c) (hx : ρ x = .int .i64 u) (hy : ρ y = .int .i64 v) (w : World) :
    (execOp ρ { dst := d, op := .binOp .eql 3 x y 3, type := t, pos := pos, after := af, guard := g }).run Tryz.prog w = .ok (.value (.bool c)) w := by
  rw [← hc]; exact x_eqInt ρ d x y t pos af g u v hx hy w
theorem x_loadSize (ρ : Operand → Value) (d : Option Tmp) (x : Operand) (t : TypeId) (pos : String) (af : Array Edge) (g : Option (Nat × Bool)) (b o : Nat) (n : Int) (hx : ρ x = .pointer (some ⟨b, o, none⟩)) (w : World) (hc : w.cell? ⟨b, o, none⟩ = some (.int .i64 n)) :
    (execOp ρ { dst := d, op := .load 3 x, type := t, pos := pos, after := af, guard := g }).run Tryz.prog w = .ok (.value (.int .i64 n)) w := by
  simp [go_sem, hx, hc]

set_option maxHeartbeats 1000000 in
theorem same_re (r o : RE) (b b' : Nat) (w : World) (hr : WfK r) (ho : WfK o) (hb : ReAt w b r) (hb' : ReAt w b' o) (hT : TabAt w) :
    Calls Tryz.prog 16 #[PT b, PT b'] w fun e w' => e = .returned (.bool (lexN r.key o.key == 0)) ∧ More w w' := by
  obtain ⟨v1, hk1, -⟩ := hb.row
  obtain ⟨v2, hk2, -⟩ := hb'.row
  have c6 := hk1.cell 6
  have d6 := hk2.cell 6
  simp only [reC, List.getElem?_toArray, List.getElem?_cons_zero, List.getElem?_cons_succ, PT] at c6 d6
  have hs1 := ptr_nsame ⟨b, 0, none⟩
  have hs2 := ptr_nsame ⟨b', 0, none⟩
  obtain ⟨C, hCd⟩ : ∃ C : World → Prop, C = fun W => More w W := ⟨_, rfl⟩
  have hCm : ∀ W, C W → More w W := fun W h => by rw [hCd] at h; exact h
  have hmC : ∀ W, More w W → C W := fun W h => by rw [hCd]; exact h
  have hC1 : ∀ W, C W → ReAt W b r := fun W h => hb.keep (hCm W h).below
  have hC2 : ∀ W, C W → ReAt W b' o := fun W h => hb'.keep (hCm W h).below
  have hC0 : C { w with drawn := w.drawn + 1 } := hmC _ (More.refl w).drew
  have hsz : r.size ≠ o.size → (lexN r.key o.key == 0) = false := fun h => beq_eq_false_iff_ne.2 fun e => h (by rw [key_inj hr ho (lexN_zero _ _ e)])
  obtain ⟨res, hres⟩ : ∃ res, res = (lexN r.key o.key == 0) := ⟨_, rfl⟩
  rw [← hres] at hsz ⊢
  have HR := hide hres
  have HZ := hide hsz
  have HT := hide hT
  clear hCd hk1 hk2 hres hsz hT
  unfold PT
  go_enter Tryz.func16, Tryz.ntmps16
  go_wp2
  rw [show Value.pointer (some ⟨b, 0, none⟩) = PT b from rfl, show Value.pointer (some ⟨b', 0, none⟩) = PT b' from rfl]
  clear hs1 hs2 c6 d6
  refine w_lit (C := C) (by kernel_rfl) (by kernel_rfl) hC0 ?_
  refine w_value (PT b) (by kernel_rfl) (fun w hw => x_move _ _ _ _ _ _ _ _ rfl w) ?_
  simp only [Act.put, List.setIfInBounds_toArray, List.set_cons_succ, List.set_cons_zero]
  refine w_value (PT b) (by kernel_rfl) (fun w hw => x_nilCheck _ _ _ _ _ _ _ _ rfl w) ?_
  simp only [Act.put, List.setIfInBounds_toArray, List.set_cons_succ, List.set_cons_zero]
  refine w_value (.pointer (some ⟨b, 8, none⟩)) (by kernel_rfl) (fun w hw => x_field5 _ _ _ _ _ _ _ _ rfl w) ?_
  simp only [Act.put, List.setIfInBounds_toArray, List.set_cons_succ, List.set_cons_zero]
  refine w_value (.int .i64 r.size) (by kernel_rfl) (fun w hw => x_loadSize _ _ _ _ _ _ _ _ _ _ rfl w (hC1 w hw).cell8) ?_
  simp only [Act.put, List.setIfInBounds_toArray, List.set_cons_succ, List.set_cons_zero]
  refine w_value (PT b') (by kernel_rfl) (fun w hw => x_move _ _ _ _ _ _ _ _ rfl w) ?_
  simp only [Act.put, List.setIfInBounds_toArray, List.set_cons_succ, List.set_cons_zero]
  refine w_value (PT b') (by kernel_rfl) (fun w hw => x_nilCheck _ _ _ _ _ _ _ _ rfl w) ?_
  simp only [Act.put, List.setIfInBounds_toArray, List.set_cons_succ, List.set_cons_zero]
  refine w_value (.pointer (some ⟨b', 8, none⟩)) (by kernel_rfl) (fun w hw => x_field5 _ _ _ _ _ _ _ _ rfl w) ?_
  simp only [Act.put, List.setIfInBounds_toArray, List.set_cons_succ, List.set_cons_zero]
  refine w_value (.int .i64 o.size) (by kernel_rfl) (fun w hw => x_loadSize _ _ _ _ _ _ _ _ _ _ rfl w (hC2 w hw).cell8) ?_
  simp only [Act.put, List.setIfInBounds_toArray, List.set_cons_succ, List.set_cons_zero]
  by_cases hz : r.size = o.size
  · refine w_value (.bool true) (by kernel_rfl) (fun w hw => x_eqIntB _ _ _ _ _ _ _ _ (r.size : Int) (o.size : Int) true (by simp [hz]) rfl rfl w) ?_
    simp only [Act.put, List.setIfInBounds_toArray, List.set_cons_succ, List.set_cons_zero]
    refine w_value (.bool true) (by kernel_rfl) (fun w hw => x_move _ _ _ _ _ _ _ _ rfl w) ?_
    simp only [Act.put, List.setIfInBounds_toArray, List.set_cons_succ, List.set_cons_zero]
    refine w_value (PT b) (by kernel_rfl) (fun w hw => x_move _ _ _ _ _ _ _ _ rfl w) ?_
    simp only [Act.put, List.setIfInBounds_toArray, List.set_cons_succ, List.set_cons_zero]
    refine w_value (PT b') (by kernel_rfl) (fun w hw => x_move _ _ _ _ _ _ _ _ rfl w) ?_
    simp only [Act.put, List.setIfInBounds_toArray, List.set_cons_succ, List.set_cons_zero]
    refine w_callC 49 #[PT b, PT b'] (.int .i64 (lexN r.key o.key)) (by kernel_rfl) (x_call2 _ _ _ _ _ _ _ _ _ _ _ _ _ rfl rfl rfl (enters_of Tryz.func49 (by kernel_rfl) rfl))
      (fun W hW => (reCompare_any r o b b' W hr ho (hC1 W hW) (hC2 W hW) (HT.out.more (hCm W hW))).mono fun e w' h => ⟨h.1, hmC _ ((hCm W hW).trans h.2)⟩) ?_
    simp only [Act.put, List.setIfInBounds_toArray, List.set_cons_succ, List.set_cons_zero]
    refine w_value (.bool (lexN r.key o.key == 0)) (by kernel_rfl) (fun w hw => x_eqIntC _ _ _ _ _ _ _ _ _ rfl rfl w) ?_
    simp only [Act.put, List.setIfInBounds_toArray, List.set_cons_succ, List.set_cons_zero]
    refine w_value (.bool (lexN r.key o.key == 0)) (by kernel_rfl) (fun w hw => x_pick _ _ _ _ _ _ _ _ _ true _ _ rfl rfl rfl w) ?_
    simp only [Act.put, List.setIfInBounds_toArray, List.set_cons_succ, List.set_cons_zero]
    refine w_value (.bool (lexN r.key o.key == 0)) (by kernel_rfl) (fun w hw => x_assign _ _ _ _ _ _ _ _ rfl w) ?_
    simp only [Act.put, List.setIfInBounds_toArray, List.set_cons_succ, List.set_cons_zero]
    refine w_nil ?_
    intro w1 hC1'
    have HM := hide (hCm _ hC1')
    clear hC0 hCm hmC hC1 hC2 hC1'
    go_wp2
    go_ret
    exact ⟨by rw [HR.out]; rfl, HM.out⟩
  · refine w_value (.bool false) (by kernel_rfl) (fun w hw => x_eqIntB _ _ _ _ _ _ _ _ (r.size : Int) (o.size : Int) false (beq_eq_false_iff_ne.2 (by omega)) rfl rfl w) ?_
    simp only [Act.put, List.setIfInBounds_toArray, List.set_cons_succ, List.set_cons_zero]
    refine w_value (.bool false) (by kernel_rfl) (fun w hw => x_move _ _ _ _ _ _ _ _ rfl w) ?_
    simp only [Act.put, List.setIfInBounds_toArray, List.set_cons_succ, List.set_cons_zero]
    refine w_skip (by kernel_rfl) ?_
    simp only [Act.put, List.setIfInBounds_toArray, List.set_cons_succ, List.set_cons_zero]
    refine w_skip (by kernel_rfl) ?_
    simp only [Act.put, List.setIfInBounds_toArray, List.set_cons_succ, List.set_cons_zero]
    refine w_skip (by kernel_rfl) ?_
    simp only [Act.put, List.setIfInBounds_toArray, List.set_cons_succ, List.set_cons_zero]
    refine w_skip (by kernel_rfl) ?_
    simp only [Act.put, List.setIfInBounds_toArray, List.set_cons_succ, List.set_cons_zero]
    refine w_value (.bool false) (by kernel_rfl) (fun w hw => x_pick _ _ _ _ _ _ _ _ _ false _ _ rfl rfl rfl w) ?_
    simp only [Act.put, List.setIfInBounds_toArray, List.set_cons_succ, List.set_cons_zero]
    refine w_value (.bool false) (by kernel_rfl) (fun w hw => x_assign _ _ _ _ _ _ _ _ rfl w) ?_
    simp only [Act.put, List.setIfInBounds_toArray, List.set_cons_succ, List.set_cons_zero]
    refine w_nil ?_
    intro w1 hC1'
    have HM := hide (hCm _ hC1')
    clear hC0 hCm hmC hC1 hC2 hC1'
    go_wp2
    go_ret
    exact ⟨by rw [HZ.out hz]; rfl, HM.out⟩
end Go.Proofs.YthhfpjehamhcbaaGreatDoor
/- Blocks that an expression doesn't read. -/
namespace Go.Proofs.YthhfpjehamhcbaaGreatDoor
set_option maxRecDepth 100000
set_option linter.unusedSimpArgs false
set_option linter.unusedVariables false
open Go.RowKit

/-- An expression stays where the blocks that it reads stay. -/
theorem ReAt.via {w w' : World} {b : Nat} {r : RE} (h : ReAt w b r) (hs : w.heap.size ≤ w'.heap.size) (hc : ∀ a : Addr, (w.cell? a).isSome = true → w'.heap[a.block]? = w.heap[a.block]?) : ReAt w' b r := by
  induction h with
  | mk b o s ks v bs blk row kid ih =>
    refine .mk b o s ks v bs ((hc ⟨b, 0, none⟩ (by rw [blk.cell]; rfl)).trans blk) ?_ ih
    obtain ⟨h1, a, cap, rfl, h2⟩ := row
    refine ⟨h1, a, cap, rfl, fun k hk => ?_⟩
    obtain ⟨b', off, e, hlt, hcell⟩ := h2 k hk
    refine ⟨b', off, e, Nat.lt_of_lt_of_le hlt hs, ?_⟩
    rw [← hcell]
    exact World.cell?_of_block (w := w) (hc ⟨b', off + k, none⟩ (by rw [hcell]; rfl))
/-- The world without what one block holds. -/
def wipe (w : World) (blk : Nat) : World := w.putObj blk (.cells #[] 0)
theorem wipe_size (w : World) (blk : Nat) : (wipe w blk).heap.size = w.heap.size := World.putObj_size
theorem wipe_cell {w : World} {blk : Nat} (hb : blk < w.heap.size) {a : Addr} (h : ((wipe w blk).cell? a).isSome = true) : a.block ≠ blk := by
  intro e
  have hk : Blk (wipe w blk) blk #[] 0 := by
    unfold Blk wipe World.putObj
    simp [hb]
  unfold World.cell? at h
  rw [e, hk.of_cells] at h
  simp at h
theorem wipe_other {w : World} {blk k : Nat} (h : k ≠ blk) : (wipe w blk).heap[k]? = w.heap[k]? := World.putObj_heap_other h
/-- What does not read a block lies in every world that differs there alone. -/
theorem ReAt.unwipe {w w' : World} {blk b : Nat} {r : RE} (h : ReAt (wipe w blk) b r) (hb : blk < w.heap.size) (hs : w.heap.size ≤ w'.heap.size) (hk : ∀ k, k < w.heap.size → k ≠ blk → w'.heap[k]? = w.heap[k]?) : ReAt w' b r := by
  refine h.via (by rw [wipe_size]; exact hs) fun a ha => ?_
  have hne := wipe_cell hb ha
  rw [wipe_other hne]
  by_cases hl : a.block < w.heap.size
  · exact hk _ hl hne
  · exfalso
    unfold World.cell? at ha
    rw [wipe_other hne, Array.getElem?_eq_none (by omega)] at ha
    simp at ha
theorem ReAt.rewipe {w w' : World} {blk b : Nat} {r : RE} (h : ReAt (wipe w blk) b r) (hb : blk < w.heap.size) (hs : w.heap.size ≤ w'.heap.size) (hk : ∀ k, k < w.heap.size → k ≠ blk → w'.heap[k]? = w.heap[k]?) : ReAt (wipe w' blk) b r :=
  h.unwipe hb (by rw [wipe_size]; exact hs) fun k hl hne => by rw [wipe_other hne]; exact hk k hl hne

/-- Pointers to expressions in a block of their own, which the expressions don't read. -/
structure PtrsIn (w : World) (blk : Nat) (ps : List (Nat × RE)) : Prop where
  lt : blk < w.heap.size
  cell : ∀ j p, ps[j]? = some p → w.cell? ⟨blk, j, none⟩ = some (PT p.1) ∧ w.frozen? ⟨blk, j, none⟩ = false
  elem : ∀ p ∈ ps, ReAt (wipe w blk) p.1 p.2 ∧ WfK p.2

end Go.Proofs.YthhfpjehamhcbaaGreatDoor
