/- Texts of this claim put together: ReE, ReF, Grow, ReG, ReH, MathOrd, ReI. -/
import Derived.Test.YthemadegffhmfaaDoorJoinMathKey
import Derived.Test.YthemadegffhmfaaDoorJoinSetD
import Derived.Sort.Grow
import Derived.Deep.Draws
import Derived.Shelf.SlSortCmp.Whole1
import Derived.Shelf.SlGeneric
import Derived.Lib.SliceRun
/- How expressions compare: slices.CompareFunc, compare, Same. -/
namespace Go.Proofs.YthemadegffhmfaaDoor
set_option maxRecDepth 100000
set_option linter.unusedSimpArgs false
set_option linter.unusedVariables false
open Go.RowKit

section
variable {C : World → Prop} {ops : Array Oper} {Q : Act → Prop} {a : Act} {o : Oper} {rest : List Oper}
theorem w_callC (f : FuncId) (vs : Array Value) (v : Value) (hw : Region.wanted o (yielded ops a.tmps) = true) (h : ∀ w, (execOp a.eval o).run Tryd.prog w = .ok (.enter f vs) w)
    (hc : ∀ w, C w → Calls Tryd.prog f vs w fun e w' => e = .returned v ∧ C w') (hk : WQ ops C Q rest (a.put o.dst v)) : WQ ops C Q (o :: rest) a :=
  ⟨q_want hw fun _ hK => ⟨v, fun w hw => by unfold Oper.quietAt; rw [h w]; exact ⟨rfl, hc w hw⟩, hK _ hk.out⟩⟩
end
theorem x_call3 (ρ : Operand → Value) (d : Option Tmp) (f : FuncId) (x y z : Operand) (t t1 t2 t3 : TypeId) (pos : String) (af : Array Edge) (g : Option (Nat × Bool)) (u v s : Value) (hx : ρ x = u) (hy : ρ y = v) (hz : ρ z = s) (hfn : ρ (.func f) = .func (.func f) #[] #[]) (hf : ∀ args w, (callFunc f args).run Tryd.prog w = .ok (.enter f args) w) (w : World) :
    (execOp ρ { dst := d, op := .call { callee := .value (.func f), args := #[x, y, z], argTypes := #[t1, t2, t3] }, type := t, pos := pos, after := af, guard := g }).run Tryd.prog w = .ok (.enter f #[u, v, s]) w := by
  simp [go_sem, hfn, hx, hy, hz, hf]
theorem x_nilCheck (ρ : Operand → Value) (d : Option Tmp) (x : Operand) (t : TypeId) (pos : String) (af : Array Edge) (g : Option (Nat × Bool)) (b : Nat) (hx : ρ x = PT b) (w : World) :
    (execOp ρ { dst := d, op := .nilCheck x, type := t, pos := pos, after := af, guard := g }).run Tryd.prog w = .ok (.value (PT b)) w := by
  simp [go_sem, hx, PT]
theorem x_field0 (ρ : Operand → Value) (d : Option Tmp) (x : Operand) (t : TypeId) (pos : String) (af : Array Edge) (g : Option (Nat × Bool)) (b : Nat) (hx : ρ x = PT b) (w : World) :
    (execOp ρ { dst := d, op := .fieldAddr 41 x 0, type := t, pos := pos, after := af, guard := g }).run Tryd.prog w = .ok (.value (PT b)) w := by
  simp [go_sem, hx, PT]
theorem x_field1 (ρ : Operand → Value) (d : Option Tmp) (x : Operand) (t : TypeId) (pos : String) (af : Array Edge) (g : Option (Nat × Bool)) (b : Nat) (hx : ρ x = PT b) (w : World) :
    (execOp ρ { dst := d, op := .fieldAddr 41 x 1, type := t, pos := pos, after := af, guard := g }).run Tryd.prog w = .ok (.value (.pointer (some ⟨b, 1, none⟩))) w := by
  simp [go_sem, hx, PT]
theorem x_field2 (ρ : Operand → Value) (d : Option Tmp) (x : Operand) (t : TypeId) (pos : String) (af : Array Edge) (g : Option (Nat × Bool)) (b : Nat) (hx : ρ x = PT b) (w : World) :
    (execOp ρ { dst := d, op := .fieldAddr 41 x 2, type := t, pos := pos, after := af, guard := g }).run Tryd.prog w = .ok (.value (.pointer (some ⟨b, 5, none⟩))) w := by
  simp [go_sem, hx, PT]
theorem x_field5 (ρ : Operand → Value) (d : Option Tmp) (x : Operand) (t : TypeId) (pos : String) (af : Array Edge) (g : Option (Nat × Bool)) (b : Nat) (hx : ρ x = PT b) (w : World) :
    (execOp ρ { dst := d, op := .fieldAddr 41 x 5, type := t, pos := pos, after := af, guard := g }).run Tryd.prog w = .ok (.value (.pointer (some ⟨b, 8, none⟩))) w := by
  simp [go_sem, hx, PT]
theorem x_loadOp (ρ : Operand → Value) (d : Option Tmp) (x : Operand) (t : TypeId) (pos : String) (af : Array Edge) (g : Option (Nat × Bool)) (b n : Nat) (hx : ρ x = PT b) (w : World) (hc : w.cell? ⟨b, 0, none⟩ = some (.int .i64 n)) :
    (execOp ρ { dst := d, op := .load 36 x, type := t, pos := pos, after := af, guard := g }).run Tryd.prog w = .ok (.value (.int .i64 n)) w := by
  simp [go_sem, hx, hc, PT]
theorem x_loadKids (ρ : Operand → Value) (d : Option Tmp) (x : Operand) (t : TypeId) (pos : String) (af : Array Edge) (g : Option (Nat × Bool)) (b n : Nat) (v : Value) (hx : ρ x = .pointer (some ⟨b, n, none⟩)) (w : World) (hc : w.cell? ⟨b, n, none⟩ = some v) :
    (execOp ρ { dst := d, op := .load 35 x, type := t, pos := pos, after := af, guard := g }).run Tryd.prog w = .ok (.value v) w := by
  simp [go_sem, hx, hc]
theorem x_neqOp (ρ : Operand → Value) (d : Option Tmp) (x y : Operand) (t : TypeId) (pos : String) (af : Array Edge) (g : Option (Nat × Bool)) (u v : Int) (hx : ρ x = .int .i64 u) (hy : ρ y = .int .i64 v) (w : World) :
    (execOp ρ { dst := d, op := .binOp .neq 36 x y 36, type := t, pos := pos, after := af, guard := g }).run Tryd.prog w = .ok (.value (.bool (u != v))) w := by
  simp [go_sem, hx, hy, bne]
theorem ReAt.cell0 {w : World} {b : Nat} {r : RE} (h : ReAt w b r) : w.cell? ⟨b, 0, none⟩ = some (.int .i64 r.op) := by
  obtain ⟨v, hb, -⟩ := h.row; rw [hb.cell]; rfl
theorem ReAt.cellS {w : World} {b : Nat} {r : RE} (h : ReAt w b r) : ∀ j, j < 4 → w.cell? ⟨b, 1 + j, none⟩ = some (.int .u64 (wd r.set j)) := by
  obtain ⟨v, hb, -⟩ := h.row
  intro j hj
  rw [hb.cell]
  match j, hj with
  | 0, _ => rfl
  | 1, _ => rfl
  | 2, _ => rfl
  | 3, _ => rfl
theorem ReAt.cell8 {w : World} {b : Nat} {r : RE} (h : ReAt w b r) : w.cell? ⟨b, 8, none⟩ = some (.int .i64 r.size) := by
  obtain ⟨v, hb, -⟩ := h.row; rw [hb.cell]; rfl

/-- New memory, and draws. -/
structure More (w w' : World) : Prop where
  below : Below w.heap.size w w'
  drawn : w.drawn ≤ w'.drawn
theorem More.refl (w : World) : More w w := ⟨Below.refl _ _, Nat.le_refl _⟩
theorem More.trans {a b c : World} (h : More a b) (k : More b c) : More a c := ⟨h.below.trans (k.below.mono h.below.size), Nat.le_trans h.drawn k.drawn⟩
theorem More.drew {a b : World} (h : More a b) : More a { b with drawn := b.drawn + 1 } := ⟨⟨h.below.os, h.below.tape, h.below.output, h.below.size, h.below.block⟩, Nat.le_trans h.drawn (Nat.le_succ _)⟩
theorem TabAt.more {w w' : World} (h : TabAt w) (hm : More w w') : TabAt w' := h.agree (Agree.of_all (K := fun _ => True) hm.below) trivial

set_option maxHeartbeats 1000000 in
theorem compareFunc_any (l1 l2 : List RE) (v1 v2 : Value) (w : World) (h1 : ResRow w v1 l1) (h2 : ResRow w v2 l2) (k1 : ∀ k ∈ l1, WfK k) (k2 : ∀ k ∈ l2, WfK k)
    (hc : ∀ r ∈ l1, ∀ o b b' W, More w W → WfK r → WfK o → ReAt W b r → ReAt W b' o → Calls Tryd.prog 50 #[PT b, PT b'] W fun e w' => e = .returned (.int .i64 (lexN r.key o.key)) ∧ More W w') :
    Calls Tryd.prog 67 #[v1, v2, .func (.func 50) #[] #[]] w fun e w' => e = .returned (.int .i64 (lexN (keysL l1 ++ [0]) (keysL l2 ++ [0]))) ∧ More w w' := by
  obtain ⟨n1, a1, cap1, rfl, -⟩ := h1.at
  obtain ⟨n2, a2, cap2, rfl, -⟩ := h2.at
  have ent := enters_of Tryd.func50 (by kernel_rfl) rfl
  obtain ⟨res, hres⟩ : ∃ res, res = lexN (keysL l1 ++ [0]) (keysL l2 ++ [0]) := ⟨_, rfl⟩
  rw [← hres]
  have HR := hide hres
  clear hres
  have H1 := hide h1
  have H2 := hide h2
  clear h1 h2
  go_enter Tryd.func67, Tryd.ntmps67
  go_wp2
  go_loopw [13] (fun i wr => ∃ k : Nat, k ≤ l1.length ∧ k ≤ l2.length ∧ i = .int .i64 k ∧ Hid (res = lexN (keysL (l1.drop k) ++ [0]) (keysL (l2.drop k) ++ [0])) ∧ Hid (More w wr)) (fun i _ => l1.length - (intOf i).toNat)
  case atStart => exact ⟨0, by omega, by omega, rfl, HR, More.refl w⟩
  case round =>
    clear HR
    obtain ⟨k, hk1, hk2, rfl, HR, HM⟩ := hrel
    obtain ⟨-, a1', c1', e1, g1⟩ := (H1.out.below HM.out.below).at
    obtain ⟨rfl, rfl⟩ : a1 = a1' ∧ cap1 = c1' := by cases e1; exact ⟨rfl, rfl⟩
    obtain ⟨-, a2', c2', e2, g2⟩ := (H2.out.below HM.out.below).at
    obtain ⟨rfl, rfl⟩ : a2 = a2' ∧ cap2 = c2' := by cases e2; exact ⟨rfl, rfl⟩
    clear e1 e2
    by_cases hlt : k < l1.length
    · have hkd : decide (k < l1.length) = true := by simp [hlt]
      obtain ⟨b1, o1, p1, rfl, -, d1, r1⟩ := g1 k hlt
      unfold PT at d1
      by_cases hlt2 : k < l2.length
      · obtain ⟨b2, o2, p2, rfl, -, d2, r2⟩ := g2 k hlt2
        unfold PT at d2
        have hkd2 : decide (l2.length ≤ k) = false := by simp; omega
        have hw1 := k1 _ (List.getElem_mem hlt)
        have hw2 := k2 _ (List.getElem_mem hlt2)
        have HC := hide (keys_cons hw1 hw2 (l1.drop (k + 1)) (l2.drop (k + 1)))
        rw [List.getElem_cons_drop, List.getElem_cons_drop] at HC
        have hcc := hc _ (List.getElem_mem hlt) l2[k] p1 p2 wr HM.out hw1 hw2 r1 r2
        generalize lexN (l1[k]).key (l2[k]).key = cc at HC hcc
        clear g1 g2 r1 r2 hw1 hw2
        go_wp2_with fail
        refine hcc.mono ?_
        rintro e w1 ⟨rfl, hm⟩
        have HM2 := hide (HM.out.trans hm)
        clear hm hcc d1 d2
        by_cases h0 : cc = 0
        · subst h0
          go_wp2
          refine ⟨⟨k + 1, by omega, by omega, by go_num, ?_, HM2⟩, by simp [intOf]; omega⟩
          have := HC.out
          rw [if_pos (by trivial)] at this
          exact HR.out.trans this
        · have hd0 : (cc == 0) = false := beq_eq_false_iff_ne.2 h0
          have H0 := hide h0
          clear h0
          go_wp2
          go_ret
          have := HC.out
          rw [if_neg H0.out] at this
          exact ⟨by rw [HR.out, this]; rfl, HM2.out⟩
      · obtain rfl : k = l2.length := by omega
        have hkd2 : decide (l2.length ≤ l2.length) = true := by simp
        have HF : Hid (res = 1) := by
          have := HR.out
          rw [List.drop_length, ← List.getElem_cons_drop hlt, keys_short] at this
          exact this
        clear g1 g2 r1
        go_wp2
        go_ret
        exact ⟨by rw [HF.out]; rfl, HM.out⟩
    · obtain rfl : k = l1.length := by omega
      have HL : Hid (res = if l1.length < l2.length then -1 else 0) := by
        have := HR.out
        rw [List.drop_length] at this
        by_cases h : l1.length < l2.length
        · rw [if_pos h]
          rw [← List.getElem_cons_drop h, keys_long] at this
          exact this
        · rw [if_neg h]
          have e : l2.drop l1.length = [] := List.drop_eq_nil_of_le (by omega)
          rw [e, lexN_self] at this
          exact this
      clear g1 g2
      by_cases h : l1.length < l2.length
      · have hd : decide ((l1.length : Int) < l2.length) = true := by simp; omega
        have hd' : decide (l1.length < l2.length) = true := by simp [h]
        go_wp2
        go_ret
        exact ⟨by rw [HL.out, if_pos h]; rfl, HM.out⟩
      · have hd : decide ((l1.length : Int) < l2.length) = false := by simp; omega
        have hd' : decide (l1.length < l2.length) = false := by simp; omega
        go_wp2
        go_ret
        exact ⟨by rw [HL.out, if_neg h]; rfl, HM.out⟩

set_option maxHeartbeats 2000000 in
theorem reCompare_any (r : RE) : ∀ (o : RE) (b b' : Nat) (w : World), WfK r → WfK o → ReAt w b r → ReAt w b' o → TabAt w →
    Calls Tryd.prog 50 #[PT b, PT b'] w fun e w' => e = .returned (.int .i64 (lexN r.key o.key)) ∧ More w w' := by
  refine RE.ind (P := fun r => ∀ (o : RE) (b b' : Nat) (w : World), WfK r → WfK o → ReAt w b r → ReAt w b' o → TabAt w →
    Calls Tryd.prog 50 #[PT b, PT b'] w fun e w' => e = .returned (.int .i64 (lexN r.key o.key)) ∧ More w w') ?_ r
  intro op s ks ih o b b' w hr ho hb hb' hT
  have hkid : ∀ k ∈ (RE.mk op s ks).kids, ∀ (o : RE) (b b' : Nat) (w : World), WfK k → WfK o → ReAt w b k → ReAt w b' o → TabAt w →
    Calls Tryd.prog 50 #[PT b, PT b'] w fun e w' => e = .returned (.int .i64 (lexN k.key o.key)) ∧ More w w' := ih
  clear ih
  generalize RE.mk op s ks = r at *
  clear op s ks
  obtain ⟨res, hres⟩ : ∃ res, res = lexN r.key o.key := ⟨_, rfl⟩
  rw [← hres]
  by_cases hbb : b = b'
  · subst hbb
    obtain rfl := hb.one hb'
    rw [lexN_self] at hres
    have HR := hide hres
    have hself := ptr_same ⟨b, 0, none⟩
    clear hres
    unfold PT
    go_enter Tryd.func50, Tryd.ntmps50
    go_wp2
    go_ret
    exact ⟨by rw [HR.out]; rfl, More.refl _⟩
  · obtain ⟨v1, hk1, hrow1⟩ := hb.row
    obtain ⟨v2, hk2, hrow2⟩ := hb'.row
    have hoth := ptr_other w hbb hk1 hk2
    obtain ⟨C, hCd⟩ : ∃ C : World → Prop, C = fun W => More w W := ⟨_, rfl⟩
    have hCm : ∀ W, C W → More w W := fun W h => by rw [hCd] at h; exact h
    have hmC : ∀ W, More w W → C W := fun W h => by rw [hCd]; exact h
    have hC1 : ∀ W, C W → ReAt W b r := fun W h => hb.keep (hCm W h).below
    have hC2 : ∀ W, C W → ReAt W b' o := fun W h => hb'.keep (hCm W h).below
    have hCk1 : ∀ W, C W → W.cell? ⟨b, 5, none⟩ = some v1 := fun W h => by rw [(hk1.below (hCm W h).below hk1.lt).cell]; rfl
    have hCk2 : ∀ W, C W → W.cell? ⟨b', 5, none⟩ = some v2 := fun W h => by rw [(hk2.below (hCm W h).below hk2.lt).cell]; rfl
    have hC0 : C w := hmC _ (More.refl w)
    have hCd2 : ∀ W, C W → C { W with drawn := W.drawn + 1 } := fun W h => hmC _ (hCm W h).drew
    clear hCd hk1 hk2
    have HR := hide hres
    have HT := hide hT
    have HR1 := hide hrow1
    have HR2 := hide hrow2
    clear hres hT hrow1 hrow2
    unfold PT
    go_enter Tryd.func50, Tryd.ntmps50
    go_wp2
    rw [show Value.pointer (some ⟨b, 0, none⟩) = PT b from rfl, show Value.pointer (some ⟨b', 0, none⟩) = PT b' from rfl]
    clear hoth
    refine w_lit (C := C) (by kernel_rfl) (by kernel_rfl) (hCd2 _ hC0) ?_
    refine w_value (PT b) (by kernel_rfl) (fun w hw => x_move _ _ _ _ _ _ _ _ rfl w) ?_
    simp only [Act.put, List.setIfInBounds_toArray, List.set_cons_succ, List.set_cons_zero]
    refine w_value (PT b) (by kernel_rfl) (fun w hw => x_nilCheck _ _ _ _ _ _ _ _ rfl w) ?_
    simp only [Act.put, List.setIfInBounds_toArray, List.set_cons_succ, List.set_cons_zero]
    refine w_value (PT b) (by kernel_rfl) (fun w hw => x_field0 _ _ _ _ _ _ _ _ rfl w) ?_
    simp only [Act.put, List.setIfInBounds_toArray, List.set_cons_succ, List.set_cons_zero]
    refine w_value (.int .i64 r.op) (by kernel_rfl) (fun w hw => x_loadOp _ _ _ _ _ _ _ _ _ rfl w (hC1 w hw).cell0) ?_
    simp only [Act.put, List.setIfInBounds_toArray, List.set_cons_succ, List.set_cons_zero]
    refine w_value (PT b') (by kernel_rfl) (fun w hw => x_move _ _ _ _ _ _ _ _ rfl w) ?_
    simp only [Act.put, List.setIfInBounds_toArray, List.set_cons_succ, List.set_cons_zero]
    refine w_value (PT b') (by kernel_rfl) (fun w hw => x_nilCheck _ _ _ _ _ _ _ _ rfl w) ?_
    simp only [Act.put, List.setIfInBounds_toArray, List.set_cons_succ, List.set_cons_zero]
    refine w_value (PT b') (by kernel_rfl) (fun w hw => x_field0 _ _ _ _ _ _ _ _ rfl w) ?_
    simp only [Act.put, List.setIfInBounds_toArray, List.set_cons_succ, List.set_cons_zero]
    refine w_value (.int .i64 o.op) (by kernel_rfl) (fun w hw => x_loadOp _ _ _ _ _ _ _ _ _ rfl w (hC2 w hw).cell0) ?_
    simp only [Act.put, List.setIfInBounds_toArray, List.set_cons_succ, List.set_cons_zero]
    refine w_value (.bool ((r.op : Int) != (o.op : Int))) (by kernel_rfl) (fun w hw => x_neqOp _ _ _ _ _ _ _ _ _ _ rfl rfl w) ?_
    simp only [Act.put, List.setIfInBounds_toArray, List.set_cons_succ, List.set_cons_zero]
    refine w_nil ?_
    clear hC0
    intro w1 hC0
    by_cases hop : r.op = o.op
    · rw [show ((r.op : Int) != (o.op : Int)) = false from by simp [hop]]
      go_wp2
      refine w_lit (C := C) (by kernel_rfl) (by kernel_rfl) (hCd2 _ hC0) ?_
      refine w_value (PT b) (by kernel_rfl) (fun w hw => x_move _ _ _ _ _ _ _ _ rfl w) ?_
      simp only [Act.put, List.setIfInBounds_toArray, List.set_cons_succ, List.set_cons_zero]
      refine w_value (PT b) (by kernel_rfl) (fun w hw => x_nilCheck _ _ _ _ _ _ _ _ rfl w) ?_
      simp only [Act.put, List.setIfInBounds_toArray, List.set_cons_succ, List.set_cons_zero]
      refine w_value (.pointer (some ⟨b, 1, none⟩)) (by kernel_rfl) (fun w hw => x_field1 _ _ _ _ _ _ _ _ rfl w) ?_
      simp only [Act.put, List.setIfInBounds_toArray, List.set_cons_succ, List.set_cons_zero]
      refine w_value (SV r.set) (by kernel_rfl) (fun w hw => x_loadAt _ _ _ _ _ _ _ _ _ _ rfl w (hC1 w hw).cellS) ?_
      simp only [Act.put, List.setIfInBounds_toArray, List.set_cons_succ, List.set_cons_zero]
      refine w_value (PT b') (by kernel_rfl) (fun w hw => x_move _ _ _ _ _ _ _ _ rfl w) ?_
      simp only [Act.put, List.setIfInBounds_toArray, List.set_cons_succ, List.set_cons_zero]
      refine w_value (PT b') (by kernel_rfl) (fun w hw => x_nilCheck _ _ _ _ _ _ _ _ rfl w) ?_
      simp only [Act.put, List.setIfInBounds_toArray, List.set_cons_succ, List.set_cons_zero]
      refine w_value (.pointer (some ⟨b', 1, none⟩)) (by kernel_rfl) (fun w hw => x_field1 _ _ _ _ _ _ _ _ rfl w) ?_
      simp only [Act.put, List.setIfInBounds_toArray, List.set_cons_succ, List.set_cons_zero]
      refine w_value (SV o.set) (by kernel_rfl) (fun w hw => x_loadAt _ _ _ _ _ _ _ _ _ _ rfl w (hC2 w hw).cellS) ?_
      simp only [Act.put, List.setIfInBounds_toArray, List.set_cons_succ, List.set_cons_zero]
      refine w_value (.bool (r.set != o.set)) (by kernel_rfl) (fun w hw => x_neqS _ _ _ _ _ _ _ _ _ _ rfl rfl w) ?_
      simp only [Act.put, List.setIfInBounds_toArray, List.set_cons_succ, List.set_cons_zero]
      refine w_nil ?_
      clear hC0
      intro w1 hC0
      by_cases hset : r.set = o.set
      · rw [show (r.set != o.set) = false from by simp [hset]]
        have HK := hide (key_kids hop hset)
        go_wp2
        refine w_lit (C := C) (by kernel_rfl) (by kernel_rfl) (hCd2 _ hC0) ?_
        refine w_value (PT b) (by kernel_rfl) (fun w hw => x_move _ _ _ _ _ _ _ _ rfl w) ?_
        simp only [Act.put, List.setIfInBounds_toArray, List.set_cons_succ, List.set_cons_zero]
        refine w_value (PT b) (by kernel_rfl) (fun w hw => x_nilCheck _ _ _ _ _ _ _ _ rfl w) ?_
        simp only [Act.put, List.setIfInBounds_toArray, List.set_cons_succ, List.set_cons_zero]
        refine w_value (.pointer (some ⟨b, 5, none⟩)) (by kernel_rfl) (fun w hw => x_field2 _ _ _ _ _ _ _ _ rfl w) ?_
        simp only [Act.put, List.setIfInBounds_toArray, List.set_cons_succ, List.set_cons_zero]
        refine w_value (v1) (by kernel_rfl) (fun w hw => x_loadKids _ _ _ _ _ _ _ _ _ _ rfl w (hCk1 w hw)) ?_
        simp only [Act.put, List.setIfInBounds_toArray, List.set_cons_succ, List.set_cons_zero]
        refine w_value (PT b') (by kernel_rfl) (fun w hw => x_move _ _ _ _ _ _ _ _ rfl w) ?_
        simp only [Act.put, List.setIfInBounds_toArray, List.set_cons_succ, List.set_cons_zero]
        refine w_value (PT b') (by kernel_rfl) (fun w hw => x_nilCheck _ _ _ _ _ _ _ _ rfl w) ?_
        simp only [Act.put, List.setIfInBounds_toArray, List.set_cons_succ, List.set_cons_zero]
        refine w_value (.pointer (some ⟨b', 5, none⟩)) (by kernel_rfl) (fun w hw => x_field2 _ _ _ _ _ _ _ _ rfl w) ?_
        simp only [Act.put, List.setIfInBounds_toArray, List.set_cons_succ, List.set_cons_zero]
        refine w_value (v2) (by kernel_rfl) (fun w hw => x_loadKids _ _ _ _ _ _ _ _ _ _ rfl w (hCk2 w hw)) ?_
        simp only [Act.put, List.setIfInBounds_toArray, List.set_cons_succ, List.set_cons_zero]
        refine w_callC 67 #[v1, v2, .func (.func 50) #[] #[]] (.int .i64 (lexN (keysL r.kids ++ [0]) (keysL o.kids ++ [0]))) (by kernel_rfl) (x_call3 _ _ _ _ _ _ _ _ _ _ _ _ _ _ _ _ rfl rfl rfl rfl (enters_of Tryd.func67 (by kernel_rfl) rfl))
          (fun W hW => (compareFunc_any r.kids o.kids v1 v2 W (HR1.out.below (hCm W hW).below) (HR2.out.below (hCm W hW).below) (by rw [r.eta] at hr; exact hr.kid) (by rw [o.eta] at ho; exact ho.kid)
            (fun k hk o b b' W' hm h1 h2 h3 h4 => hkid k hk o b b' W' h1 h2 h3 h4 (HT.out.more ((hCm W hW).trans hm)))).mono fun e w' h => ⟨h.1, hmC _ ((hCm W hW).trans h.2)⟩) ?_
        simp only [Act.put, List.setIfInBounds_toArray, List.set_cons_succ, List.set_cons_zero]
        refine w_value (.int .i64 (lexN (keysL r.kids ++ [0]) (keysL o.kids ++ [0]))) (by kernel_rfl) (fun w hw => x_assign _ _ _ _ _ _ _ _ rfl w) ?_
        simp only [Act.put, List.setIfInBounds_toArray, List.set_cons_succ, List.set_cons_zero]
        refine w_nil ?_
        clear hC0
        intro w1 hC0
        have HM := hide (hCm _ hC0)
        clear hC0 hCm hmC hC1 hC2 hCk1 hCk2 hCd2 hkid
        go_wp2
        go_ret
        exact ⟨by rw [HR.out, HK.out]; rfl, HM.out⟩
      · rw [show (r.set != o.set) = true from by simp [hset]]
        have HK := hide (key_set hr ho hop hset)
        go_wp2
        refine w_lit (C := C) (by kernel_rfl) (by kernel_rfl) (hCd2 _ hC0) ?_
        refine w_value (PT b) (by kernel_rfl) (fun w hw => x_move _ _ _ _ _ _ _ _ rfl w) ?_
        simp only [Act.put, List.setIfInBounds_toArray, List.set_cons_succ, List.set_cons_zero]
        refine w_value (PT b) (by kernel_rfl) (fun w hw => x_nilCheck _ _ _ _ _ _ _ _ rfl w) ?_
        simp only [Act.put, List.setIfInBounds_toArray, List.set_cons_succ, List.set_cons_zero]
        refine w_value (.pointer (some ⟨b, 1, none⟩)) (by kernel_rfl) (fun w hw => x_field1 _ _ _ _ _ _ _ _ rfl w) ?_
        simp only [Act.put, List.setIfInBounds_toArray, List.set_cons_succ, List.set_cons_zero]
        refine w_value (SV r.set) (by kernel_rfl) (fun w hw => x_loadAt _ _ _ _ _ _ _ _ _ _ rfl w (hC1 w hw).cellS) ?_
        simp only [Act.put, List.setIfInBounds_toArray, List.set_cons_succ, List.set_cons_zero]
        refine w_value (PT b') (by kernel_rfl) (fun w hw => x_move _ _ _ _ _ _ _ _ rfl w) ?_
        simp only [Act.put, List.setIfInBounds_toArray, List.set_cons_succ, List.set_cons_zero]
        refine w_value (PT b') (by kernel_rfl) (fun w hw => x_nilCheck _ _ _ _ _ _ _ _ rfl w) ?_
        simp only [Act.put, List.setIfInBounds_toArray, List.set_cons_succ, List.set_cons_zero]
        refine w_value (.pointer (some ⟨b', 1, none⟩)) (by kernel_rfl) (fun w hw => x_field1 _ _ _ _ _ _ _ _ rfl w) ?_
        simp only [Act.put, List.setIfInBounds_toArray, List.set_cons_succ, List.set_cons_zero]
        refine w_value (SV o.set) (by kernel_rfl) (fun w hw => x_loadAt _ _ _ _ _ _ _ _ _ _ rfl w (hC2 w hw).cellS) ?_
        simp only [Act.put, List.setIfInBounds_toArray, List.set_cons_succ, List.set_cons_zero]
        refine w_callC 66 #[SV r.set, SV o.set] (.int .i64 (lexN (rnB (runsOf r.set)) (rnB (runsOf o.set)))) (by kernel_rfl) (x_call2 _ _ _ _ _ _ _ _ _ _ _ _ _ rfl rfl rfl (enters_of Tryd.func66 (by kernel_rfl) rfl))
          (fun W hW => (compareSets_any r.set o.set W (HT.out.more (hCm W hW))).mono fun e w' h => ⟨h.1, hmC _ ((hCm W hW).trans ⟨h.2.1, h.2.2⟩)⟩) ?_
        simp only [Act.put, List.setIfInBounds_toArray, List.set_cons_succ, List.set_cons_zero]
        refine w_value (.int .i64 (lexN (rnB (runsOf r.set)) (rnB (runsOf o.set)))) (by kernel_rfl) (fun w hw => x_assign _ _ _ _ _ _ _ _ rfl w) ?_
        simp only [Act.put, List.setIfInBounds_toArray, List.set_cons_succ, List.set_cons_zero]
        refine w_nil ?_
        clear hC0
        intro w1 hC0
        have HM := hide (hCm _ hC0)
        clear hC0 hCm hmC hC1 hC2 hCk1 hCk2 hCd2 hkid
        go_wp2
        go_ret
        exact ⟨by rw [HR.out, HK.out]; rfl, HM.out⟩
    · rw [show ((r.op : Int) != (o.op : Int)) = true from by simp; omega]
      have HK := hide (key_op hop)
      go_wp2
      refine w_lit (C := C) (by kernel_rfl) (by kernel_rfl) (hCd2 _ hC0) ?_
      refine w_value (PT b) (by kernel_rfl) (fun w hw => x_move _ _ _ _ _ _ _ _ rfl w) ?_
      simp only [Act.put, List.setIfInBounds_toArray, List.set_cons_succ, List.set_cons_zero]
      refine w_value (PT b) (by kernel_rfl) (fun w hw => x_nilCheck _ _ _ _ _ _ _ _ rfl w) ?_
      simp only [Act.put, List.setIfInBounds_toArray, List.set_cons_succ, List.set_cons_zero]
      refine w_value (PT b) (by kernel_rfl) (fun w hw => x_field0 _ _ _ _ _ _ _ _ rfl w) ?_
      simp only [Act.put, List.setIfInBounds_toArray, List.set_cons_succ, List.set_cons_zero]
      refine w_value (.int .i64 r.op) (by kernel_rfl) (fun w hw => x_loadOp _ _ _ _ _ _ _ _ _ rfl w (hC1 w hw).cell0) ?_
      simp only [Act.put, List.setIfInBounds_toArray, List.set_cons_succ, List.set_cons_zero]
      refine w_value (PT b') (by kernel_rfl) (fun w hw => x_move _ _ _ _ _ _ _ _ rfl w) ?_
      simp only [Act.put, List.setIfInBounds_toArray, List.set_cons_succ, List.set_cons_zero]
      refine w_value (PT b') (by kernel_rfl) (fun w hw => x_nilCheck _ _ _ _ _ _ _ _ rfl w) ?_
      simp only [Act.put, List.setIfInBounds_toArray, List.set_cons_succ, List.set_cons_zero]
      refine w_value (PT b') (by kernel_rfl) (fun w hw => x_field0 _ _ _ _ _ _ _ _ rfl w) ?_
      simp only [Act.put, List.setIfInBounds_toArray, List.set_cons_succ, List.set_cons_zero]
      refine w_value (.int .i64 o.op) (by kernel_rfl) (fun w hw => x_loadOp _ _ _ _ _ _ _ _ _ rfl w (hC2 w hw).cell0) ?_
      simp only [Act.put, List.setIfInBounds_toArray, List.set_cons_succ, List.set_cons_zero]
      refine w_callC 65 #[.int .i64 r.op, .int .i64 o.op] (.int .i64 (cmpN r.op o.op)) (by kernel_rfl) (x_call2 _ _ _ _ _ _ _ _ _ _ _ _ _ rfl rfl rfl (enters_of Tryd.func65 (by kernel_rfl) rfl))
          (fun W hW => (compareOp_any r.op o.op W).mono fun e w' h => ⟨h.1, h.2 ▸ hW⟩) ?_
      simp only [Act.put, List.setIfInBounds_toArray, List.set_cons_succ, List.set_cons_zero]
      refine w_value (.int .i64 (cmpN r.op o.op)) (by kernel_rfl) (fun w hw => x_assign _ _ _ _ _ _ _ _ rfl w) ?_
      simp only [Act.put, List.setIfInBounds_toArray, List.set_cons_succ, List.set_cons_zero]
      refine w_nil ?_
      clear hC0
      intro w1 hC0
      have HM := hide (hCm _ hC0)
      clear hC0 hCm hmC hC1 hC2 hCk1 hCk2 hCd2 hkid
      go_wp2
      go_ret
      exact ⟨by rw [HR.out, HK.out]; rfl, HM.out⟩

theorem ptr_nsame (a : Addr) (w : World) : (binOp .neq 27 (.pointer (some a)) (.pointer (some a))).run Tryd.prog w = .ok (.bool false) w := by
  have h := ptr_same a w
  simp only [binOp, Sem.run_bind] at h ⊢
  cases e : (Op.equal 27 (.pointer (some a)) (.pointer (some a))).run Tryd.prog w with
  | ok v w' =>
    rw [e] at h
    simp [Result.andThen] at h
    simp [Result.andThen, h.1, h.2]
  | _ => rw [e] at h; simp [Result.andThen] at h
theorem x_eqIntC (ρ : Operand → Value) (d : Option Tmp) (x : Operand) (n : Int) (t : TypeId) (pos : String) (af : Array Edge) (g : Option (Nat × Bool)) (u : Int) (hx : ρ x = .int .i64 u) (hy : ρ (.const (.int .i64 n)) = .int .i64 n) (w : World) :
    (execOp ρ { dst := d, op := .binOp .eql 3 x (.const (.int .i64 n)) 3, type := t, pos := pos, after := af, guard := g }).run Tryd.prog w = .ok (.value (.bool (u == n))) w := by
  simp [go_sem, hx, hy]
theorem x_eqIntB (ρ : Operand → Value) (d : Option Tmp) (x y : Operand) (t : TypeId) (pos : String) (af : Array Edge) (g : Option (Nat × Bool)) (u v : Int) (c : Bool) (hc : (u == v) = c) (hx : ρ x = .int .i64 u) (hy : ρ y = .int .i64 v) (w : World) :
    (execOp ρ { dst := d, op := .binOp .eql 3 x y 3, type := t, pos := pos, after := af, guard := g }).run Tryd.prog w = .ok (.value (.bool c)) w := by
  rw [← hc]; exact x_eqInt ρ d x y t pos af g u v hx hy w
theorem x_loadSize (ρ : Operand → Value) (d : Option Tmp) (x : Operand) (t : TypeId) (pos : String) (af : Array Edge) (g : Option (Nat × Bool)) (b o : Nat) (n : Int) (hx : ρ x = .pointer (some ⟨b, o, none⟩)) (w : World) (hc : w.cell? ⟨b, o, none⟩ = some (.int .i64 n)) :
    (execOp ρ { dst := d, op := .load 3 x, type := t, pos := pos, after := af, guard := g }).run Tryd.prog w = .ok (.value (.int .i64 n)) w := by
  simp [go_sem, hx, hc]

set_option maxHeartbeats 1000000 in
theorem same_re (r o : RE) (b b' : Nat) (w : World) (hr : WfK r) (ho : WfK o) (hb : ReAt w b r) (hb' : ReAt w b' o) (hT : TabAt w) :
    Calls Tryd.prog 23 #[PT b, PT b'] w fun e w' => e = .returned (.bool (lexN r.key o.key == 0)) ∧ More w w' := by
  obtain ⟨v1, hk1, -⟩ := hb.row
  obtain ⟨v2, hk2, -⟩ := hb'.row
  have c6 := hk1.cell 6
  have d6 := hk2.cell 6
  simp only [reC, List.getElem?_toArray, List.getElem?_cons_zero, List.getElem?_cons_succ, PT] at c6 d6
  have hs1 := ptr_nsame ⟨b, 0, none⟩
  have hs2 := ptr_nsame ⟨b', 0, none⟩
  obtain ⟨C, hCd⟩ : ∃ C : World → Prop, C = fun W => More w W := ⟨_, rfl⟩
  have hCm : ∀ W, C W → More w W := fun W h => by rw [hCd] at h; exact h
  have hmC : ∀ W, More w W → C W := fun W h => by rw [hCd]; exact h
  have hC1 : ∀ W, C W → ReAt W b r := fun W h => hb.keep (hCm W h).below
  have hC2 : ∀ W, C W → ReAt W b' o := fun W h => hb'.keep (hCm W h).below
  have hC0 : C { w with drawn := w.drawn + 1 } := hmC _ (More.refl w).drew
  have hsz : r.size ≠ o.size → (lexN r.key o.key == 0) = false := fun h => beq_eq_false_iff_ne.2 fun e => h (by rw [key_inj hr ho (lexN_zero _ _ e)])
  obtain ⟨res, hres⟩ : ∃ res, res = (lexN r.key o.key == 0) := ⟨_, rfl⟩
  rw [← hres] at hsz ⊢
  have HR := hide hres
  have HZ := hide hsz
  have HT := hide hT
  clear hCd hk1 hk2 hres hsz hT
  unfold PT
  go_enter Tryd.func23, Tryd.ntmps23
  go_wp2
  rw [show Value.pointer (some ⟨b, 0, none⟩) = PT b from rfl, show Value.pointer (some ⟨b', 0, none⟩) = PT b' from rfl]
  clear hs1 hs2 c6 d6
  refine w_lit (C := C) (by kernel_rfl) (by kernel_rfl) hC0 ?_
  refine w_value (PT b) (by kernel_rfl) (fun w hw => x_move _ _ _ _ _ _ _ _ rfl w) ?_
  simp only [Act.put, List.setIfInBounds_toArray, List.set_cons_succ, List.set_cons_zero]
  refine w_value (PT b) (by kernel_rfl) (fun w hw => x_nilCheck _ _ _ _ _ _ _ _ rfl w) ?_
  simp only [Act.put, List.setIfInBounds_toArray, List.set_cons_succ, List.set_cons_zero]
  refine w_value (.pointer (some ⟨b, 8, none⟩)) (by kernel_rfl) (fun w hw => x_field5 _ _ _ _ _ _ _ _ rfl w) ?_
  simp only [Act.put, List.setIfInBounds_toArray, List.set_cons_succ, List.set_cons_zero]
  refine w_value (.int .i64 r.size) (by kernel_rfl) (fun w hw => x_loadSize _ _ _ _ _ _ _ _ _ _ rfl w (hC1 w hw).cell8) ?_
  simp only [Act.put, List.setIfInBounds_toArray, List.set_cons_succ, List.set_cons_zero]
  refine w_value (PT b') (by kernel_rfl) (fun w hw => x_move _ _ _ _ _ _ _ _ rfl w) ?_
  simp only [Act.put, List.setIfInBounds_toArray, List.set_cons_succ, List.set_cons_zero]
  refine w_value (PT b') (by kernel_rfl) (fun w hw => x_nilCheck _ _ _ _ _ _ _ _ rfl w) ?_
  simp only [Act.put, List.setIfInBounds_toArray, List.set_cons_succ, List.set_cons_zero]
  refine w_value (.pointer (some ⟨b', 8, none⟩)) (by kernel_rfl) (fun w hw => x_field5 _ _ _ _ _ _ _ _ rfl w) ?_
  simp only [Act.put, List.setIfInBounds_toArray, List.set_cons_succ, List.set_cons_zero]
  refine w_value (.int .i64 o.size) (by kernel_rfl) (fun w hw => x_loadSize _ _ _ _ _ _ _ _ _ _ rfl w (hC2 w hw).cell8) ?_
  simp only [Act.put, List.setIfInBounds_toArray, List.set_cons_succ, List.set_cons_zero]
  by_cases hz : r.size = o.size
  · refine w_value (.bool true) (by kernel_rfl) (fun w hw => x_eqIntB _ _ _ _ _ _ _ _ (r.size : Int) (o.size : Int) true (by simp [hz]) rfl rfl w) ?_
    simp only [Act.put, List.setIfInBounds_toArray, List.set_cons_succ, List.set_cons_zero]
    refine w_value (.bool true) (by kernel_rfl) (fun w hw => x_move _ _ _ _ _ _ _ _ rfl w) ?_
    simp only [Act.put, List.setIfInBounds_toArray, List.set_cons_succ, List.set_cons_zero]
    refine w_value (PT b) (by kernel_rfl) (fun w hw => x_move _ _ _ _ _ _ _ _ rfl w) ?_
    simp only [Act.put, List.setIfInBounds_toArray, List.set_cons_succ, List.set_cons_zero]
    refine w_value (PT b') (by kernel_rfl) (fun w hw => x_move _ _ _ _ _ _ _ _ rfl w) ?_
    simp only [Act.put, List.setIfInBounds_toArray, List.set_cons_succ, List.set_cons_zero]
    refine w_callC 50 #[PT b, PT b'] (.int .i64 (lexN r.key o.key)) (by kernel_rfl) (x_call2 _ _ _ _ _ _ _ _ _ _ _ _ _ rfl rfl rfl (enters_of Tryd.func50 (by kernel_rfl) rfl))
      (fun W hW => (reCompare_any r o b b' W hr ho (hC1 W hW) (hC2 W hW) (HT.out.more (hCm W hW))).mono fun e w' h => ⟨h.1, hmC _ ((hCm W hW).trans h.2)⟩) ?_
    simp only [Act.put, List.setIfInBounds_toArray, List.set_cons_succ, List.set_cons_zero]
    refine w_value (.bool (lexN r.key o.key == 0)) (by kernel_rfl) (fun w hw => x_eqIntC _ _ _ _ _ _ _ _ _ rfl rfl w) ?_
    simp only [Act.put, List.setIfInBounds_toArray, List.set_cons_succ, List.set_cons_zero]
    refine w_value (.bool (lexN r.key o.key == 0)) (by kernel_rfl) (fun w hw => x_pick _ _ _ _ _ _ _ _ _ true _ _ rfl rfl rfl w) ?_
    simp only [Act.put, List.setIfInBounds_toArray, List.set_cons_succ, List.set_cons_zero]
    refine w_value (.bool (lexN r.key o.key == 0)) (by kernel_rfl) (fun w hw => x_assign _ _ _ _ _ _ _ _ rfl w) ?_
    simp only [Act.put, List.setIfInBounds_toArray, List.set_cons_succ, List.set_cons_zero]
    refine w_nil ?_
    intro w1 hC1'
    have HM := hide (hCm _ hC1')
    clear hC0 hCm hmC hC1 hC2 hC1'
    go_wp2
    go_ret
    exact ⟨by rw [HR.out]; rfl, HM.out⟩
  · refine w_value (.bool false) (by kernel_rfl) (fun w hw => x_eqIntB _ _ _ _ _ _ _ _ (r.size : Int) (o.size : Int) false (beq_eq_false_iff_ne.2 (by omega)) rfl rfl w) ?_
    simp only [Act.put, List.setIfInBounds_toArray, List.set_cons_succ, List.set_cons_zero]
    refine w_value (.bool false) (by kernel_rfl) (fun w hw => x_move _ _ _ _ _ _ _ _ rfl w) ?_
    simp only [Act.put, List.setIfInBounds_toArray, List.set_cons_succ, List.set_cons_zero]
    refine w_skip (by kernel_rfl) ?_
    simp only [Act.put, List.setIfInBounds_toArray, List.set_cons_succ, List.set_cons_zero]
    refine w_skip (by kernel_rfl) ?_
    simp only [Act.put, List.setIfInBounds_toArray, List.set_cons_succ, List.set_cons_zero]
    refine w_skip (by kernel_rfl) ?_
    simp only [Act.put, List.setIfInBounds_toArray, List.set_cons_succ, List.set_cons_zero]
    refine w_skip (by kernel_rfl) ?_
    simp only [Act.put, List.setIfInBounds_toArray, List.set_cons_succ, List.set_cons_zero]
    refine w_value (.bool false) (by kernel_rfl) (fun w hw => x_pick _ _ _ _ _ _ _ _ _ false _ _ rfl rfl rfl w) ?_
    simp only [Act.put, List.setIfInBounds_toArray, List.set_cons_succ, List.set_cons_zero]
    refine w_value (.bool false) (by kernel_rfl) (fun w hw => x_assign _ _ _ _ _ _ _ _ rfl w) ?_
    simp only [Act.put, List.setIfInBounds_toArray, List.set_cons_succ, List.set_cons_zero]
    refine w_nil ?_
    intro w1 hC1'
    have HM := hide (hCm _ hC1')
    clear hC0 hCm hmC hC1 hC2 hC1'
    go_wp2
    go_ret
    exact ⟨by rw [HZ.out hz]; rfl, HM.out⟩
end Go.Proofs.YthemadegffhmfaaDoor
/- Blocks that an expression doesn't read. -/
namespace Go.Proofs.YthemadegffhmfaaDoor
set_option maxRecDepth 100000
set_option linter.unusedSimpArgs false
set_option linter.unusedVariables false
open Go.RowKit

/-- An expression stays where the blocks that it reads stay. -/
theorem ReAt.via {w w' : World} {b : Nat} {r : RE} (h : ReAt w b r) (hs : w.heap.size ≤ w'.heap.size) (hc : ∀ a : Addr, (w.cell? a).isSome = true → w'.heap[a.block]? = w.heap[a.block]?) : ReAt w' b r := by
  induction h with
  | mk b o s ks v bs blk row kid ih =>
    refine .mk b o s ks v bs ((hc ⟨b, 0, none⟩ (by rw [blk.cell]; rfl)).trans blk) ?_ ih
    obtain ⟨h1, a, cap, rfl, h2⟩ := row
    refine ⟨h1, a, cap, rfl, fun k hk => ?_⟩
    obtain ⟨b', off, e, hlt, hcell⟩ := h2 k hk
    refine ⟨b', off, e, Nat.lt_of_lt_of_le hlt hs, ?_⟩
    rw [← hcell]
    exact World.cell?_of_block (w := w) (hc ⟨b', off + k, none⟩ (by rw [hcell]; rfl))
/-- The world without what one block holds. -/
def wipe (w : World) (blk : Nat) : World := w.putObj blk (.cells #[] 0)
theorem wipe_size (w : World) (blk : Nat) : (wipe w blk).heap.size = w.heap.size := World.putObj_size
theorem wipe_cell {w : World} {blk : Nat} (hb : blk < w.heap.size) {a : Addr} (h : ((wipe w blk).cell? a).isSome = true) : a.block ≠ blk := by
  intro e
  have hk : Blk (wipe w blk) blk #[] 0 := by
    unfold Blk wipe World.putObj
    simp [hb]
  unfold World.cell? at h
  rw [e, hk.of_cells] at h
  simp at h
theorem wipe_other {w : World} {blk k : Nat} (h : k ≠ blk) : (wipe w blk).heap[k]? = w.heap[k]? := World.putObj_heap_other h
/-- What does not read a block lies in every world that differs there alone. -/
theorem ReAt.unwipe {w w' : World} {blk b : Nat} {r : RE} (h : ReAt (wipe w blk) b r) (hb : blk < w.heap.size) (hs : w.heap.size ≤ w'.heap.size) (hk : ∀ k, k < w.heap.size → k ≠ blk → w'.heap[k]? = w.heap[k]?) : ReAt w' b r := by
  refine h.via (by rw [wipe_size]; exact hs) fun a ha => ?_
  have hne := wipe_cell hb ha
  rw [wipe_other hne]
  by_cases hl : a.block < w.heap.size
  · exact hk _ hl hne
  · exfalso
    unfold World.cell? at ha
    rw [wipe_other hne, Array.getElem?_eq_none (by omega)] at ha
    simp at ha
theorem ReAt.rewipe {w w' : World} {blk b : Nat} {r : RE} (h : ReAt (wipe w blk) b r) (hb : blk < w.heap.size) (hs : w.heap.size ≤ w'.heap.size) (hk : ∀ k, k < w.heap.size → k ≠ blk → w'.heap[k]? = w.heap[k]?) : ReAt (wipe w' blk) b r :=
  h.unwipe hb (by rw [wipe_size]; exact hs) fun k hl hne => by rw [wipe_other hne]; exact hk k hl hne

/-- Pointers to expressions in a block of their own, which the expressions don't read. -/
structure PtrsIn (w : World) (blk : Nat) (ps : List (Nat × RE)) : Prop where
  lt : blk < w.heap.size
  cell : ∀ j p, ps[j]? = some p → w.cell? ⟨blk, j, none⟩ = some (PT p.1) ∧ w.frozen? ⟨blk, j, none⟩ = false
  elem : ∀ p ∈ ps, ReAt (wipe w blk) p.1 p.2 ∧ WfK p.2

end Go.Proofs.YthemadegffhmfaaDoor
/- A world that has only grown. -/
namespace Go.Proofs.YthemadegffhmfaaDoor
set_option maxRecDepth 100000
open Go.RowKit Go.Sort

/-- New memory and draws: a world that has grown. -/
theorem grown_of_below {w w' : World} (h : Below w.heap.size w w') (hd : w.drawn ≤ w'.drawn) : ∃ q os, w' = grow (w.drewN q) os := by
  refine ⟨w'.drawn - w.drawn, w'.heap.extract w.heap.size w'.heap.size, ?_⟩
  obtain ⟨h1, h2, h3, h4, h5⟩ := h
  have hh : w'.heap = w.heap ++ w'.heap.extract w.heap.size w'.heap.size := by
    apply Array.ext_getElem?
    intro i
    rw [Array.getElem?_append]
    split
    · exact h5 i ‹_›
    · rename_i hlt
      rw [Array.getElem?_extract]
      split
      · congr 1; omega
      · rw [Array.getElem?_eq_none (by omega)]
  cases w' with
  | mk heap tape drawn os output =>
  cases w with
  | mk heap0 tape0 drawn0 os0 output0 =>
    simp only at *
    subst h1 h2 h3
    simp only [grow, World.drewN]
    congr 1
    omega


end Go.Proofs.YthemadegffhmfaaDoor
/- slices.SortFunc at expressions. -/
namespace Go.Proofs.YthemadegffhmfaaDoor
set_option maxRecDepth 100000
set_option linter.unusedSimpArgs false
set_option linter.unusedVariables false
open Go.Shelf Go.RowKit Go.Lib Go.Sort
shelf_lay_g SlLaysF.n6 Slsf 6 at Tryd 62 as sortLaidRe

/-- An expression and where it lies. -/
def Elem (W0 : World) : Type := { p : Nat × RE // ReAt W0 p.1 p.2 ∧ WfK p.2 }
def encP {W0 : World} (x : Elem W0) : Value := PT x.1.1
def cfP {W0 : World} (x y : Elem W0) : Int := lexN x.1.2.key y.1.2.key
theorem swoP {W0 : World} : SWO (ltOf (cfP (W0 := W0))) where
  irrefl x := by unfold ltOf cfP; rw [lexN_self]; rfl
  trans x y z h1 h2 := by
    unfold ltOf cfP at *
    simp at *
    have h := lexN_trans x.1.2.key y.1.2.key z.1.2.key (by omega) (by omega)
    rcases Int.lt_or_eq_of_le h.1 with h3 | h3
    · exact h3
    · have := (h.2 h3).1; omega
  ntrans x y z h1 h2 := by
    unfold ltOf cfP at *
    simp at *
    have e1 := lexN_swap x.1.2.key y.1.2.key
    have e2 := lexN_swap y.1.2.key z.1.2.key
    have e3 := lexN_swap x.1.2.key z.1.2.key
    have h := lexN_trans z.1.2.key y.1.2.key x.1.2.key (by omega) (by omega)
    omega
section
variable {W0 : World} [Inhabited (Elem W0)]
theorem heap_sortP (w : World) (blk off m : Nat) (dk : Array (Elem W0)) (os : Array Obj) (k : Nat) (hk : k < w.heap.size) (hne : k ≠ blk) : (sortWorld encP w blk off m dk os).heap[k]? = w.heap[k]? := by
  unfold sortWorld
  have hz : (putRow encP (Sort.ahead w m) blk off dk).heap.size = w.heap.size := by simp [putRow, mapBlock, Sort.ahead]
  show ((putRow encP (Sort.ahead w m) blk off dk).heap ++ os)[k]? = _
  rw [Array.getElem?_append_left (by rw [hz]; exact hk)]
  unfold putRow mapBlock
  simp [Sort.ahead, Array.getElem?_modify, Ne.symm hne]
theorem size_sortP (w : World) (blk off m : Nat) (dk : Array (Elem W0)) (os : Array Obj) : (sortWorld encP w blk off m dk os).heap.size = w.heap.size + os.size := by
  show ((putRow encP (Sort.ahead w m) blk off dk).heap ++ os).size = _
  rw [Array.size_append]; simp [putRow, mapBlock, Sort.ahead]
end
theorem cmpLaysP (w : World) (hT : TabAt w) (blk off size : Nat) [Inhabited (Elem (wipe w blk))] (hb : blk < w.heap.size) (hne : blk ≠ 1) : CmpLays1 Tryd.prog 50 #[] (encP (W0 := wipe w blk)) cfP blk off size w := by
  intro m os dk _ x y
  have hk := heap_sortP w blk off m dk os
  have hs := size_sortP w blk off m dk os
  have hT2 : TabAt (sortWorld encP w blk off m dk os) := fun j hj => by
    have hc := hT j hj
    rw [← hc]
    exact World.cell?_of_block (w := w) (hk _ (World.block_lt_of_cell? _ _ hc) (Ne.symm hne))
  have h1 := x.2.1.unwipe (w' := sortWorld encP w blk off m dk os) hb (by omega) hk
  have h2 := y.2.1.unwipe (w' := sortWorld encP w blk off m dk os) hb (by omega) hk
  exact (reCompare_any x.1.2 y.1.2 x.1.1 y.1.1 _ x.2.2 y.2.2 h1 h2 hT2).mono fun e w' h => ⟨h.1, grown_of_below h.2.below h.2.drawn⟩

theorem sortRe_any (blk cap : Nat) (ps : List (Nat × RE)) (w : World) (hT : TabAt w) (hne : blk ≠ 1) (hl : ps.length < 4611686018427387904) (h0 : ps ≠ []) (hP : PtrsIn w blk ps) :
    Calls Tryd.prog 62 #[.slice (some ⟨blk, 0, none⟩) ps.length cap, .func (.func 50) #[] #[]] w fun e w' => e = .returned (.tuple #[]) ∧
      ∃ ps' : List (Nat × RE), ps'.Perm ps ∧ ps'.Pairwise (fun x y => lexN x.2.key y.2.key ≤ 0) ∧ PtrsIn w' blk ps' ∧ w'.os = w.os ∧ w'.tape = w.tape ∧ w'.output = w.output ∧ w.heap.size ≤ w'.heap.size ∧ ∀ k, k < w.heap.size → k ≠ blk → w'.heap[k]? = w.heap[k]? := by
  obtain ⟨p0, hp0⟩ := List.exists_mem_of_ne_nil ps h0
  letI : Inhabited (Elem (wipe w blk)) := ⟨⟨p0, hP.elem p0 hp0⟩⟩
  obtain ⟨d, hd⟩ : ∃ d : Array (Elem (wipe w blk)), d = (ps.attach.map fun p => (⟨p.1, hP.elem p.1 p.2⟩ : Elem (wipe w blk))).toArray := ⟨_, rfl⟩
  have hdm : d.toList.map (fun x => x.1) = ps := by
    subst hd
    show (ps.attach.map fun p => (⟨p.1, hP.elem p.1 p.2⟩ : Elem (wipe w blk))).map (fun x => x.1) = ps
    rw [List.map_map]
    exact List.attach_map_subtype_val ps
  have hsz : d.size = ps.length := by rw [← hdm, List.length_map]; simp
  have hget : ∀ (d : Array (Elem (wipe w blk))) j (hj : j < d.size), d[j]! = d[j] := fun d j hj => getElem!_pos d j hj
  have hH : Holds encP w blk 0 d := fun j hj => by
    rw [hget d j hj, Nat.zero_add]
    have := hP.cell j (d[j]).1 (by rw [← hdm]; simp [hj])
    exact this
  have hcon := Any.slices_SortFunc sortLaidRe (encP (W0 := wipe w blk)) (fun x => rfl) cfP swoP 50 #[] blk 0 cap d w (enters_of Tryd.func50 (by kernel_rfl) rfl) (cmpLaysP w hT blk 0 _ hP.lt hne) hH hP.lt (by omega)
  rw [hsz] at hcon
  refine Calls.mono hcon ?_
  rintro e w' ⟨rfl, d', n, os, ⟨hp1, -, hp3⟩, hs, rfl⟩
  have hk := heap_sortP w blk 0 n d' os
  have hz := size_sortP w blk 0 n d' os
  have hsz' : d'.size = ps.length := by omega
  refine ⟨rfl, d'.toList.map (fun x => x.1), ?_, ?_, ?_, rfl, rfl, rfl, by omega, hk⟩
  · rw [← hdm]
    refine List.Perm.map _ ?_
    have e1 : d'.extract 0 ps.length = d' := by rw [← hsz']; simp
    have e2 : d.extract 0 ps.length = d := by rw [← hsz]; simp
    rw [e1, e2] at hp3
    exact hp3
  · rw [List.pairwise_map, List.pairwise_iff_getElem]
    intro i j hi hj hij
    have h := hs i j (by omega) hij (by simp at hj; omega)
    simp only [Array.length_toList] at hi hj
    rw [hget d' i hi, hget d' j hj] at h
    unfold ltOf cfP at h
    simp at h
    have := lexN_swap (d'[i]).1.2.key (d'[j]).1.2.key
    simp only [Array.getElem_toList]
    omega
  · refine ⟨by have := hP.lt; omega, fun j p hp => ?_, fun p hp => ?_⟩
    · have h1 := holds_putRow encP (Sort.ahead w n) blk 0 d d' hH (by omega)
      have hj : j < d'.size := by have := (List.getElem?_eq_some_iff.1 hp).1; simpa using this
      have hlt : blk < (putRow encP (Sort.ahead w n) blk 0 d').heap.size := by simp [Sort.ahead]; exact hP.lt
      have h2 := h1 j hj
      rw [hget d' j hj, Nat.zero_add] at h2
      have hpe : p = (d'[j]).1 := by simpa [hj] using hp.symm
      refine ⟨?_, ?_⟩
      · rw [show sortWorld encP w blk 0 n d' os = grow (putRow encP (Sort.ahead w n) blk 0 d') os from rfl, cell?_grow _ _ _ hlt, h2.1, hpe]; rfl
      · rw [show sortWorld encP w blk 0 n d' os = grow (putRow encP (Sort.ahead w n) blk 0 d') os from rfl, frozen?_grow _ _ _ hlt]; exact h2.2
    · obtain ⟨x, -, rfl⟩ := List.mem_map.1 hp
      exact ⟨x.2.1.rewipe hP.lt (by omega) hk, x.2.2⟩
end Go.Proofs.YthemadegffhmfaaDoor
/- slices.CompactFunc at expressions. -/
namespace Go.Proofs.YthemadegffhmfaaDoor
set_option maxRecDepth 100000
set_option linter.unusedSimpArgs false
set_option linter.unusedVariables false
open Go.RowKit

def pD : Nat × RE := (0, rNothing)
/-- Is a place's expression another one than the one ahead of it? -/
def keepAt (ps : List (Nat × RE)) (k : Nat) : Bool := !(lexN (ps.getD k pD).2.key (ps.getD (k - 1) pD).2.key == 0)
/-- The first k, without those that come again. -/
def cpt (ps : List (Nat × RE)) : Nat → List (Nat × RE)
  | 0 => []
  | k + 1 => cpt ps k ++ (if k = 0 ∨ keepAt ps k = true then [ps.getD k pD] else [])
theorem cpt_len (ps : List (Nat × RE)) : ∀ k, (cpt ps k).length ≤ k
  | 0 => by simp [cpt]
  | k + 1 => by
    have := cpt_len ps k
    simp only [cpt, List.length_append]
    split <;> simp <;> omega
theorem cpt_mem (ps : List (Nat × RE)) : ∀ k, k ≤ ps.length → ∀ p ∈ cpt ps k, p ∈ ps
  | 0, _ => by simp [cpt]
  | k + 1, h => by
    intro p hp
    simp only [cpt, List.mem_append] at hp
    rcases hp with hp | hp
    · exact cpt_mem ps k (by omega) p hp
    · split at hp
      · simp at hp; subst hp
        simp [List.getD_eq_getElem?_getD, show k < ps.length by omega]
      · simp at hp
theorem x_callV2 (ρ : Operand → Value) (d : Option Tmp) (f : FuncId) (c x y : Operand) (t t1 t2 : TypeId) (pos : String) (af : Array Edge) (g : Option (Nat × Bool)) (u v : Value) (hc : ρ c = .func (.func f) #[] #[]) (hx : ρ x = u) (hy : ρ y = v) (hf : ∀ args w, (callFunc f args).run Tryd.prog w = .ok (.enter f args) w) (w : World) :
    (execOp ρ { dst := d, op := .call { callee := .value c, args := #[x, y], argTypes := #[t1, t2] }, type := t, pos := pos, after := af, guard := g }).run Tryd.prog w = .ok (.enter f #[u, v]) w := by
  simp [go_sem, hc, hx, hy, hf]
theorem x_idxP (ρ : Operand → Value) (d : Option Tmp) (x y : Operand) (t : TypeId) (pos : String) (af : Array Edge) (g : Option (Nat × Bool)) (b off len cap n : Nat) (hx : ρ x = .slice (some ⟨b, off, none⟩) len cap) (hy : ρ y = .int .i64 n) (h1 : n < len) (w : World) :
    (execOp ρ { dst := d, op := .indexAddr 35 x y, type := t, pos := pos, after := af, guard := g }).run Tryd.prog w = .ok (.value (.pointer (some ⟨b, off + n, none⟩))) w := by
  simp [go_sem, hx, hy, h1]
theorem x_loadP (ρ : Operand → Value) (d : Option Tmp) (x : Operand) (t : TypeId) (pos : String) (af : Array Edge) (g : Option (Nat × Bool)) (b n : Nat) (v : Value) (hx : ρ x = .pointer (some ⟨b, n, none⟩)) (w : World) (hc : w.cell? ⟨b, n, none⟩ = some v) :
    (execOp ρ { dst := d, op := .load 27 x, type := t, pos := pos, after := af, guard := g }).run Tryd.prog w = .ok (.value v) w := by
  simp [go_sem, hx, hc]
theorem x_sub1 (ρ : Operand → Value) (d : Option Tmp) (x : Operand) (t : TypeId) (pos : String) (af : Array Edge) (g : Option (Nat × Bool)) (n : Nat) (hx : ρ x = .int .i64 n) (hy : ρ (.const (.int .i64 1)) = .int .i64 1) (h0 : 0 < n) (h1 : n ≤ 9223372036854775807) (w : World) :
    (execOp ρ { dst := d, op := .binOp .sub 3 x (.const (.int .i64 1)) 3, type := t, pos := pos, after := af, guard := g }).run Tryd.prog w = .ok (.value (.int .i64 ((n - 1 : Nat) : Int))) w := by
  have e : IntKind.i64.wrap ((n : Int) - 1) = ((n - 1 : Nat) : Int) := by rw [IntKind.wrap_i64]; omega
  simp [go_sem, hx, hy, e]

/-- What CompactFunc keeps: the block's cells, as a function; all else as it was. -/
structure CpW (w : World) (blk n : Nat) (f : Nat → Value) (W : World) : Prop where
  os : W.os = w.os
  tape : W.tape = w.tape
  output : W.output = w.output
  size : w.heap.size ≤ W.heap.size
  other : ∀ k, k < w.heap.size → k ≠ blk → W.heap[k]? = w.heap[k]?
  cell : ∀ j, j < n → W.cell? ⟨blk, j, none⟩ = some (f j)
  frozen : ∀ j, j < n → W.frozen? ⟨blk, j, none⟩ = false
theorem CpW.more {w W W' : World} {blk n : Nat} {f : Nat → Value} (h : CpW w blk n f W) (hb : blk < w.heap.size) (hm : More W W') : CpW w blk n f W' := by
  have hs := h.size
  refine ⟨hm.below.os.trans h.os, hm.below.tape.trans h.tape, hm.below.output.trans h.output, Nat.le_trans h.size hm.below.size, fun k hk hne => (hm.below.block k (by omega)).trans (h.other k hk hne), fun j hj => ?_, fun j hj => ?_⟩
  · rw [← h.cell j hj]; exact World.cell?_of_block (w := W) (hm.below.block blk (by omega))
  · rw [← h.frozen j hj]
    have := hm.below.block blk (show blk < W.heap.size by omega)
    unfold World.frozen?
    simp only [this]
theorem CpW.drew {w W : World} {blk n : Nat} {f : Nat → Value} (h : CpW w blk n f W) : CpW w blk n f { W with drawn := W.drawn + 1 } := ⟨h.os, h.tape, h.output, h.size, h.other, h.cell, h.frozen⟩
theorem CpW.set {w W : World} {blk n : Nat} {f : Nat → Value} (h : CpW w blk n f W) (i : Nat) (hi : i < n) (v : Value) : CpW w blk n (fun j => if j = i then v else f j) (W.setCell ⟨blk, i, none⟩ v) := by
  refine ⟨h.os, h.tape, h.output, by simpa using h.size, fun k hk hne => (Below.heap_setCell _ _ _ _ hne).trans (h.other k hk hne), fun j hj => ?_, fun j hj => ?_⟩
  · by_cases e : j = i
    · subst e
      rw [if_pos rfl]
      exact World.cell?_setCell_same' _ _ _ (by rw [h.cell j hj]; rfl)
    · rw [if_neg e, ← h.cell j hj]
      exact World.cell?_setCell_other _ _ _ _ (by simp [e])
  · rw [← h.frozen j hj]; simp
theorem CpW.re {w W : World} {blk n b : Nat} {f : Nat → Value} {r : RE} (h : CpW w blk n f W) (hb : blk < w.heap.size) (hr : ReAt (wipe w blk) b r) : ReAt W b r := hr.unwipe hb h.size h.other
theorem CpW.tab {w W : World} {blk n : Nat} {f : Nat → Value} (h : CpW w blk n f W) (hne : blk ≠ 1) (hT : TabAt w) : TabAt W := fun j hj => by
  have hc := hT j hj
  rw [← hc]
  exact World.cell?_of_block (w := w) (h.other _ (World.block_lt_of_cell? _ _ hc) (Ne.symm hne))

theorem CpW.clear {w W : World} {blk n : Nat} {f : Nat → Value} (h : CpW w blk n f W) (i : Nat) (hi : i ≤ n) (hb : blk < w.heap.size) (v : Value) : CpW w blk n (fun j => if i ≤ j then v else f j) (W.setCells blk i (List.replicate (n - i) v)) := by
  have hb2 : Below 0 W (W.setCells blk i (List.replicate (n - i) v)) := below_setCells blk (Nat.zero_le _) _ _ (Below.refl _ _)
  have hsz := size_setCells blk (List.replicate (n - i) v) i W
  refine ⟨hb2.os.trans h.os, hb2.tape.trans h.tape, hb2.output.trans h.output, by rw [hsz]; exact h.size, fun k hk hne => (heap_setCells blk k hne _ _ _).trans (h.other k hk hne), fun j hj => ?_, fun j hj => by rw [World.frozen?_setCells]; exact h.frozen j hj⟩
  by_cases e : i ≤ j
  · rw [if_pos e]
    have := World.cell?_setCells_in blk (List.replicate (n - i) v) i W (fun q hq => by rw [h.cell (i + q) (by simp at hq; omega)]; rfl) (j - i) (by simp; omega)
    rw [show i + (j - i) = j from by omega] at this
    rw [this]; simp
  · rw [if_neg e, ← h.cell j hj]
    exact World.cell?_setCells_out blk _ _ _ _ (fun _ _ => .inl (by simp; omega))
theorem zeroP (w : World) : (zeroValue 27).run Tryd.prog w = .ok (.pointer none) w := by
  have h : (Tryd.prog.info? 27).map (·.zero) = some (some (.pointer none)) := by kernel_rfl
  cases hi : Tryd.prog.info? 27 with
  | none => rw [hi] at h; cases h
  | some i => rw [hi] at h; simp at h; simp [zeroValue, typeInfo, hi, h]

set_option maxHeartbeats 2000000 in
theorem compact_any (blk cap : Nat) (ps : List (Nat × RE)) (w : World) (hT : TabAt w) (hne : blk ≠ 1) (hl : ps.length ≤ 4611686018427387904) (h0 : ps ≠ []) (hcap : ps.length ≤ cap) (hP : PtrsIn w blk ps) :
    Calls Tryd.prog 63 #[.slice (some ⟨blk, 0, none⟩) ps.length cap, .func (.func 23) #[] #[]] w fun e w' =>
      e = .returned (.slice (some ⟨blk, 0, none⟩) (cpt ps ps.length).length cap) ∧ ∃ f, CpW w blk ps.length f w' ∧ ∀ j p, (cpt ps ps.length)[j]? = some p → f j = PT p.1 := by
  have ent := enters_of Tryd.func23 (by kernel_rfl) rfl
  have hn0 : 0 < ps.length := List.length_pos_iff.2 h0
  obtain ⟨f0, hf0⟩ : ∃ f0 : Nat → Value, f0 = fun j => PT (ps.getD j pD).1 := ⟨_, rfl⟩
  have hget : ∀ j, j < ps.length → ps[j]? = some (ps.getD j pD) := fun j hj => by simp [List.getD_eq_getElem?_getD, hj]
  have hW0 : CpW w blk ps.length f0 w := ⟨rfl, rfl, rfl, Nat.le_refl _, fun _ _ _ => rfl, fun j hj => by rw [hf0]; exact (hP.cell j _ (hget j hj)).1, fun j hj => (hP.cell j _ (hget j hj)).2⟩
  have hel : ∀ j, j < ps.length → ReAt (wipe w blk) (ps.getD j pD).1 (ps.getD j pD).2 ∧ WfK (ps.getD j pD).2 := fun j hj => hP.elem _ (List.mem_of_getElem? (hget j hj))
  have hlt := hP.lt
  -- what Same tells of two places, in whatever world of the walk
  have hsame : ∀ i j, i < ps.length → j < ps.length → ∀ f W, CpW w blk ps.length f W → Calls Tryd.prog 23 #[PT (ps.getD i pD).1, PT (ps.getD j pD).1] W fun e w' => e = .returned (.bool (lexN (ps.getD i pD).2.key (ps.getD j pD).2.key == 0)) ∧ CpW w blk ps.length f w' := fun i j hi hj f W hW =>
    (same_re _ _ _ _ W (hel i hi).2 (hel j hj).2 (hW.re hlt (hel i hi).1) (hW.re hlt (hel j hj).1) (hW.tab hne hT)).mono fun e w' h => ⟨h.1, hW.more hlt h.2⟩
  generalize hn : ps.length = n at *
  have HS := hide hsame
  clear hsame hP h0 hT
  go_enter Tryd.func63, Tryd.ntmps63
  by_cases h2 : n < 2
  · have hd : decide ((n : Int) < 2) = true := by simp; omega
    have hd' : decide (n < 2) = true := by simp [h2]
    obtain rfl : n = 1 := by omega
    go_wp2
    go_ret
    refine ⟨by simp [cpt], f0, hW0, fun j p hp => ?_⟩
    simp [cpt] at hp
    have hj : j = 0 := by have := (List.getElem?_eq_some_iff.1 hp).1; simp at this; omega
    subst hj
    simp at hp
    rw [hf0, ← hp]
    rfl
  · have hd : decide ((n : Int) < 2) = false := by simp; omega
    have hd' : decide (n < 2) = false := by simp; omega
    have hI0 : cpt ps 1 = ps.take 1 := by
      cases ps with
      | nil => simp at hn; omega
      | cons x r => simp [cpt]
    go_wp2
    go_loopw [5] (fun k wr => ∃ kk : Nat, 1 ≤ kk ∧ kk ≤ n ∧ k = .int .i64 kk ∧ Hid (cpt ps kk = ps.take kk) ∧ Hid (CpW w blk n f0 wr)) (fun k _ => n - (intOf k).toNat)
    case atStart => exact ⟨1, by omega, by omega, rfl, hI0, hW0⟩
    case round =>
      clear hI0 hW0
      obtain ⟨k, hk1, hk2, rfl, HI, HW⟩ := hrel
      by_cases hlt2 : k < n
      · have hkd : decide (k < n) = true := by simp [hlt2]
        go_wp2
        refine w_lit (C := CpW w blk n f0) (by kernel_rfl) (by kernel_rfl) HW.out.drew ?_
        refine w_value (.func (.func 23) #[] #[]) (by kernel_rfl) (fun w hw => x_move _ _ _ _ _ _ _ _ rfl w) ?_
        simp only [Act.put, List.setIfInBounds_toArray, List.set_cons_succ, List.set_cons_zero]
        refine w_value (.slice (some ⟨blk, 0, none⟩) n cap) (by kernel_rfl) (fun w hw => x_move _ _ _ _ _ _ _ _ rfl w) ?_
        simp only [Act.put, List.setIfInBounds_toArray, List.set_cons_succ, List.set_cons_zero]
        refine w_value (.int .i64 k) (by kernel_rfl) (fun w hw => x_move _ _ _ _ _ _ _ _ rfl w) ?_
        simp only [Act.put, List.setIfInBounds_toArray, List.set_cons_succ, List.set_cons_zero]
        refine w_value (.pointer (some ⟨blk, 0 + k, none⟩)) (by kernel_rfl) (fun w hw => x_idxP _ _ _ _ _ _ _ _ blk 0 n cap k rfl rfl hlt2 w) ?_
        simp only [Act.put, List.setIfInBounds_toArray, List.set_cons_succ, List.set_cons_zero]
        refine w_value (PT (ps.getD k pD).1) (by kernel_rfl) (fun w hw => x_loadP _ _ _ _ _ _ _ _ _ _ rfl w (by rw [Nat.zero_add, hw.cell k hlt2, hf0])) ?_
        simp only [Act.put, List.setIfInBounds_toArray, List.set_cons_succ, List.set_cons_zero]
        refine w_value (.slice (some ⟨blk, 0, none⟩) n cap) (by kernel_rfl) (fun w hw => x_move _ _ _ _ _ _ _ _ rfl w) ?_
        simp only [Act.put, List.setIfInBounds_toArray, List.set_cons_succ, List.set_cons_zero]
        refine w_value (.int .i64 k) (by kernel_rfl) (fun w hw => x_move _ _ _ _ _ _ _ _ rfl w) ?_
        simp only [Act.put, List.setIfInBounds_toArray, List.set_cons_succ, List.set_cons_zero]
        refine w_value (.int .i64 ((k - 1 : Nat) : Int)) (by kernel_rfl) (fun w hw => x_sub1 _ _ _ _ _ _ _ k rfl rfl (by omega) (by omega) w) ?_
        simp only [Act.put, List.setIfInBounds_toArray, List.set_cons_succ, List.set_cons_zero]
        refine w_value (.pointer (some ⟨blk, 0 + (k - 1), none⟩)) (by kernel_rfl) (fun w hw => x_idxP _ _ _ _ _ _ _ _ blk 0 n cap (k - 1) rfl rfl (by omega) w) ?_
        simp only [Act.put, List.setIfInBounds_toArray, List.set_cons_succ, List.set_cons_zero]
        refine w_value (PT (ps.getD (k - 1) pD).1) (by kernel_rfl) (fun w hw => x_loadP _ _ _ _ _ _ _ _ _ _ rfl w (by rw [Nat.zero_add, hw.cell (k - 1) (by omega), hf0])) ?_
        simp only [Act.put, List.setIfInBounds_toArray, List.set_cons_succ, List.set_cons_zero]
        refine w_callC 23 #[PT (ps.getD k pD).1, PT (ps.getD (k - 1) pD).1] (.bool (lexN (ps.getD k pD).2.key (ps.getD (k - 1) pD).2.key == 0)) (by kernel_rfl) (x_callV2 _ _ _ _ _ _ _ _ _ _ _ _ _ _ rfl rfl rfl ent) (fun W hW => HS.out k (k - 1) hlt2 (by omega) f0 W hW) ?_
        simp only [Act.put, List.setIfInBounds_toArray, List.set_cons_succ, List.set_cons_zero]
        refine w_nil ?_
        intro w1 hW1
        have HW1 := hide hW1
        clear hW1 HW
        cases hsm : (lexN (ps.getD k pD).2.key (ps.getD (k - 1) pD).2.key == 0) with
        | false =>
          have HI2 : Hid (cpt ps (k + 1) = ps.take (k + 1)) := by
            show cpt ps (k + 1) = ps.take (k + 1)
            rw [List.take_add_one, hget k hlt2]
            simp only [cpt, keepAt, hsm, HI.out]
            simp
          go_wp2
          exact ⟨⟨k + 1, by omega, by omega, by go_num, HI2, HW1⟩, by simp [intOf]; omega⟩
        | true =>
          have HC1 : Hid (cpt ps (k + 1) = ps.take k) := by
            show cpt ps (k + 1) = ps.take k
            simp only [cpt, keepAt, hsm, HI.out]
            simp; omega
          have hck : ¬ cap = k := by omega
          have hlk : (cpt ps (k + 1)).length = k := by rw [HC1.out, List.length_take]; omega
          have hst : ∀ j p, (cpt ps (k + 1))[j]? = some p → f0 j = PT p.1 := fun j p hp => by
            rw [HC1.out, List.getElem?_take] at hp
            split at hp
            · rw [hf0]; simp [List.getD_eq_getElem?_getD, hp]
            · cases hp
          have HLK := hide hlk
          have HST := hide hst
          clear hlk hst
          go_wp2
          go_loopw [5, 7] (fun q c wr => ∃ (kk k2 : Nat) (f : Nat → Value), 1 ≤ k2 ∧ k2 ≤ n - k ∧ kk ≤ k + k2 - 1 ∧ q = .int .i64 kk ∧ c = .int .i64 k2 ∧ Hid (kk = (cpt ps (k + k2)).length) ∧ Hid (CpW w blk n f wr) ∧ Hid (∀ j p, (cpt ps (k + k2))[j]? = some p → f j = PT p.1) ∧ Hid (∀ j, k + k2 - 1 ≤ j → j < n → f j = PT (ps.getD j pD).1)) (fun _ c _ => n - (intOf c).toNat)
          case atStart => exact ⟨k, 1, f0, by omega, by omega, by omega, rfl, rfl, HLK.out.symm, HW1, HST, fun j _ _ => by rw [hf0]⟩
          case round =>
            clear HW1 HLK HST
            obtain ⟨kk, k2, f, hk2a, hk2b, hkk, rfl, rfl, HL, HWf, HF1, HF2⟩ := hrel
            by_cases hin : k2 < n - k
            · have hind : decide (k2 < n - k) = true := by simp [hin]
              have hi : k + k2 < n := by omega
              go_wp2
              refine w_lit (C := CpW w blk n f) (by kernel_rfl) (by kernel_rfl) HWf.out.drew ?_
              refine w_value (.func (.func 23) #[] #[]) (by kernel_rfl) (fun w hw => x_move _ _ _ _ _ _ _ _ rfl w) ?_
              simp only [Act.put, List.setIfInBounds_toArray, List.set_cons_succ, List.set_cons_zero]
              refine w_value (.slice (some ⟨blk, k, none⟩) (n - k) (cap - k)) (by kernel_rfl) (fun w hw => x_move _ _ _ _ _ _ _ _ rfl w) ?_
              simp only [Act.put, List.setIfInBounds_toArray, List.set_cons_succ, List.set_cons_zero]
              refine w_value (.int .i64 k2) (by kernel_rfl) (fun w hw => x_move _ _ _ _ _ _ _ _ rfl w) ?_
              simp only [Act.put, List.setIfInBounds_toArray, List.set_cons_succ, List.set_cons_zero]
              refine w_value (.pointer (some ⟨blk, k + k2, none⟩)) (by kernel_rfl) (fun w hw => x_idxP _ _ _ _ _ _ _ _ blk k (n - k) (cap - k) k2 rfl rfl hin w) ?_
              simp only [Act.put, List.setIfInBounds_toArray, List.set_cons_succ, List.set_cons_zero]
              refine w_value (PT (ps.getD (k + k2) pD).1) (by kernel_rfl) (fun w hw => x_loadP _ _ _ _ _ _ _ _ _ _ rfl w (by rw [hw.cell (k + k2) hi, HF2.out (k + k2) (by omega) hi])) ?_
              simp only [Act.put, List.setIfInBounds_toArray, List.set_cons_succ, List.set_cons_zero]
              refine w_value (.slice (some ⟨blk, k, none⟩) (n - k) (cap - k)) (by kernel_rfl) (fun w hw => x_move _ _ _ _ _ _ _ _ rfl w) ?_
              simp only [Act.put, List.setIfInBounds_toArray, List.set_cons_succ, List.set_cons_zero]
              refine w_value (.int .i64 k2) (by kernel_rfl) (fun w hw => x_move _ _ _ _ _ _ _ _ rfl w) ?_
              simp only [Act.put, List.setIfInBounds_toArray, List.set_cons_succ, List.set_cons_zero]
              refine w_value (.int .i64 ((k2 - 1 : Nat) : Int)) (by kernel_rfl) (fun w hw => x_sub1 _ _ _ _ _ _ _ k2 rfl rfl (by omega) (by omega) w) ?_
              simp only [Act.put, List.setIfInBounds_toArray, List.set_cons_succ, List.set_cons_zero]
              refine w_value (.pointer (some ⟨blk, k + (k2 - 1), none⟩)) (by kernel_rfl) (fun w hw => x_idxP _ _ _ _ _ _ _ _ blk k (n - k) (cap - k) (k2 - 1) rfl rfl (by omega) w) ?_
              simp only [Act.put, List.setIfInBounds_toArray, List.set_cons_succ, List.set_cons_zero]
              refine w_value (PT (ps.getD (k + k2 - 1) pD).1) (by kernel_rfl) (fun w hw => x_loadP _ _ _ _ _ _ _ _ _ _ rfl w (by rw [show k + (k2 - 1) = k + k2 - 1 from by omega, hw.cell (k + k2 - 1) (by omega), HF2.out (k + k2 - 1) (by omega) (by omega)])) ?_
              simp only [Act.put, List.setIfInBounds_toArray, List.set_cons_succ, List.set_cons_zero]
              refine w_callC 23 #[PT (ps.getD (k + k2) pD).1, PT (ps.getD (k + k2 - 1) pD).1] (.bool (lexN (ps.getD (k + k2) pD).2.key (ps.getD (k + k2 - 1) pD).2.key == 0)) (by kernel_rfl) (x_callV2 _ _ _ _ _ _ _ _ _ _ _ _ _ _ rfl rfl rfl ent) (fun W hW => HS.out (k + k2) (k + k2 - 1) hi (by omega) f W hW) ?_
              simp only [Act.put, List.setIfInBounds_toArray, List.set_cons_succ, List.set_cons_zero]
              refine w_value (.bool (!(lexN (ps.getD (k + k2) pD).2.key (ps.getD (k + k2 - 1) pD).2.key == 0))) (by kernel_rfl) (fun w hw => x_notBool _ _ _ _ _ _ _ _ rfl w) ?_
              simp only [Act.put, List.setIfInBounds_toArray, List.set_cons_succ, List.set_cons_zero]
              refine w_nil ?_
              clear HWf
              intro w2 hW2
              have HW2 := hide hW2
              have HKA : Hid (keepAt ps (k + k2) = !(lexN (ps.getD (k + k2) pD).2.key (ps.getD (k + k2 - 1) pD).2.key == 0)) := (rfl : keepAt ps (k + k2) = _)
              clear hW2
              cases hsm2 : (!(lexN (ps.getD (k + k2) pD).2.key (ps.getD (k + k2 - 1) pD).2.key == 0)) with
              | false =>
                have HC2 : Hid (cpt ps (k + (k2 + 1)) = cpt ps (k + k2)) := by
                  show cpt ps (k + k2 + 1) = cpt ps (k + k2)
                  have := HKA.out.trans hsm2
                  simp only [cpt, this]
                  simp; omega
                go_wp2
                exact ⟨⟨kk, k2 + 1, f, by omega, by omega, by omega, rfl, by go_num, (show kk = _ from by rw [HC2.out]; exact HL.out), HW2, (show ∀ j p, _ from by rw [HC2.out]; exact HF1.out), fun j hj hjn => HF2.out j (by omega) hjn⟩, by simp [intOf]; omega⟩
              | true =>
                have HC2 : Hid (cpt ps (k + (k2 + 1)) = cpt ps (k + k2) ++ [ps.getD (k + k2) pD]) := by
                  show cpt ps (k + k2 + 1) = _
                  have := HKA.out.trans hsm2
                  simp only [cpt, this]
                  simp
                have cA := HW2.out.cell (k + k2) hi
                rw [HF2.out (k + k2) (by omega) hi] at cA
                have fK := HW2.out.frozen kk (by omega)
                have cK := HW2.out.cell kk (by omega)
                have hkn : kk < n := by omega
                have hkn2 : decide (kk < n) = true := by simp [hkn]
                obtain ⟨pb, hpb⟩ : ∃ pb, pb = (ps.getD (k + k2) pD).1 := ⟨_, rfl⟩
                rw [← hpb] at cA
                have HPB := hide hpb
                unfold PT at cA
                generalize hfk : f kk = fkk at cK
                clear hpb
                go_wp2
                refine ⟨⟨kk + 1, k2 + 1, fun j => if j = kk then PT pb else f j, by omega, by omega, by omega, by go_num, by go_num, ?_, HW2.out.set kk hkn _, ?_, ?_⟩, by simp [intOf]; omega⟩
                · show kk + 1 = _
                  rw [HC2.out, List.length_append, ← HL.out]; rfl
                · intro j p hp
                  rw [HC2.out] at hp
                  by_cases e : j = kk
                  · subst e
                    rw [List.getElem?_append_right (by have := HL.out; omega), ← HL.out] at hp
                    simp at hp
                    show (if j = j then PT pb else f j) = _
                    rw [if_pos rfl, HPB.out, ← hp]
                    simp [List.getD_eq_getElem?_getD]
                  · show (if j = kk then PT pb else f j) = _
                    rw [if_neg e]
                    refine HF1.out j p ?_
                    have hj : j < kk := by
                      have := (List.getElem?_eq_some_iff.1 hp).1
                      rw [List.length_append, ← HL.out] at this
                      simp at this; omega
                    rwa [List.getElem?_append_left (by rw [← HL.out]; exact hj)] at hp
                · intro j hj hjn
                  show (if j = kk then PT pb else f j) = _
                  rw [if_neg (by omega)]
                  exact HF2.out j (by omega) hjn
            · obtain rfl : k2 = n - k := by omega
              have hck2 : ¬ cap = kk := by omega
              have hkn : kk ≤ n := by omega
              have hkc : ¬ cap < kk := by omega
              have hclr := fun ty => Lib.run_clear_slice (P := Tryd.prog) wr 35 27 ty (.pointer none) Tryd.underlying35 zeroP rfl rfl blk kk (n - kk) (cap - kk) (by omega) (fun j hj => by rw [HWf.out.cell (kk + j) (by omega)]; rfl) (fun j hj => HWf.out.frozen (kk + j) (by omega))
              have HCL := hide (HWf.out.clear kk hkn hlt (.pointer none))
              have HLE := hide hkk
              clear HWf
              go_wp2
              go_ret
              have hnk : k + (n - k) = n := by omega
              have hl1 := HL.out
              have hf1 := HF1.out
              rw [hnk] at hl1 hf1
              refine ⟨by rw [← hl1]; rfl, _, HCL.out, fun j p hp => ?_⟩
              have hj : j < kk := by rw [hl1]; exact (List.getElem?_eq_some_iff.1 hp).1
              show (if kk ≤ j then _ else f j) = _
              rw [if_neg (by omega)]
              exact hf1 j p hp
      · obtain rfl : k = n := by omega
        go_wp2
        go_ret
        have hI := HI.out
        rw [← hn, List.take_length] at hI
        refine ⟨?_, f0, HW.out, fun j p hp => ?_⟩
        · rw [← hn, hI, hn]; rfl
        · rw [← hn, hI] at hp
          rw [hf0]
          simp [List.getD_eq_getElem?_getD, hp]
end Go.Proofs.YthemadegffhmfaaDoor
/- Lists of expressions in the order of their keys, each once. -/
namespace Go.Proofs.YthemadegffhmfaaDoor
set_option maxRecDepth 100000
set_option linter.unusedSimpArgs false
set_option linter.unusedVariables false
open Go.RowKit

def ltK (a b : RE) : Prop := lexN a.key b.key < 0
theorem ltK_trans {a b c : RE} (h1 : ltK a b) (h2 : ltK b c) : ltK a c := by
  unfold ltK at *
  have h := lexN_trans a.key b.key c.key (by omega) (by omega)
  rcases Int.lt_or_eq_of_le h.1 with h3 | h3
  · exact h3
  · have := (h.2 h3).1; omega
theorem ltK_irrefl {a : RE} (h : ltK a a) : False := by unfold ltK at h; rw [lexN_self] at h; omega
theorem ltK_asymm {a b : RE} (h1 : ltK a b) (h2 : ltK b a) : False := ltK_irrefl (ltK_trans h1 h2)
/-- Two lists that go up and have the same members are one. -/
theorem up_unique : ∀ (a b : List RE), a.Pairwise ltK → b.Pairwise ltK → (∀ r, r ∈ a ↔ r ∈ b) → a = b
  | [], [], _, _, _ => rfl
  | [], y :: b, _, _, h => by have := (h y).2 (by simp); simp at this
  | x :: a, [], _, _, h => by have := (h x).1 (by simp); simp at this
  | x :: a, y :: b, ha, hb, h => by
    have ha' := List.pairwise_cons.1 ha
    have hb' := List.pairwise_cons.1 hb
    have e : x = y := by
      rcases List.mem_cons.1 ((h x).1 (by simp)) with e | hx
      · exact e
      · rcases List.mem_cons.1 ((h y).2 (by simp)) with e | hy
        · exact e.symm
        · exact (ltK_asymm (hb'.1 x hx) (ha'.1 y hy)).elim
    subst e
    have := up_unique a b ha'.2 hb'.2 fun r => by
      constructor
      · intro hr
        rcases List.mem_cons.1 ((h r).1 (by simp [hr])) with e | hx
        · subst e; exact (ltK_irrefl (ha'.1 r hr)).elim
        · exact hx
      · intro hr
        rcases List.mem_cons.1 ((h r).2 (by simp [hr])) with e | hx
        · subst e; exact (ltK_irrefl (hb'.1 r hr)).elim
        · exact hx
    rw [this]
/-- One more, in its place. -/
def insK (x : RE) : List RE → List RE
  | [] => [x]
  | y :: r => if lexN x.key y.key < 0 then x :: y :: r else if lexN x.key y.key = 0 then y :: r else y :: insK x r
def ordL (l : List RE) : List RE := l.foldr insK []
theorem mem_insK {x : RE} (hx : WfK x) : ∀ (l : List RE), (∀ y ∈ l, WfK y) → ∀ r, r ∈ insK x l ↔ r = x ∨ r ∈ l
  | [], _, r => by simp [insK]
  | y :: l, hl, r => by
    have ih := mem_insK hx l (fun y hy => hl y (by simp [hy])) r
    simp only [insK]
    split
    · simp
    · split
      · rename_i h1 h2
        have e := key_inj hx (hl y (by simp)) (lexN_zero _ _ h2)
        subst e
        simp
      · simp only [List.mem_cons, ih]
        constructor
        · rintro (h | h | h) <;> simp [h]
        · rintro (h | h | h) <;> simp [h]
theorem up_insK {x : RE} (hx : WfK x) : ∀ (l : List RE), (∀ y ∈ l, WfK y) → l.Pairwise ltK → (insK x l).Pairwise ltK
  | [], _, _ => by simp [insK]
  | y :: l, hl, h => by
    have h' := List.pairwise_cons.1 h
    simp only [insK]
    split
    · rename_i h1
      refine List.pairwise_cons.2 ⟨fun z hz => ?_, h⟩
      rcases List.mem_cons.1 hz with rfl | hz
      · exact h1
      · exact ltK_trans h1 (h'.1 z hz)
    · split
      · exact h
      · rename_i h1 h2
        refine List.pairwise_cons.2 ⟨fun z hz => ?_, up_insK hx l (fun y hy => hl y (by simp [hy])) h'.2⟩
        rcases (mem_insK hx l (fun y hy => hl y (by simp [hy])) z).1 hz with rfl | hz
        · have := lexN_swap z.key y.key
          unfold ltK; omega
        · exact h'.1 z hz
theorem ordL_spec : ∀ (l : List RE), (∀ y ∈ l, WfK y) → (ordL l).Pairwise ltK ∧ ∀ r, r ∈ ordL l ↔ r ∈ l
  | [], _ => by simp [ordL]
  | x :: l, hl => by
    have ih := ordL_spec l (fun y hy => hl y (by simp [hy]))
    have hx := hl x (by simp)
    have hw : ∀ y ∈ ordL l, WfK y := fun y hy => hl y (by simp [(ih.2 y).1 hy])
    refine ⟨up_insK hx _ hw ih.1, fun r => ?_⟩
    rw [show ordL (x :: l) = insK x (ordL l) from rfl, mem_insK hx _ hw r, ih.2 r]
    simp
theorem ordL_eq {a l : List RE} (hl : ∀ y ∈ l, WfK y) (ha : a.Pairwise ltK) (h : ∀ r, r ∈ a ↔ r ∈ l) : a = ordL l :=
  up_unique _ _ ha (ordL_spec l hl).1 fun r => (h r).trans ((ordL_spec l hl).2 r).symm

/-- What SortFunc and CompactFunc leave. -/
theorem cpt_up (ps : List (Nat × RE)) (hs : ps.Pairwise fun x y => lexN x.2.key y.2.key ≤ 0) : ∀ k, 0 < k → k ≤ ps.length →
    ((cpt ps k).Pairwise fun x y => lexN x.2.key y.2.key < 0) ∧ (∀ p ∈ cpt ps k, lexN p.2.key (ps.getD (k - 1) pD).2.key ≤ 0) ∧ (∀ j, j < k → ∃ p ∈ cpt ps k, lexN p.2.key (ps.getD j pD).2.key = 0)
  | 0, h, _ => by omega
  | k + 1, _, hk => by
    by_cases h0 : k = 0
    · subst h0
      simp only [cpt, List.nil_append, true_or, if_true]
      refine ⟨by simp, fun p hp => ?_, fun j hj => ⟨ps.getD 0 pD, by simp, ?_⟩⟩
      · simp at hp; subst hp; simp [List.getD_eq_getElem?_getD]; rw [lexN_self]; omega
      · obtain rfl : j = 0 := by omega
        exact lexN_self _
    · obtain ⟨i1, i2, i3⟩ := cpt_up ps hs k (by omega) (by omega)
      have hstep : lexN (ps.getD (k - 1) pD).2.key (ps.getD k pD).2.key ≤ 0 := by
        have := List.pairwise_iff_getElem.1 hs (k - 1) k (by omega) (by omega) (by omega)
        simpa [List.getD_eq_getElem?_getD, show k - 1 < ps.length by omega, show k < ps.length by omega] using this
      simp only [Nat.add_sub_cancel]
      cases hkeep : keepAt ps k with
      | false =>
        have hz : lexN (ps.getD k pD).2.key (ps.getD (k - 1) pD).2.key = 0 := by simpa [keepAt] using hkeep
        have hkeq := lexN_zero _ _ hz
        simp only [cpt, hkeep, h0]
        simp only [Bool.false_eq_true, or_self, if_false, List.append_nil]
        refine ⟨i1, fun p hp => by rw [hkeq]; exact i2 p hp, fun j hj => ?_⟩
        by_cases e : j = k
        · subst e
          obtain ⟨p, hp, h⟩ := i3 (j - 1) (by omega)
          exact ⟨p, hp, by rw [hkeq]; exact h⟩
        · exact i3 j (by omega)
      | true =>
        have hz : lexN (ps.getD k pD).2.key (ps.getD (k - 1) pD).2.key ≠ 0 := by simpa [keepAt] using hkeep
        simp only [cpt, hkeep, or_true, if_true]
        refine ⟨List.pairwise_append.2 ⟨i1, by simp, fun p hp q hq => ?_⟩, fun p hp => ?_, fun j hj => ?_⟩
        · simp at hq; subst hq
          have h := lexN_trans _ _ _ (i2 p hp) hstep
          have hsw := lexN_swap (ps.getD k pD).2.key (ps.getD (k - 1) pD).2.key
          rcases Int.lt_or_eq_of_le h.1 with h3 | h3
          · exact h3
          · have := (h.2 h3).2; omega
        · rcases List.mem_append.1 hp with hp | hp
          · exact (lexN_trans _ _ _ (i2 p hp) hstep).1
          · simp at hp; subst hp
            simp only [List.getD_eq_getElem?_getD]; rw [lexN_self]; omega
        · by_cases e : j = k
          · subst e
            exact ⟨ps.getD j pD, by simp, lexN_self _⟩
          · obtain ⟨p, hp, h⟩ := i3 j (by omega)
            exact ⟨p, by simp [hp], h⟩
theorem cpt_ord {ps qs : List (Nat × RE)} (hp : ps.Perm qs) (hs : ps.Pairwise fun x y => lexN x.2.key y.2.key ≤ 0) (hw : ∀ p ∈ qs, WfK p.2) (h0 : ps ≠ []) : (cpt ps ps.length).map Prod.snd = ordL (qs.map Prod.snd) := by
  have hl := List.length_pos_iff.2 h0
  obtain ⟨i1, -, i3⟩ := cpt_up ps hs ps.length hl (Nat.le_refl _)
  refine ordL_eq (fun y hy => ?_) ?_ fun r => ?_
  · obtain ⟨p, hp', rfl⟩ := List.mem_map.1 hy
    exact hw p hp'
  · rw [List.pairwise_map]; exact i1
  · simp only [List.mem_map]
    constructor
    · rintro ⟨p, hp', rfl⟩
      exact ⟨p, hp.subset (cpt_mem ps ps.length (Nat.le_refl _) p hp'), rfl⟩
    · rintro ⟨p, hp', rfl⟩
      have hpp := hp.symm.subset hp'
      obtain ⟨j, hj, hj2⟩ := List.getElem_of_mem hpp
      obtain ⟨q, hq, hq2⟩ := i3 j hj
      have e : ps.getD j pD = p := by simp [List.getD_eq_getElem?_getD, hj, hj2]
      rw [e] at hq2
      exact ⟨q, hq, key_inj (hw q (hp.subset (cpt_mem ps ps.length (Nat.le_refl _) q hq))) (hw p hp') (lexN_zero _ _ hq2)⟩
end Go.Proofs.YthemadegffhmfaaDoor
/- Rows of expressions that a call makes: flat, inOrder, Then. -/
namespace Go.Proofs.YthemadegffhmfaaDoor
set_option maxRecDepth 100000
set_option linter.unusedSimpArgs false
set_option linter.unusedVariables false
open Go.RowKit

def ptrs (ps : List (Nat × RE)) : List Value := ps.map fun p => PT p.1
theorem ptrs_one (ps : List (Nat × RE)) : ∀ u ∈ ptrs ps, u.oneCell' = true := by
  intro u hu
  obtain ⟨p, -, rfl⟩ := List.mem_map.1 hu
  rfl
theorem infoP : (Tryd.prog.info? 27).map (fun i => (i.zero, i.size, i.bytes)) = some (some (.pointer none), 1, 8) := by kernel_rfl
/-- A slice of these pointers. -/
def RowAt (w : World) (v : Value) (qs : List (Nat × RE)) : Prop :=
  (qs.length ≤ 4611686018427387904 ∧ capOk v) ∧ ∃ a cap, v = .slice a qs.length cap ∧ ∀ j p, qs[j]? = some p → ∃ b off, a = some ⟨b, off, none⟩ ∧ b < w.heap.size ∧ w.cell? ⟨b, off + j, none⟩ = some (PT p.1)
theorem ResRow.pairs {w : World} {v : Value} {l : List RE} (h : ResRow w v l) : ∃ qs : List (Nat × RE), qs.map Prod.snd = l ∧ (∀ p ∈ qs, ReAt w p.1 p.2) ∧ RowAt w v qs := by
  obtain ⟨bs, ⟨h0, a, cap, rfl, h1⟩, h2⟩ := h
  have hg : ∀ j p, (l.zipIdx.map fun q => (bs q.2, q.1))[j]? = some p → l[j]? = some p.2 ∧ p.1 = bs j := fun j p hp => by
    rw [List.getElem?_map, List.getElem?_zipIdx] at hp
    cases e : l[j]? with
    | none => rw [e] at hp; simp at hp
    | some r => rw [e] at hp; simp at hp; rw [← hp]; simp
  refine ⟨l.zipIdx.map fun q => (bs q.2, q.1), ?_, fun p hp => ?_, ⟨by simpa using h0.1, h0.2⟩, a, cap, by simp, fun j p hp => ?_⟩
  · rw [List.map_map]
    exact List.zipIdx_map_fst 0 l
  · obtain ⟨j, hj⟩ := List.getElem?_of_mem hp
    obtain ⟨e1, e2⟩ := hg j p hj
    rw [e2]; exact h2 j _ e1
  · obtain ⟨e1, e2⟩ := hg j p hp
    have hj : j < l.length := (List.getElem?_eq_some_iff.1 e1).1
    rw [e2]; exact h1 j hj
theorem RowAt.res {w : World} {v : Value} {qs : List (Nat × RE)} (h : RowAt w v qs) (hr : ∀ p ∈ qs, ReAt w p.1 p.2) : ResRow w v (qs.map Prod.snd) := by
  obtain ⟨h0, a, cap, rfl, h1⟩ := h
  refine ⟨fun i => (qs.getD i pD).1, ⟨⟨by simpa using h0.1, h0.2⟩, a, cap, by simp, fun k hk => ?_⟩, fun i k hk => ?_⟩
  · have hk' : k < qs.length := by simpa using hk
    have e : qs[k]? = some (qs.getD k pD) := by simp [List.getD_eq_getElem?_getD, hk']
    exact h1 k _ e
  · rw [List.getElem?_map] at hk
    cases e : qs[i]? with
    | none => rw [e] at hk; simp at hk
    | some p =>
      rw [e] at hk; simp at hk
      have := hr p (List.mem_of_getElem? e)
      rw [← hk]
      simpa [List.getD_eq_getElem?_getD, e] using this
theorem RowAt.below {w w' : World} {v : Value} {qs : List (Nat × RE)} (h : RowAt w v qs) (hb : Below w.heap.size w w') : RowAt w' v qs := by
  obtain ⟨h0, a, cap, rfl, h1⟩ := h
  refine ⟨h0, a, cap, rfl, fun j p hp => ?_⟩
  obtain ⟨b, off, e, hlt, hc⟩ := h1 j p hp
  refine ⟨b, off, e, Nat.lt_of_lt_of_le hlt hb.size, ?_⟩
  rw [← hc]; exact World.cell?_of_block (w := w) (hb.block b hlt)
theorem RowAt.news {w : World} {v : Value} {qs : List (Nat × RE)} (h : RowAt w v qs) (h0 : 0 < qs.length) : ∃ ad cap, v = .slice (some ad) qs.length cap ∧ ∀ j u, (ptrs qs)[j]? = some u → w.cell? (ad.add j) = some u := by
  obtain ⟨-, a, cap, rfl, h1⟩ := h
  obtain ⟨b, off, e, -, -⟩ := h1 0 qs[0] (List.getElem?_eq_getElem h0)
  subst e
  refine ⟨_, cap, rfl, fun j u hu => ?_⟩
  rw [ptrs, List.getElem?_map] at hu
  cases e : qs[j]? with
  | none => rw [e] at hu; cases hu
  | some p =>
    rw [e] at hu; simp at hu
    obtain ⟨b', off', e', -, hc⟩ := h1 j p e
    cases e'
    rw [Go.WideShapes.add_plain, hc, ← hu]
theorem ReAt.kidRow {w : World} {b : Nat} {r : RE} (h : ReAt w b r) : ∃ v qs, w.cell? ⟨b, 5, none⟩ = some v ∧ qs.map Prod.snd = r.kids ∧ (∀ p ∈ qs, ReAt w p.1 p.2) ∧ RowAt w v qs := by
  obtain ⟨v, hb, hrow⟩ := h.row
  obtain ⟨qs, h1, h2, h3⟩ := hrow.pairs
  exact ⟨v, qs, by rw [hb.cell]; rfl, h1, h2, h3⟩
/-- Pointers that the call owns. -/
def OwnP (W : World) (base : Nat) (v : Value) (ps : List (Nat × RE)) : Prop := W.ownsRow base 27 1 v ps.length (ptrs ps)
theorem OwnP.keep {W W' : World} {base : Nat} {v : Value} {ps : List (Nat × RE)} (h : OwnP W base v ps) (hb : Below W.heap.size W W') : OwnP W' base v ps := own_below h hb
theorem OwnP.row {W : World} {base : Nat} {v : Value} {ps : List (Nat × RE)} (h : OwnP W base v ps) (hl : ps.length ≤ 4611686018427387904) : RowAt W v ps := by
  rcases h.2 with ⟨rfl, hn⟩ | ⟨g, cap, cur, rfl, hb, hg, h1, h2, h3, h4⟩
  · have : ps = [] := List.eq_nil_of_length_eq_zero hn
    subst this
    exact ⟨⟨by simp, .mk (by simp)⟩, none, 0, rfl, fun j p hp => by simp at hp⟩
  · refine ⟨⟨hl, .mk h1⟩, _, cap, rfl, fun j p hp => ⟨g, 0, rfl, (Array.getElem?_eq_some_iff.1 hg).1, ?_⟩⟩
    have hblk : Blk W g cur 27 := hg
    have hj : j < ps.length := (List.getElem?_eq_some_iff.1 hp).1
    rw [hblk.cell, Nat.zero_add]
    have e : (cur.toList.take (ps.length * 1))[j]? = some (PT p.1) := by rw [h4, ptrs, List.getElem?_map, hp]; rfl
    rw [List.getElem?_take, if_pos (by omega)] at e
    simpa using e

def flatL (o : Nat) (l : List RE) : List RE := l.flatMap fun r => if r.op = o then r.kids else [r]
theorem flatL_take (o : Nat) (l : List RE) (k : Nat) (h : k < l.length) : flatL o (l.take (k + 1)) = flatL o (l.take k) ++ (if (l[k]).op = o then (l[k]).kids else [l[k]]) := by
  unfold flatL
  rw [List.take_succ_eq_append_getElem h, List.flatMap_append]; simp
theorem flatL_le (o : Nat) (l : List RE) (k : Nat) : (flatL o (l.take k)).length ≤ (flatL o l).length := by
  have : flatL o l = flatL o (l.take k) ++ flatL o (l.drop k) := by
    unfold flatL
    rw [← List.flatMap_append, List.take_append_drop]
  rw [this, List.length_append]; omega
theorem grown_none {w w' : World} (h : w.grownBy w' none) : Below w.heap.size w w' := ⟨h.os, h.tape, h.output, h.size, fun k hk => h.block k hk (by simp)⟩

set_option maxHeartbeats 1000000 in
theorem flat_any (o : Nat) (l : List RE) (v : Value) (w : World) (h : ResRow w v l) (hw : ∀ r ∈ l, r.op = o → 0 < r.kids.length) (hl : l.length ≤ 1099511627776) (hlen : (flatL o l).length ≤ 1099511627776) :
    Calls Tryd.prog 43 #[.int .i64 o, v] w fun e w' => ∃ v' ps, e = .returned v' ∧ ps.map Prod.snd = flatL o l ∧ OwnP w' w.heap.size v' ps ∧ (∀ p ∈ ps, ReAt w p.1 p.2) ∧ Below w.heap.size w w' := by
  have HR := hide h
  obtain ⟨hn, ad, cap, rfl, -⟩ := h.at
  clear h
  obtain ⟨i, hi, hz0, hz1, hz2⟩ := info_parts infoP
  obtain ⟨B, hB⟩ : ∃ B, B = w.heap.size := ⟨_, rfl⟩
  rw [← hB]
  have HB := hide hB
  clear hB
  go_enter Tryd.func43, Tryd.ntmps43
  go_wp2_with (refine wpList_make_own _ rfl _ _ _ rfl B _ i _ 1 Tryd.underlying35 hi hz0 hz1 .i64 .i64 _ l.length rfl rfl rfl (by rw [hz2]; omega) (by unfold maxLen; omega) (Nat.le_of_eq HB.out) ?_; intro w1 ho1 hg1)
  have hO0 : OwnP w1 B (.slice (some ⟨w.heap.size, 0, none⟩) 0 l.length) [] := ho1
  have hB0 : Below B w w1 := HB.out ▸ grown_none hg1
  clear ho1 hg1
  go_loopw [5, 13] (fun out c wr => ∃ (k : Nat) (ps : List (Nat × RE)), k ≤ l.length ∧ c = .int .i64 k ∧ Hid (ps.map Prod.snd = flatL o (l.take k)) ∧ Hid (OwnP wr B out ps) ∧ Hid (∀ p ∈ ps, ReAt w p.1 p.2) ∧ Hid (Below B w wr)) (fun _ c _ => l.length - (intOf c).toNat)
  case atStart => exact ⟨0, [], by omega, rfl, rfl, hO0, fun p hp => by simp at hp, hB0⟩
  case round =>
    clear hO0 hB0
    obtain ⟨k, ps, hk, rfl, HS, HO, HE, HW⟩ := hrel
    have hW := HB.out ▸ HW.out
    obtain ⟨-, ad', cap', e1, g1⟩ := (HR.out.below (by rw [← HB.out]; exact HW.out)).at
    obtain ⟨rfl, rfl⟩ : ad = ad' ∧ cap = cap' := by cases e1; exact ⟨rfl, rfl⟩
    obtain ⟨-, ad'', cap'', e2, g2⟩ := HR.out.at
    obtain ⟨rfl, rfl⟩ : ad = ad'' ∧ cap = cap'' := by cases e2; exact ⟨rfl, rfl⟩
    clear e1 e2 hW
    have hpl : ps.length = (flatL o (l.take k)).length := by rw [← HS.out]; simp
    have hle := flatL_le o l k
    by_cases hlt : k < l.length
    · have hkd : decide (k < l.length) = true := by simp [hlt]
      obtain ⟨b1, o1, p1, rfl, -, d1, r1⟩ := g1 k hlt
      obtain ⟨b2, o2, p2, e3, -, d2, r2⟩ := g2 k hlt
      cases e3
      have hpp : p1 = p2 := by
        have hc := World.cell?_of_block (a := ⟨b1, o1 + k, none⟩) (HW.out.block b1 (by rw [HB.out]; exact World.block_lt_of_cell? _ _ d2))
        rw [d1, d2] at hc
        simpa [PT] using hc
      subst hpp
      have HT := hide (flatL_take o l k hlt)
      have hmem : l[k] ∈ l := List.getElem_mem hlt
      have hwk := hw _ hmem
      have hle2 := flatL_le o l (k + 1)
      rw [HT.out, List.length_append, ← hpl] at hle2
      clear hpl hle
      generalize l[k] = r at *
      unfold PT at d1
      have HR1 := hide r1
      have HR2 := hide r2
      have c0 := r1.cell0
      obtain ⟨kv, qs, c5, hq1, hq2, hq3⟩ := r2.kidRow
      have hs1 := HW.out.size
      have c5' : wr.cell? ⟨p1, 5, none⟩ = some kv := by rw [← c5]; exact World.cell?_of_block (w := w) (HW.out.block p1 (by rw [HB.out]; exact r2.lt))
      have hBW : B ≤ wr.heap.size := by rw [HB.out]; exact hs1
      clear g1 g2 r1 r2 c5 d2
      go_wp2_with fail
      refine (settled_any p1 r _ HR1.out).mono ?_
      rintro e w2 ⟨rfl, rfl⟩
      unfold PT
      by_cases hop : r.op = o
      · have hopd : ((r.op : Int) == (o : Int)) = true := by simp [hop]
        have hq0 : 0 < qs.length := by rw [← List.length_map (f := Prod.snd), hq1]; exact hwk hop
        have hql : qs.length = r.kids.length := by rw [← hq1]; simp
        rw [if_pos hop, ← hql] at hle2
        clear hql
        obtain ⟨ad2, cap2, rfl, hnw⟩ := (hq3.below (by rw [← HB.out]; exact HW.out)).news hq0
        have HOP := hide hop
        clear hop
        go_wp2_with (refine wpList_append_lies _ rfl _ _ _ rfl B _ i _ 1 8 Tryd.underlying35 hi hz0 hz1 hz2 rfl (by omega) _ _ _ rfl HO.out _ qs.length _ (ptrs qs) rfl (by simp [ptrs]) hnw (ptrs_one qs) (by omega) (by unfold maxLen; omega) (by omega) hBW _ rfl ?_; intro g cap' w4 hown hgrow hat hlt4)
        refine ⟨⟨k + 1, ps ++ qs, by omega, by go_num, ?_, ?_, ?_, ?_⟩, by simp [intOf]; omega⟩
        · show (ps ++ qs).map Prod.snd = _
          rw [HT.out, if_pos HOP.out, List.map_append, hq1, HS.out]
        · show OwnP _ _ _ _
          unfold OwnP
          rw [List.length_append, show ptrs (ps ++ qs) = ptrs ps ++ ptrs qs from by simp [ptrs]]
          exact hown
        · show ∀ p ∈ ps ++ qs, _
          intro p hp
          rcases List.mem_append.1 hp with hp | hp
          · exact HE.out p hp
          · exact hq2 p hp
        · exact below_grown HW.out hgrow HO.out (Nat.le_of_eq HB.out)
      · have hopd : ((r.op : Int) == (o : Int)) = false := beq_eq_false_iff_ne.2 (by omega)
        rw [if_neg hop] at hle2
        simp only [List.length_cons, List.length_nil] at hle2
        have HOP := hide hop
        clear hop
        have HOa := hide (HO.out.keep ((Below.refl w2.heap.size w2).alloc (Nat.le_refl _) (.cells #[PT p1] 27)))
        have hnw := World.news_of_block (Blk.newAt (w := w2) rfl #[PT p1] 27)
        have hBa : Below B w (w2.alloc (.cells #[PT p1] 27)) := HW.out.alloc hBW _
        go_wp2_with (refine wpList_append_lies _ rfl _ _ _ rfl B _ i _ 1 8 Tryd.underlying35 hi hz0 hz1 hz2 rfl (by omega) _ _ _ rfl HOa.out _ 1 _ (ptrs [(p1, r)]) rfl rfl hnw (ptrs_one _) (by omega) (by unfold maxLen; omega) (by omega) (by simp; omega) _ rfl ?_; intro g cap' w4 hown hgrow hat hlt4)
        refine ⟨⟨k + 1, ps ++ [(p1, r)], by omega, by go_num, ?_, ?_, ?_, ?_⟩, by simp [intOf]; omega⟩
        · show (ps ++ [(p1, r)]).map Prod.snd = _
          rw [HT.out, if_neg HOP.out, List.map_append, HS.out]; rfl
        · show OwnP _ _ _ _
          unfold OwnP
          rw [List.length_append, show ptrs (ps ++ [(p1, r)]) = ptrs ps ++ ptrs [(p1, r)] from by simp [ptrs]]
          exact hown
        · show ∀ p ∈ ps ++ [(p1, r)], _
          intro p hp
          rcases List.mem_append.1 hp with hp | hp
          · exact HE.out p hp
          · simp at hp; subst hp; exact HR2.out
        · exact below_grown hBa hgrow HOa.out (Nat.le_of_eq HB.out)
    · obtain rfl : k = l.length := by omega
      rw [List.take_length] at HS
      clear g1 g2
      go_wp2
      go_ret
      exact ⟨_, ps, rfl, HS.out, HO.out, HE.out, HW.out⟩

/-- The settled form, of one expression over its kids. -/
structure Shp (o : Nat) (s : BitVec 256) (ks : List RE) : Prop where
  op : o ≤ 7
  set : o ≠ 2 → s = 0#256
  leaf : o = 0 ∨ o = 1 → ks = []
  cls : o = 2 → ks = [] ∧ s ≠ 0#256
  cat : o = 3 → 2 ≤ ks.length ∧ ∀ k ∈ ks, k.op ≠ 0 ∧ k.op ≠ 1 ∧ k.op ≠ 3
  or : o = 4 ∨ o = 6 → 2 ≤ ks.length ∧ (∀ k ∈ ks, k.op ≠ 0 ∧ k.op ≠ o) ∧ ks.Pairwise ltK ∧ (ks.filter fun k => k.op == 2).length ≤ 1
  star : o = 5 → ∃ k, ks = [k] ∧ k.op ≠ 0 ∧ k.op ≠ 1 ∧ k.op ≠ 5
  minus : o = 7 → ∃ a b, ks = [a, b] ∧ a.op ≠ 0 ∧ b.op ≠ 0 ∧ a ≠ b ∧ ¬ (a.op = 2 ∧ b.op = 2)
inductive Wf : RE → Prop where
  | mk (o : Nat) (s : BitVec 256) (ks : List RE) (hk : ∀ k ∈ ks, Wf k) (h : Shp o s ks) : Wf (.mk o s ks)
theorem Wf.shp {r : RE} (h : Wf r) : Shp r.op r.set r.kids := by cases h; assumption
theorem Wf.kid {r : RE} (h : Wf r) : ∀ k ∈ r.kids, Wf k := by cases h; assumption
theorem Wf.k {r : RE} (h : Wf r) : WfK r := by
  induction h with
  | mk o s ks hk h ih => exact .mk o s ks h.op h.cls h.set ih
theorem Wf.none {r : RE} (h : Wf r) (h0 : r.op = 0) : r = rNothing := by
  have hs := h.shp
  rw [r.eta, hs.set (by omega), hs.leaf (.inl h0), h0]; rfl
theorem Wf.eps {r : RE} (h : Wf r) (h0 : r.op = 1) : r = rEmpty := by
  have hs := h.shp
  rw [r.eta, hs.set (by omega), hs.leaf (.inr h0), h0]; rfl
theorem wf_nothing : Wf rNothing := .mk _ _ _ (by simp) ⟨by omega, by simp, by simp, by omega, by omega, by omega, by omega, by omega⟩
theorem wf_empty : Wf rEmpty := .mk _ _ _ (by simp) ⟨by omega, by simp, by simp, by omega, by omega, by omega, by omega, by omega⟩
theorem wf_one (s : BitVec 256) : Wf (rOne s) := by
  unfold rOne
  split
  · exact wf_nothing
  · rename_i h
    exact .mk _ _ _ (by simp) ⟨by omega, by simp, by simp, fun _ => ⟨rfl, h⟩, by omega, by omega, by omega, by omega⟩

def catK (r : RE) : List RE := if r.op = 1 then [] else if r.op = 3 then r.kids else [r]
def catL (l : List RE) : List RE := l.flatMap catK
def rThen (l : List RE) : RE := if l.any (fun r => r.op == 0) then rNothing else if catL l = [] then rEmpty else rJoin 3 (catL l)
theorem catL_take (l : List RE) (k : Nat) (h : k < l.length) : catL (l.take (k + 1)) = catL (l.take k) ++ catK l[k] := by
  unfold catL
  rw [List.take_succ_eq_append_getElem h, List.flatMap_append]; simp
theorem catL_le (l : List RE) (k : Nat) : (catL (l.take k)).length ≤ (catL l).length := by
  have : catL l = catL (l.take k) ++ catL (l.drop k) := by
    unfold catL
    rw [← List.flatMap_append, List.take_append_drop]
  rw [this, List.length_append]; omega

set_option maxHeartbeats 1000000 in
theorem then_any (l : List RE) (v : Value) (w : World) (h : ResRow w v l) (hw : ∀ r ∈ l, Wf r) (hl : l.length ≤ 1099511627776) (hlen : (catL l).length ≤ 1099511627776) :
    Calls Tryd.prog 17 #[v] w fun e w' => ∃ b, e = .returned (PT b) ∧ ReAt w' b (rThen l) ∧ Below w.heap.size w w' := by
  have HR := hide h
  obtain ⟨hn, ad, cap, rfl, -⟩ := h.at
  clear h
  obtain ⟨i, hi, hz0, hz1, hz2⟩ := info_parts infoP
  obtain ⟨B, hB⟩ : ∃ B, B = w.heap.size := ⟨_, rfl⟩
  rw [← hB]
  have HB := hide hB
  clear hB
  go_enter Tryd.func17, Tryd.ntmps17
  go_wp2_with (refine wpList_make_own _ rfl _ _ _ rfl B _ i _ 1 Tryd.underlying35 hi hz0 hz1 .i64 .i64 _ l.length rfl rfl rfl (by rw [hz2]; omega) (by unfold maxLen; omega) (Nat.le_of_eq HB.out) ?_; intro w1 ho1 hg1)
  have hO0 : OwnP w1 B (.slice (some ⟨w.heap.size, 0, none⟩) 0 l.length) [] := ho1
  have hB0 : Below B w w1 := HB.out ▸ grown_none hg1
  clear ho1 hg1
  go_loopw [3, 11] (fun out c wr => ∃ (k : Nat) (ps : List (Nat × RE)), k ≤ l.length ∧ c = .int .i64 k ∧ Hid ((l.take k).any (fun r => r.op == 0) = false) ∧ Hid (ps.map Prod.snd = catL (l.take k)) ∧ Hid (OwnP wr B out ps) ∧ Hid (∀ p ∈ ps, ReAt w p.1 p.2) ∧ Hid (Below B w wr)) (fun _ c _ => l.length - (intOf c).toNat)
  case atStart => exact ⟨0, [], by omega, rfl, rfl, rfl, hO0, fun p hp => by simp at hp, hB0⟩
  case round =>
    clear hO0 hB0
    obtain ⟨k, ps, hk, rfl, HN, HS, HO, HE, HW⟩ := hrel
    have hW := HB.out ▸ HW.out
    obtain ⟨-, ad', cap', e1, g1⟩ := (HR.out.below (by rw [← HB.out]; exact HW.out)).at
    obtain ⟨rfl, rfl⟩ : ad = ad' ∧ cap = cap' := by cases e1; exact ⟨rfl, rfl⟩
    obtain ⟨-, ad'', cap'', e2, g2⟩ := HR.out.at
    obtain ⟨rfl, rfl⟩ : ad = ad'' ∧ cap = cap'' := by cases e2; exact ⟨rfl, rfl⟩
    clear e1 e2 hW
    have hpl : ps.length = (catL (l.take k)).length := by rw [← HS.out]; simp
    have hle := catL_le l k
    by_cases hlt : k < l.length
    · have hkd : decide (k < l.length) = true := by simp [hlt]
      obtain ⟨b1, o1, p1, rfl, -, d1, r1⟩ := g1 k hlt
      obtain ⟨b2, o2, p2, e3, -, d2, r2⟩ := g2 k hlt
      cases e3
      have hpp : p1 = p2 := by
        have hc := World.cell?_of_block (a := ⟨b1, o1 + k, none⟩) (HW.out.block b1 (by rw [HB.out]; exact World.block_lt_of_cell? _ _ d2))
        rw [d1, d2] at hc
        simpa [PT] using hc
      subst hpp
      have HT := hide (catL_take l k hlt)
      have HN2 := hide (show (l.take (k + 1)).any (fun r => r.op == 0) = (l[k].op == 0) from by rw [List.take_succ_eq_append_getElem hlt, List.any_append, HN.out]; simp)
      have HA := hide (show (l[k].op == 0) = true → l.any (fun r => r.op == 0) = true from fun h => List.any_eq_true.2 ⟨l[k], List.getElem_mem hlt, h⟩)
      have hmem : l[k] ∈ l := List.getElem_mem hlt
      have hwk := hw _ hmem
      have hle2 := catL_le l (k + 1)
      rw [HT.out, List.length_append, ← hpl] at hle2
      clear hpl hle
      generalize l[k] = r at *
      unfold PT at d1
      have HR1 := hide r1
      have HR2 := hide r2
      have c0 := r1.cell0
      obtain ⟨kv, qs, c5, hq1, hq2, hq3⟩ := r2.kidRow
      have hs1 := HW.out.size
      have c5' : wr.cell? ⟨p1, 5, none⟩ = some kv := by rw [← c5]; exact World.cell?_of_block (w := w) (HW.out.block p1 (by rw [HB.out]; exact r2.lt))
      have hBW : B ≤ wr.heap.size := by rw [HB.out]; exact hs1
      clear g1 g2 r1 r2 c5 d2
      go_wp2_with fail
      refine (settled_any p1 r _ HR1.out).mono ?_
      rintro e w2 ⟨rfl, rfl⟩
      unfold PT
      by_cases hop0 : r.op = 0
      · have ho0 : ((r.op : Int) == 0) = true := by simp [hop0]
        have HX := hide (show r = rNothing from hwk.none hop0)
        have HAA := hide (HA.out (by simp [hop0]))
        clear hop0
        go_wp2
        go_ret
        refine ⟨p1, rfl, ?_, HW.out⟩
        rw [rThen, if_pos HAA.out, ← HX.out]
        exact HR1.out
      · have HNF : Hid ((l.take (k + 1)).any (fun r => r.op == 0) = false) := HN2.out.trans (by simp [hop0])
        by_cases hop1 : r.op = 1
        · have ho0 : ((r.op : Int) == 0) = false := beq_eq_false_iff_ne.2 (by omega)
          have ho1 : ((r.op : Int) == 1) = true := by simp [hop1]
          have HK1 := hide (show catK r = [] from by unfold catK; rw [if_pos hop1])
          clear hop1
          go_wp2
          refine ⟨⟨k + 1, ps, by omega, by go_num, HNF, ?_, HO, HE, HW⟩, by simp [intOf]; omega⟩
          show ps.map Prod.snd = _
          rw [HT.out, HK1.out, List.append_nil, HS.out]
        · by_cases hop : r.op = 3
          · have ho0 : ((r.op : Int) == 0) = false := beq_eq_false_iff_ne.2 (by omega)
            have ho1 : ((r.op : Int) == 1) = false := beq_eq_false_iff_ne.2 (by omega)
            have ho3 : ((r.op : Int) == 3) = true := by simp [hop]
            have hq0 : 0 < qs.length := by rw [← List.length_map (f := Prod.snd), hq1]; have := (hwk.shp.cat hop).1; omega
            have hql : qs.length = r.kids.length := by rw [← hq1]; simp
            rw [show catK r = r.kids from by unfold catK; rw [if_neg (by omega), if_pos hop], ← hql] at hle2
            clear hql
            obtain ⟨ad2, cap2, rfl, hnw⟩ := (hq3.below (by rw [← HB.out]; exact HW.out)).news hq0
            have HOP := hide hop
            clear hop
            go_wp2_with (refine wpList_append_lies _ rfl _ _ _ rfl B _ i _ 1 8 Tryd.underlying35 hi hz0 hz1 hz2 rfl (by omega) _ _ _ rfl HO.out _ qs.length _ (ptrs qs) rfl (by simp [ptrs]) hnw (ptrs_one qs) (by omega) (by unfold maxLen; omega) (by omega) hBW _ rfl ?_; intro g cap' w4 hown hgrow hat hlt4)
            refine ⟨⟨k + 1, ps ++ qs, by omega, by go_num, HNF, ?_, ?_, ?_, ?_⟩, by simp [intOf]; omega⟩
            · show (ps ++ qs).map Prod.snd = _
              rw [HT.out, show catK r = r.kids from by unfold catK; rw [if_neg (by have := HOP.out; omega), if_pos HOP.out], List.map_append, hq1, HS.out]
            · show OwnP _ _ _ _
              unfold OwnP
              rw [List.length_append, show ptrs (ps ++ qs) = ptrs ps ++ ptrs qs from by simp [ptrs]]
              exact hown
            · show ∀ p ∈ ps ++ qs, _
              intro p hp
              rcases List.mem_append.1 hp with hp | hp
              · exact HE.out p hp
              · exact hq2 p hp
            · exact below_grown HW.out hgrow HO.out (Nat.le_of_eq HB.out)
          · have ho0 : ((r.op : Int) == 0) = false := beq_eq_false_iff_ne.2 (by omega)
            have ho1 : ((r.op : Int) == 1) = false := beq_eq_false_iff_ne.2 (by omega)
            have ho3 : ((r.op : Int) == 3) = false := beq_eq_false_iff_ne.2 (by omega)
            rw [show catK r = [r] from by unfold catK; rw [if_neg hop1, if_neg hop]] at hle2
            simp only [List.length_cons, List.length_nil] at hle2
            have HOP := hide hop
            have HOP1 := hide hop1
            clear hop hop1
            have HOa := hide (HO.out.keep ((Below.refl w2.heap.size w2).alloc (Nat.le_refl _) (.cells #[PT p1] 27)))
            have hnw := World.news_of_block (Blk.newAt (w := w2) rfl #[PT p1] 27)
            have hBa : Below B w (w2.alloc (.cells #[PT p1] 27)) := HW.out.alloc hBW _
            go_wp2_with (refine wpList_append_lies _ rfl _ _ _ rfl B _ i _ 1 8 Tryd.underlying35 hi hz0 hz1 hz2 rfl (by omega) _ _ _ rfl HOa.out _ 1 _ (ptrs [(p1, r)]) rfl rfl hnw (ptrs_one _) (by omega) (by unfold maxLen; omega) (by omega) (by simp; omega) _ rfl ?_; intro g cap' w4 hown hgrow hat hlt4)
            refine ⟨⟨k + 1, ps ++ [(p1, r)], by omega, by go_num, HNF, ?_, ?_, ?_, ?_⟩, by simp [intOf]; omega⟩
            · show (ps ++ [(p1, r)]).map Prod.snd = _
              rw [HT.out, show catK r = [r] from by unfold catK; rw [if_neg HOP1.out, if_neg HOP.out], List.map_append, HS.out]; rfl
            · show OwnP _ _ _ _
              unfold OwnP
              rw [List.length_append, show ptrs (ps ++ [(p1, r)]) = ptrs ps ++ ptrs [(p1, r)] from by simp [ptrs]]
              exact hown
            · show ∀ p ∈ ps ++ [(p1, r)], _
              intro p hp
              rcases List.mem_append.1 hp with hp | hp
              · exact HE.out p hp
              · simp at hp; subst hp; exact HR2.out
            · exact below_grown hBa hgrow HOa.out (Nat.le_of_eq HB.out)
    · obtain rfl : k = l.length := by omega
      rw [List.take_length] at HS HN
      clear g1 g2
      have hrow := (HO.out.row (by rw [List.take_length] at hpl; omega)).res (fun p hp => (HE.out p hp).keep (by rw [← HB.out]; exact HW.out))
      rw [HS.out] at hrow
      have HRO := hide hrow
      obtain ⟨_, adv, capv, hu, -⟩ := hrow.at
      rw [hu] at HRO HO
      rw [hu]
      clear hrow hu hpl
      have hBW : B ≤ wr.heap.size := by rw [HB.out]; exact HW.out.size
      by_cases hem : (catL l).length = 0
      · have hemd : (((catL l).length : Int) == 0) = true := by simp [hem]
        have HEM := hide (show catL l = [] from List.eq_nil_of_length_eq_zero hem)
        clear hem
        go_wp2_with fail
        refine (empty_re _).mono ?_
        rintro e w5 ⟨b, rfl, h1, h2⟩
        go_wp2
        go_ret
        refine ⟨b, rfl, ?_, HW.out.trans (h2.mono hBW)⟩
        rw [rThen, if_neg (by rw [HN.out]; simp), if_pos HEM.out]
        exact h1
      · have hemd : (((catL l).length : Int) == 0) = false := beq_eq_false_iff_ne.2 (by omega)
        have HEM := hide (show ¬ catL l = [] from fun e => hem (by rw [e]; rfl))
        clear hem
        go_wp2_with fail
        refine (join_any 3 (catL l) _ _ (by omega) (by omega) HRO.out).mono ?_
        rintro e w5 ⟨b, rfl, h1, h2⟩
        go_wp2
        go_ret
        refine ⟨b, rfl, ?_, HW.out.trans (h2.mono hBW)⟩
        rw [rThen, if_neg (by rw [HN.out]; simp), if_neg HEM.out]
        exact h1
end Go.Proofs.YthemadegffhmfaaDoor
