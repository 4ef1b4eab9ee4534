/- Texts of this claim put together: MathSame, LawReWiths, ReP, LawReKeys. -/
import Derived.Test.YtkjmjppmpcnejaaDoorMathWf
import Derived.Test.YtkjmjppmpcnejaaDoorShF
import Derived.Test.YtkjmjppmpcnejaaDoorReO
/- An expression in the settled form, with its own kids, is itself. -/
namespace Go.Proofs.YtkjmjppmpcnejaaDoor
set_option maxRecDepth 100000
set_option linter.unusedSimpArgs false
set_option linter.unusedVariables false
open Go.RowKit

theorem flatL_same {o : Nat} {l : List RE} (h : ∀ k ∈ l, k.op ≠ o) : flatL o l = l := by
  induction l with
  | nil => rfl
  | cons x l ih =>
    have hx := h x (by simp)
    have hl := ih fun k hk => h k (by simp [hk])
    unfold flatL at *
    rw [List.flatMap_cons, if_neg hx, hl]; rfl
theorem catL_same {l : List RE} (h : ∀ k ∈ l, k.op ≠ 1 ∧ k.op ≠ 3) : catL l = l := by
  induction l with
  | nil => rfl
  | cons x l ih =>
    have hx := h x (by simp)
    have hl := ih fun k hk => h k (by simp [hk])
    unfold catL at *
    rw [List.flatMap_cons, hl]
    unfold catK
    rw [if_neg hx.1, if_neg hx.2]; rfl
theorem rOne_set (c : BitVec 256) (h : c ≠ 0#256) : rOne c = .mk 2 c [] := by unfold rOne; rw [if_neg h]
theorem wf_class {r : RE} (hw : Wf r) (h : r.op = 2) : r = rOne r.set ∧ r.set ≠ 0#256 := by
  obtain ⟨h1, h2⟩ := hw.shp.cls h
  refine ⟨?_, h2⟩
  rw [rOne_set _ h2, ← h, ← h1]; exact r.eta
/-- At most one Class: what is gathered of them. -/
theorem orSet_one {l : List RE} : (∀ k ∈ l, k.op ≠ 2) → ∀ s, l.foldl (fun s r => if r.op = 2 then s ||| r.set else s) s = s := by
  induction l with
  | nil => intro _ s; rfl
  | cons x l ih =>
    intro h s
    rw [List.foldl_cons, if_neg (h x (by simp))]
    exact ih (fun k hk => h k (by simp [hk])) s
theorem andSet_one {l : List RE} : (∀ k ∈ l, k.op ≠ 2) → ∀ s, l.foldl (fun s r => if r.op = 2 then s &&& r.set else s) s = s := by
  induction l with
  | nil => intro _ s; rfl
  | cons x l ih =>
    intro h s
    rw [List.foldl_cons, if_neg (h x (by simp))]
    exact ih (fun k hk => h k (by simp [hk])) s
/-- A list with one Class at most, apart. -/
theorem one_class {l : List RE} (hc : (l.filter fun k => k.op == 2).length ≤ 1) : (∀ k ∈ l, k.op ≠ 2) ∨ ∃ a x b, l = a ++ x :: b ∧ x.op = 2 ∧ (∀ k ∈ a, k.op ≠ 2) ∧ ∀ k ∈ b, k.op ≠ 2 := by
  induction l with
  | nil => left; simp
  | cons x l ih =>
    by_cases hx : x.op = 2
    · right
      refine ⟨[], x, l, rfl, hx, by simp, fun k hk e => ?_⟩
      rw [List.filter_cons, if_pos (by simp [hx])] at hc
      have : k ∈ l.filter (fun k => k.op == 2) := List.mem_filter.2 ⟨hk, by simp [e]⟩
      have := List.length_pos_of_mem this
      rw [List.length_cons] at hc
      omega
    · rw [List.filter_cons, if_neg (by simp [hx])] at hc
      rcases ih hc with h | ⟨a, y, b, rfl, h1, h2, h3⟩
      · left
        intro k hk
        rcases List.mem_cons.1 hk with rfl | hk
        · exact hx
        · exact h k hk
      · right
        refine ⟨x :: a, y, b, rfl, h1, fun k hk => ?_, h3⟩
        rcases List.mem_cons.1 hk with rfl | hk
        · exact hx
        · exact h2 k hk
theorem mem_orKeep {l : List RE} (h0 : ∀ k ∈ l, k.op ≠ 0) (r : RE) : r ∈ orKeep l ↔ r ∈ l ∧ r.op ≠ 2 := by
  unfold orKeep
  rw [List.mem_filter]
  constructor
  · rintro ⟨h1, h2⟩; simp at h2; exact ⟨h1, h2.2⟩
  · rintro ⟨h1, h2⟩; exact ⟨h1, by simp [h0 r h1, h2]⟩
theorem any_same {r : RE} (hw : Wf r) (h4 : r.op = 4) : rAny r.kids = r := by
  obtain ⟨h2, hk, hup, hc⟩ := hw.shp.or (.inl h4)
  have hset := hw.shp.set (by omega)
  have hkw := hw.kid
  have hf : flatL 4 r.kids = r.kids := flatL_same fun k hk' => by have := (hk k hk').2; rwa [h4] at this
  have h0 : ∀ k ∈ r.kids, k.op ≠ 0 := fun k hk' => (hk k hk').1
  have key : ∀ ks, (∀ x, x ∈ ks ↔ x ∈ r.kids) → (∀ x ∈ ks, WfK x) → ordL ks = r.kids := fun ks h1 h3 => (ordL_eq h3 hup fun x => (h1 x).symm).symm
  have hne : r.kids ≠ [] := fun e => by rw [e] at h2; simp at h2
  have fin : ∀ ks, (∀ x, x ∈ ks ↔ x ∈ r.kids) → (∀ x ∈ ks, WfK x) → (if ks = [] then rNothing else rJoin 4 (ordL ks)) = r := fun ks h1 h3 => by
    rw [if_neg (fun e => hne (List.eq_nil_iff_forall_not_mem.2 fun x hx => by have := (h1 x).2 hx; rw [e] at this; simp at this)), key ks h1 h3, rJoin_more _ _ (by omega)]
    rw [← hset, ← h4]; exact r.eta.symm
  unfold rAny
  simp only [hf]
  rcases one_class hc with hn | ⟨a, x, b, e, hx, ha, hb⟩
  · have hs : orSet r.kids = 0#256 := orSet_one hn _
    rw [if_pos hs, List.append_nil]
    refine fin _ (fun y => ?_) (fun y hy => (hkw y ((mem_orKeep h0 y).1 hy).1).k)
    rw [mem_orKeep h0]
    exact ⟨fun h => h.1, fun h => ⟨h, hn y h⟩⟩
  · have hxm : x ∈ r.kids := by rw [e]; simp
    obtain ⟨hx1, hx2⟩ := wf_class (hkw x hxm) hx
    have hs : orSet r.kids = x.set := by
      unfold orSet
      rw [e, List.foldl_append, orSet_one ha, List.foldl_cons, if_pos hx, orSet_one hb]; simp
    rw [hs, if_neg hx2, ← hx1]
    have hm : ∀ y, y ∈ orKeep r.kids ++ [x] ↔ y ∈ r.kids := fun y => by
      rw [List.mem_append, mem_orKeep h0]
      constructor
      · rintro (h | h)
        · exact h.1
        · simp at h; subst h; exact hxm
      · intro h
        by_cases hy : y.op = 2
        · right
          rw [e] at h
          rcases List.mem_append.1 h with h | h
          · exact absurd hy (ha y h)
          · rcases List.mem_cons.1 h with rfl | h
            · simp
            · exact absurd hy (hb y h)
        · exact .inl ⟨h, hy⟩
    exact fin _ hm (fun y hy => (hkw y ((hm y).1 hy)).k)
theorem both_same {r : RE} (hw : Wf r) (h6 : r.op = 6) : rBoth r.kids = r := by
  obtain ⟨h2, hk, hup, hc⟩ := hw.shp.or (.inr h6)
  have hset := hw.shp.set (by omega)
  have hkw := hw.kid
  have hf : flatL 6 r.kids = r.kids := flatL_same fun k hk' => by have := (hk k hk').2; rwa [h6] at this
  have h0 : ∀ k ∈ r.kids, k.op ≠ 0 := fun k hk' => (hk k hk').1
  have hany : r.kids.any (fun r => r.op == 0) = false := List.any_eq_false.2 fun k hk' => by simp [h0 k hk']
  have key : ∀ ks, (∀ x, x ∈ ks ↔ x ∈ r.kids) → (∀ x ∈ ks, WfK x) → ordL ks = r.kids := fun ks h1 h3 => (ordL_eq h3 hup fun x => (h1 x).symm).symm
  have hne : r.kids ≠ [] := fun e => by rw [e] at h2; simp at h2
  have fin : ∀ ks, (∀ x, x ∈ ks ↔ x ∈ r.kids) → (∀ x ∈ ks, WfK x) → (if ks = [] then rMany (rOne allB) else rJoin 6 (ordL ks)) = r := fun ks h1 h3 => by
    rw [if_neg (fun e => hne (List.eq_nil_iff_forall_not_mem.2 fun x hx => by have := (h1 x).2 hx; rw [e] at this; simp at this)), key ks h1 h3, rJoin_more _ _ (by omega)]
    rw [← hset, ← h6]; exact r.eta.symm
  unfold rBoth
  simp only [hf]
  rw [if_neg (by rw [hany]; simp)]
  rcases one_class hc with hn | ⟨a, x, b, e, hx, ha, hb⟩
  · have hs : andSet r.kids = allB := andSet_one hn _
    have hm : met r.kids = false := List.any_eq_false.2 fun k hk' => by simp [hn k hk']
    rw [hs, if_neg (by decide +kernel), hm]
    simp only [Bool.false_eq_true, if_false, List.append_nil]
    refine fin _ (fun y => ?_) (fun y hy => (hkw y ((mem_orKeep h0 y).1 hy).1).k)
    rw [mem_orKeep h0]
    exact ⟨fun h => h.1, fun h => ⟨h, hn y h⟩⟩
  · have hxm : x ∈ r.kids := by rw [e]; simp
    obtain ⟨hx1, hx2⟩ := wf_class (hkw x hxm) hx
    have hs : andSet r.kids = x.set := by
      unfold andSet
      rw [e, List.foldl_append, andSet_one ha, List.foldl_cons, if_pos hx, andSet_one hb]
      have : allB = BitVec.allOnes 256 := by decide +kernel
      rw [this, BitVec.allOnes_and]
    have hm' : met r.kids = true := List.any_eq_true.2 ⟨x, hxm, by simp [hx]⟩
    rw [hs, if_neg hx2, hm', if_pos rfl, ← hx1]
    have hm : ∀ y, y ∈ orKeep r.kids ++ [x] ↔ y ∈ r.kids := fun y => by
      rw [List.mem_append, mem_orKeep h0]
      constructor
      · rintro (h | h)
        · exact h.1
        · simp at h; subst h; exact hxm
      · intro h
        by_cases hy : y.op = 2
        · right
          rw [e] at h
          rcases List.mem_append.1 h with h | h
          · exact absurd hy (ha y h)
          · rcases List.mem_cons.1 h with rfl | h
            · simp
            · exact absurd hy (hb y h)
        · exact .inl ⟨h, hy⟩
    exact fin _ hm (fun y hy => (hkw y ((hm y).1 hy)).k)
theorem with_same {r : RE} (hw : Wf r) : rWith r r.kids = r := by
  have hs := hw.shp
  unfold rWith
  split
  · rename_i h3
    obtain ⟨h2, hk⟩ := hs.cat h3
    unfold rThen
    rw [if_neg (by
      rw [List.any_eq_true]
      rintro ⟨k, hk', e⟩
      exact (hk k hk').1 (by simpa using e)), catL_same (fun k hk' => (hk k hk').2), if_neg (fun e => by rw [e] at h2; simp at h2), rJoin_more _ _ (by omega)]
    rw [← hs.set (by omega), ← h3]; exact r.eta.symm
  · split
    · exact any_same hw (by assumption)
    · split
      · exact both_same hw (by assumption)
      · split
        · rename_i h5
          obtain ⟨k, hk, h1, h2, h3⟩ := hs.star h5.1
          rw [hk]
          show rMany k = r
          unfold rMany
          rw [if_neg (by omega), if_neg h3, ← hk, ← hs.set (by omega), ← h5.1]; exact r.eta.symm
        · split
          · rename_i h7
            obtain ⟨a, b, hk, h1, h2, h3, h4⟩ := hs.minus h7.1
            have ha := (hw.kid a (by rw [hk]; simp)).k
            have hb := (hw.kid b (by rw [hk]; simp)).k
            rw [hk]
            show rBut a b = r
            unfold rBut
            rw [if_neg (by omega), if_neg h4, if_neg (fun e => h3 (key_inj ha hb (lexN_zero _ _ e))), ← hk, ← hs.set (by omega), ← h7.1]; exact r.eta.symm
          · rfl
theorem wf_with {r : RE} (hw : Wf r) {l : List RE} (hl : ∀ x ∈ l, Wf x) : Wf (rWith r l) := by
  have hg : ∀ i, Wf (l.getD i rNothing) := fun i => by
    by_cases hi : i < l.length
    · rw [show l.getD i rNothing = l[i] from by simp [List.getD_eq_getElem?_getD, hi]]; exact hl _ (List.getElem_mem hi)
    · rw [show l.getD i rNothing = rNothing from by simp [List.getD_eq_getElem?_getD, hi]]; exact wf_nothing
  unfold rWith
  split
  · exact wf_then hl
  · split
    · exact wf_any hl
    · split
      · exact wf_both hl
      · split
        · exact wf_many (hg 0)
        · split
          · exact wf_but (hg 0) (hg 1)
          · exact hw
end Go.Proofs.YtkjmjppmpcnejaaDoor
/- ReWiths: an expression with other kids has what its op makes of them; with its own it is itself. -/
namespace Go.Proofs.YtkjmjppmpcnejaaDoor
set_option maxRecDepth 100000
set_option linter.unusedSimpArgs false
set_option linter.unusedVariables false
open Go.RowKit

theorem cnt_bounds {l : List RE} (h : cntL l ≤ 100000) : l.length ≤ 1099511627776 ∧ (catL l).length ≤ 1099511627776 ∧ (flatL 4 l).length ≤ 1099511627776 ∧ (flatL 6 l).length ≤ 1099511627776 := by
  have a0 := cntL_len l
  have a1 := cntL_len (catL l); have a2 := cntL_catL l
  have b1 := cntL_len (flatL 4 l); have b2 := cntL_flatL 4 l
  have c1 := cntL_len (flatL 6 l); have c2 := cntL_flatL 6 l
  omega
theorem cntL_shapes (l : List SHP) (h : ∀ x ∈ l, Tx x ∧ x.nodes ≤ 30) : cntL (l.map SHP.re) ≤ 660 * l.length := by
  induction l with
  | nil => simp [cntL]
  | cons x l ih =>
    have e1 := x.cnt (h x (by simp)).1
    have e3 := (h x (by simp)).2
    have e2 := ih fun k hk => h k (by simp [hk])
    rw [List.map_cons, cntL_cons, List.length_cons]
    omega

end Go.Proofs.YtkjmjppmpcnejaaDoor
/- alike: two expressions are one by their parts just where their keys are one; the calls at nil. -/
namespace Go.Proofs.YtkjmjppmpcnejaaDoor
set_option maxRecDepth 100000
set_option linter.unusedSimpArgs false
set_option linter.unusedVariables false
open Go.RowKit

theorem x_lenP (ρ : Operand → Value) (d : Option Tmp) (x : Operand) (t : TypeId) (pos : String) (af : Array Edge) (g : Option (Nat × Bool)) (a : Option Addr) (n cap : Nat) (hx : ρ x = .slice a n cap) (w : World) :
    (execOp ρ { dst := d, op := .call { callee := .builtin .len, args := #[x], argTypes := #[39] }, type := t, pos := pos, after := af, guard := g }).run Tryd.prog w = .ok (.value (.int .i64 n)) w := by
  simp [go_sem, hx]
theorem key_beq {a b : RE} (ha : WfK a) (hb : WfK b) : (a.key == b.key) = true ↔ a = b := by
  rw [beq_iff_eq]
  exact ⟨key_inj ha hb, fun h => by rw [h]⟩
theorem key_bne {a b : RE} (ha : WfK a) (hb : WfK b) (h : a ≠ b) : (a.key == b.key) = false := Bool.eq_false_iff.2 fun h' => h ((key_beq ha hb).1 h')

set_option maxHeartbeats 2000000 in
theorem alike_any (r : RE) : ∀ (r2 : RE) (b b' : Nat) (w : World), WfK r → WfK r2 → ReAt w b r → ReAt w b' r2 →
    Calls Tryd.prog 17 #[PT b, PT b'] w fun e w' => e = .returned (.bool (r.key == r2.key)) ∧ Below w.heap.size w w' := by
  refine RE.ind (P := fun r => ∀ (r2 : RE) (b b' : Nat) (w : World), WfK r → WfK r2 → ReAt w b r → ReAt w b' r2 →
    Calls Tryd.prog 17 #[PT b, PT b'] w fun e w' => e = .returned (.bool (r.key == r2.key)) ∧ Below w.heap.size w w') ?_ r
  intro o s ks ih r2 b b' w hw1 hw2 h1 h2
  obtain ⟨o2, s2, ls⟩ := r2
  obtain ⟨v1, k1, row1⟩ := h1.row
  obtain ⟨v2, k2, row2⟩ := h2.row
  simp only [RE.op, RE.set, RE.kids] at k1 k2 row1 row2
  obtain ⟨n1, a1, c1, rfl, -⟩ := row1.at
  obtain ⟨n2, a2, c2, rfl, -⟩ := row2.at
  have HX : Hid (∀ W, Below w.heap.size w W → W.cell? ⟨b, 0, none⟩ = some (.int .i64 o) ∧ (∀ j, j < 4 → W.cell? ⟨b, 1 + j, none⟩ = some (.int .u64 (wd s j))) ∧ W.cell? ⟨b, 5, none⟩ = some (.slice a1 ks.length c1)) := fun W hW =>
    ⟨(h1.keep hW).cell0, (h1.keep hW).cellS, by rw [(k1.below hW k1.lt).cell]; rfl⟩
  have HY : Hid (∀ W, Below w.heap.size w W → W.cell? ⟨b', 0, none⟩ = some (.int .i64 o2) ∧ (∀ j, j < 4 → W.cell? ⟨b', 1 + j, none⟩ = some (.int .u64 (wd s2 j))) ∧ W.cell? ⟨b', 5, none⟩ = some (.slice a2 ls.length c2)) := fun W hW =>
    ⟨(h2.keep hW).cell0, (h2.keep hW).cellS, by rw [(k2.below hW k2.lt).cell]; rfl⟩
  have HR1 := hide row1
  have HR2 := hide row2
  clear k1 k2 h1 h2 row1 row2
  have HW1 := hide hw1
  have HW2 := hide hw2
  have HIH := hide ih
  clear ih
  obtain ⟨hc, hn⟩ : (o = 2 → ks = [] ∧ s ≠ 0#256) ∧ (o ≠ 2 → s = 0#256) := by cases hw1; exact ⟨‹_›, ‹_›⟩
  obtain ⟨hc2, hn2⟩ : (o2 = 2 → ls = [] ∧ s2 ≠ 0#256) ∧ (o2 ≠ 2 → s2 = 0#256) := by cases hw2; exact ⟨‹_›, ‹_›⟩
  clear hw1 hw2
  by_cases hop : o = o2
  · subst hop
    have hop : ((o : Int) != (o : Int)) = false := by simp
    by_cases h2 : o = 2
    · obtain ⟨rfl, -⟩ := hc h2
      obtain ⟨rfl, -⟩ := hc2 h2
      have h2 : ((o : Int) == 2) = true := by simp [h2]
      by_cases hs : s = s2
      · subst hs
        have hs : (s != s) = false := by simp
        have hl : ((([] : List RE).length : Int) != (([] : List RE).length : Int)) = false := rfl
        have HKY : Hid (((RE.mk o s []).key == (RE.mk o s []).key) = true) := by show _ = _; simp
        go_enter Tryd.func17, Tryd.ntmps17
        unfold PT
        go_wp2
        refine w_lit (C := fun W => Below w.heap.size w W) (by kernel_rfl) (by kernel_rfl) ⟨rfl, rfl, rfl, Nat.le_refl _, fun _ _ => rfl⟩ ?_
        refine w_value (PT b) (by kernel_rfl) (fun w hw => x_move _ _ _ _ _ _ _ _ rfl w) ?_
        simp only [Act.put, List.setIfInBounds_toArray, List.set_cons_succ, List.set_cons_zero]
        refine w_value (PT b) (by kernel_rfl) (fun w hw => x_nilCheck _ _ _ _ _ _ _ _ rfl w) ?_
        simp only [Act.put, List.setIfInBounds_toArray, List.set_cons_succ, List.set_cons_zero]
        refine w_value (PT b) (by kernel_rfl) (fun w hw => x_field0 _ _ _ _ _ _ _ _ rfl w) ?_
        simp only [Act.put, List.setIfInBounds_toArray, List.set_cons_succ, List.set_cons_zero]
        refine w_value (.int .i64 o) (by kernel_rfl) (fun w hw => x_loadOp _ _ _ _ _ _ _ _ o rfl w (HX.out w hw).1) ?_
        simp only [Act.put, List.setIfInBounds_toArray, List.set_cons_succ, List.set_cons_zero]
        refine w_value (PT b') (by kernel_rfl) (fun w hw => x_move _ _ _ _ _ _ _ _ rfl w) ?_
        simp only [Act.put, List.setIfInBounds_toArray, List.set_cons_succ, List.set_cons_zero]
        refine w_value (PT b') (by kernel_rfl) (fun w hw => x_nilCheck _ _ _ _ _ _ _ _ rfl w) ?_
        simp only [Act.put, List.setIfInBounds_toArray, List.set_cons_succ, List.set_cons_zero]
        refine w_value (PT b') (by kernel_rfl) (fun w hw => x_field0 _ _ _ _ _ _ _ _ rfl w) ?_
        simp only [Act.put, List.setIfInBounds_toArray, List.set_cons_succ, List.set_cons_zero]
        refine w_value (.int .i64 o) (by kernel_rfl) (fun w hw => x_loadOp _ _ _ _ _ _ _ _ o rfl w (HY.out w hw).1) ?_
        simp only [Act.put, List.setIfInBounds_toArray, List.set_cons_succ, List.set_cons_zero]
        refine w_value (.bool false) (by kernel_rfl) (fun w hw => (x_neqOp _ _ _ _ _ _ _ _ _ _ rfl rfl w).trans (by rw [hop])) ?_
        simp only [Act.put, List.setIfInBounds_toArray, List.set_cons_succ, List.set_cons_zero]
        refine w_value (.bool false) (by kernel_rfl) (fun w hw => x_move _ _ _ _ _ _ _ _ rfl w) ?_
        simp only [Act.put, List.setIfInBounds_toArray, List.set_cons_succ, List.set_cons_zero]
        refine w_value (PT b) (by kernel_rfl) (fun w hw => x_move _ _ _ _ _ _ _ _ rfl w) ?_
        simp only [Act.put, List.setIfInBounds_toArray, List.set_cons_succ, List.set_cons_zero]
        refine w_value (PT b) (by kernel_rfl) (fun w hw => x_nilCheck _ _ _ _ _ _ _ _ rfl w) ?_
        simp only [Act.put, List.setIfInBounds_toArray, List.set_cons_succ, List.set_cons_zero]
        refine w_value (PT b) (by kernel_rfl) (fun w hw => x_field0 _ _ _ _ _ _ _ _ rfl w) ?_
        simp only [Act.put, List.setIfInBounds_toArray, List.set_cons_succ, List.set_cons_zero]
        refine w_value (.int .i64 o) (by kernel_rfl) (fun w hw => x_loadOp _ _ _ _ _ _ _ _ o rfl w (HX.out w hw).1) ?_
        simp only [Act.put, List.setIfInBounds_toArray, List.set_cons_succ, List.set_cons_zero]
        refine w_value (.bool true) (by kernel_rfl) (fun w hw => x_eqOpC _ _ _ _ _ _ _ _ _ true h2 rfl rfl w) ?_
        simp only [Act.put, List.setIfInBounds_toArray, List.set_cons_succ, List.set_cons_zero]
        refine w_value (.bool true) (by kernel_rfl) (fun w hw => x_move _ _ _ _ _ _ _ _ rfl w) ?_
        simp only [Act.put, List.setIfInBounds_toArray, List.set_cons_succ, List.set_cons_zero]
        refine w_value (PT b) (by kernel_rfl) (fun w hw => x_move _ _ _ _ _ _ _ _ rfl w) ?_
        simp only [Act.put, List.setIfInBounds_toArray, List.set_cons_succ, List.set_cons_zero]
        refine w_value (PT b) (by kernel_rfl) (fun w hw => x_nilCheck _ _ _ _ _ _ _ _ rfl w) ?_
        simp only [Act.put, List.setIfInBounds_toArray, List.set_cons_succ, List.set_cons_zero]
        refine w_value (.pointer (some ⟨b, 1, none⟩)) (by kernel_rfl) (fun w hw => x_field1 _ _ _ _ _ _ _ _ rfl w) ?_
        simp only [Act.put, List.setIfInBounds_toArray, List.set_cons_succ, List.set_cons_zero]
        refine w_value (SV s) (by kernel_rfl) (fun w hw => x_loadAt _ _ _ _ _ _ _ _ 1 s rfl w (HX.out w hw).2.1) ?_
        simp only [Act.put, List.setIfInBounds_toArray, List.set_cons_succ, List.set_cons_zero]
        refine w_value (PT b') (by kernel_rfl) (fun w hw => x_move _ _ _ _ _ _ _ _ rfl w) ?_
        simp only [Act.put, List.setIfInBounds_toArray, List.set_cons_succ, List.set_cons_zero]
        refine w_value (PT b') (by kernel_rfl) (fun w hw => x_nilCheck _ _ _ _ _ _ _ _ rfl w) ?_
        simp only [Act.put, List.setIfInBounds_toArray, List.set_cons_succ, List.set_cons_zero]
        refine w_value (.pointer (some ⟨b', 1, none⟩)) (by kernel_rfl) (fun w hw => x_field1 _ _ _ _ _ _ _ _ rfl w) ?_
        simp only [Act.put, List.setIfInBounds_toArray, List.set_cons_succ, List.set_cons_zero]
        refine w_value (SV s) (by kernel_rfl) (fun w hw => x_loadAt _ _ _ _ _ _ _ _ 1 s rfl w (HY.out w hw).2.1) ?_
        simp only [Act.put, List.setIfInBounds_toArray, List.set_cons_succ, List.set_cons_zero]
        refine w_value (.bool false) (by kernel_rfl) (fun w hw => (x_neqS _ _ _ _ _ _ _ _ s s rfl rfl w).trans (by rw [hs])) ?_
        simp only [Act.put, List.setIfInBounds_toArray, List.set_cons_succ, List.set_cons_zero]
        refine w_value (.bool false) (by kernel_rfl) (fun w hw => x_pick _ _ _ _ _ _ _ _ _ true (.bool false) (.bool false) rfl rfl rfl w) ?_
        simp only [Act.put, List.setIfInBounds_toArray, List.set_cons_succ, List.set_cons_zero]
        refine w_value (.bool false) (by kernel_rfl) (fun w hw => x_pick _ _ _ _ _ _ _ _ _ false (.bool true) (.bool false) rfl rfl rfl w) ?_
        simp only [Act.put, List.setIfInBounds_toArray, List.set_cons_succ, List.set_cons_zero]
        refine w_value (.bool false) (by kernel_rfl) (fun w hw => x_move _ _ _ _ _ _ _ _ rfl w) ?_
        simp only [Act.put, List.setIfInBounds_toArray, List.set_cons_succ, List.set_cons_zero]
        refine w_value (PT b) (by kernel_rfl) (fun w hw => x_move _ _ _ _ _ _ _ _ rfl w) ?_
        simp only [Act.put, List.setIfInBounds_toArray, List.set_cons_succ, List.set_cons_zero]
        refine w_value (PT b) (by kernel_rfl) (fun w hw => x_nilCheck _ _ _ _ _ _ _ _ rfl w) ?_
        simp only [Act.put, List.setIfInBounds_toArray, List.set_cons_succ, List.set_cons_zero]
        refine w_value (.pointer (some ⟨b, 5, none⟩)) (by kernel_rfl) (fun w hw => x_field2 _ _ _ _ _ _ _ _ rfl w) ?_
        simp only [Act.put, List.setIfInBounds_toArray, List.set_cons_succ, List.set_cons_zero]
        refine w_value (.slice a1 ([] : List RE).length c1) (by kernel_rfl) (fun w hw => x_loadKids _ _ _ _ _ _ _ _ 5 _ rfl w (HX.out w hw).2.2) ?_
        simp only [Act.put, List.setIfInBounds_toArray, List.set_cons_succ, List.set_cons_zero]
        refine w_value (.int .i64 ([] : List RE).length) (by kernel_rfl) (fun w hw => x_lenP _ _ _ _ _ _ _ a1 ([] : List RE).length c1 rfl w) ?_
        simp only [Act.put, List.setIfInBounds_toArray, List.set_cons_succ, List.set_cons_zero]
        refine w_value (PT b') (by kernel_rfl) (fun w hw => x_move _ _ _ _ _ _ _ _ rfl w) ?_
        simp only [Act.put, List.setIfInBounds_toArray, List.set_cons_succ, List.set_cons_zero]
        refine w_value (PT b') (by kernel_rfl) (fun w hw => x_nilCheck _ _ _ _ _ _ _ _ rfl w) ?_
        simp only [Act.put, List.setIfInBounds_toArray, List.set_cons_succ, List.set_cons_zero]
        refine w_value (.pointer (some ⟨b', 5, none⟩)) (by kernel_rfl) (fun w hw => x_field2 _ _ _ _ _ _ _ _ rfl w) ?_
        simp only [Act.put, List.setIfInBounds_toArray, List.set_cons_succ, List.set_cons_zero]
        refine w_value (.slice a2 ([] : List RE).length c2) (by kernel_rfl) (fun w hw => x_loadKids _ _ _ _ _ _ _ _ 5 _ rfl w (HY.out w hw).2.2) ?_
        simp only [Act.put, List.setIfInBounds_toArray, List.set_cons_succ, List.set_cons_zero]
        refine w_value (.int .i64 ([] : List RE).length) (by kernel_rfl) (fun w hw => x_lenP _ _ _ _ _ _ _ a2 ([] : List RE).length c2 rfl w) ?_
        simp only [Act.put, List.setIfInBounds_toArray, List.set_cons_succ, List.set_cons_zero]
        refine w_value (.bool false) (by kernel_rfl) (fun w hw => (x_neqInt _ _ _ _ _ _ _ _ _ _ rfl rfl w).trans (by rw [hl])) ?_
        simp only [Act.put, List.setIfInBounds_toArray, List.set_cons_succ, List.set_cons_zero]
        refine w_value (.bool false) (by kernel_rfl) (fun w hw => x_pick _ _ _ _ _ _ _ _ _ false (.bool true) (.bool false) rfl rfl rfl w) ?_
        simp only [Act.put, List.setIfInBounds_toArray, List.set_cons_succ, List.set_cons_zero]
        refine w_nil ?_
        intro W hW
        have hcell := (HX.out W hW).2.2
        unfold PT
        go_wp2
        go_loopw [51] (fun i wr => i = .int .i64 0 ∧ Hid (Below w.heap.size w wr)) (fun _ _ => 0)
        case atStart => exact ⟨rfl, hW⟩
        case round =>
          obtain ⟨rfl, HW⟩ := hrel
          go_wp2
          go_ret
          refine ⟨?_, HW.out⟩
          rw [HKY.out]; rfl
      · have hk := key_bne HW1.out HW2.out (fun e => hs (by injection e))
        have hs : (s != s2) = true := by simp [hs]
        have HKY := hide hk
        clear hk
        go_enter Tryd.func17, Tryd.ntmps17
        unfold PT
        go_wp2
        refine w_lit (C := fun W => Below w.heap.size w W) (by kernel_rfl) (by kernel_rfl) ⟨rfl, rfl, rfl, Nat.le_refl _, fun _ _ => rfl⟩ ?_
        refine w_value (PT b) (by kernel_rfl) (fun w hw => x_move _ _ _ _ _ _ _ _ rfl w) ?_
        simp only [Act.put, List.setIfInBounds_toArray, List.set_cons_succ, List.set_cons_zero]
        refine w_value (PT b) (by kernel_rfl) (fun w hw => x_nilCheck _ _ _ _ _ _ _ _ rfl w) ?_
        simp only [Act.put, List.setIfInBounds_toArray, List.set_cons_succ, List.set_cons_zero]
        refine w_value (PT b) (by kernel_rfl) (fun w hw => x_field0 _ _ _ _ _ _ _ _ rfl w) ?_
        simp only [Act.put, List.setIfInBounds_toArray, List.set_cons_succ, List.set_cons_zero]
        refine w_value (.int .i64 o) (by kernel_rfl) (fun w hw => x_loadOp _ _ _ _ _ _ _ _ o rfl w (HX.out w hw).1) ?_
        simp only [Act.put, List.setIfInBounds_toArray, List.set_cons_succ, List.set_cons_zero]
        refine w_value (PT b') (by kernel_rfl) (fun w hw => x_move _ _ _ _ _ _ _ _ rfl w) ?_
        simp only [Act.put, List.setIfInBounds_toArray, List.set_cons_succ, List.set_cons_zero]
        refine w_value (PT b') (by kernel_rfl) (fun w hw => x_nilCheck _ _ _ _ _ _ _ _ rfl w) ?_
        simp only [Act.put, List.setIfInBounds_toArray, List.set_cons_succ, List.set_cons_zero]
        refine w_value (PT b') (by kernel_rfl) (fun w hw => x_field0 _ _ _ _ _ _ _ _ rfl w) ?_
        simp only [Act.put, List.setIfInBounds_toArray, List.set_cons_succ, List.set_cons_zero]
        refine w_value (.int .i64 o) (by kernel_rfl) (fun w hw => x_loadOp _ _ _ _ _ _ _ _ o rfl w (HY.out w hw).1) ?_
        simp only [Act.put, List.setIfInBounds_toArray, List.set_cons_succ, List.set_cons_zero]
        refine w_value (.bool false) (by kernel_rfl) (fun w hw => (x_neqOp _ _ _ _ _ _ _ _ _ _ rfl rfl w).trans (by rw [hop])) ?_
        simp only [Act.put, List.setIfInBounds_toArray, List.set_cons_succ, List.set_cons_zero]
        refine w_value (.bool false) (by kernel_rfl) (fun w hw => x_move _ _ _ _ _ _ _ _ rfl w) ?_
        simp only [Act.put, List.setIfInBounds_toArray, List.set_cons_succ, List.set_cons_zero]
        refine w_value (PT b) (by kernel_rfl) (fun w hw => x_move _ _ _ _ _ _ _ _ rfl w) ?_
        simp only [Act.put, List.setIfInBounds_toArray, List.set_cons_succ, List.set_cons_zero]
        refine w_value (PT b) (by kernel_rfl) (fun w hw => x_nilCheck _ _ _ _ _ _ _ _ rfl w) ?_
        simp only [Act.put, List.setIfInBounds_toArray, List.set_cons_succ, List.set_cons_zero]
        refine w_value (PT b) (by kernel_rfl) (fun w hw => x_field0 _ _ _ _ _ _ _ _ rfl w) ?_
        simp only [Act.put, List.setIfInBounds_toArray, List.set_cons_succ, List.set_cons_zero]
        refine w_value (.int .i64 o) (by kernel_rfl) (fun w hw => x_loadOp _ _ _ _ _ _ _ _ o rfl w (HX.out w hw).1) ?_
        simp only [Act.put, List.setIfInBounds_toArray, List.set_cons_succ, List.set_cons_zero]
        refine w_value (.bool true) (by kernel_rfl) (fun w hw => x_eqOpC _ _ _ _ _ _ _ _ _ true h2 rfl rfl w) ?_
        simp only [Act.put, List.setIfInBounds_toArray, List.set_cons_succ, List.set_cons_zero]
        refine w_value (.bool true) (by kernel_rfl) (fun w hw => x_move _ _ _ _ _ _ _ _ rfl w) ?_
        simp only [Act.put, List.setIfInBounds_toArray, List.set_cons_succ, List.set_cons_zero]
        refine w_value (PT b) (by kernel_rfl) (fun w hw => x_move _ _ _ _ _ _ _ _ rfl w) ?_
        simp only [Act.put, List.setIfInBounds_toArray, List.set_cons_succ, List.set_cons_zero]
        refine w_value (PT b) (by kernel_rfl) (fun w hw => x_nilCheck _ _ _ _ _ _ _ _ rfl w) ?_
        simp only [Act.put, List.setIfInBounds_toArray, List.set_cons_succ, List.set_cons_zero]
        refine w_value (.pointer (some ⟨b, 1, none⟩)) (by kernel_rfl) (fun w hw => x_field1 _ _ _ _ _ _ _ _ rfl w) ?_
        simp only [Act.put, List.setIfInBounds_toArray, List.set_cons_succ, List.set_cons_zero]
        refine w_value (SV s) (by kernel_rfl) (fun w hw => x_loadAt _ _ _ _ _ _ _ _ 1 s rfl w (HX.out w hw).2.1) ?_
        simp only [Act.put, List.setIfInBounds_toArray, List.set_cons_succ, List.set_cons_zero]
        refine w_value (PT b') (by kernel_rfl) (fun w hw => x_move _ _ _ _ _ _ _ _ rfl w) ?_
        simp only [Act.put, List.setIfInBounds_toArray, List.set_cons_succ, List.set_cons_zero]
        refine w_value (PT b') (by kernel_rfl) (fun w hw => x_nilCheck _ _ _ _ _ _ _ _ rfl w) ?_
        simp only [Act.put, List.setIfInBounds_toArray, List.set_cons_succ, List.set_cons_zero]
        refine w_value (.pointer (some ⟨b', 1, none⟩)) (by kernel_rfl) (fun w hw => x_field1 _ _ _ _ _ _ _ _ rfl w) ?_
        simp only [Act.put, List.setIfInBounds_toArray, List.set_cons_succ, List.set_cons_zero]
        refine w_value (SV s2) (by kernel_rfl) (fun w hw => x_loadAt _ _ _ _ _ _ _ _ 1 s2 rfl w (HY.out w hw).2.1) ?_
        simp only [Act.put, List.setIfInBounds_toArray, List.set_cons_succ, List.set_cons_zero]
        refine w_value (.bool true) (by kernel_rfl) (fun w hw => (x_neqS _ _ _ _ _ _ _ _ s s2 rfl rfl w).trans (by rw [hs])) ?_
        simp only [Act.put, List.setIfInBounds_toArray, List.set_cons_succ, List.set_cons_zero]
        refine w_value (.bool true) (by kernel_rfl) (fun w hw => x_pick _ _ _ _ _ _ _ _ _ true (.bool true) (.bool false) rfl rfl rfl w) ?_
        simp only [Act.put, List.setIfInBounds_toArray, List.set_cons_succ, List.set_cons_zero]
        refine w_value (.bool true) (by kernel_rfl) (fun w hw => x_pick _ _ _ _ _ _ _ _ _ false (.bool true) (.bool true) rfl rfl rfl w) ?_
        simp only [Act.put, List.setIfInBounds_toArray, List.set_cons_succ, List.set_cons_zero]
        refine w_value (.bool true) (by kernel_rfl) (fun w hw => x_move _ _ _ _ _ _ _ _ rfl w) ?_
        simp only [Act.put, List.setIfInBounds_toArray, List.set_cons_succ, List.set_cons_zero]
        refine w_skip (by kernel_rfl) ?_
        simp only [Act.put, List.setIfInBounds_toArray, List.set_cons_succ, List.set_cons_zero]
        refine w_skip (by kernel_rfl) ?_
        simp only [Act.put, List.setIfInBounds_toArray, List.set_cons_succ, List.set_cons_zero]
        refine w_skip (by kernel_rfl) ?_
        simp only [Act.put, List.setIfInBounds_toArray, List.set_cons_succ, List.set_cons_zero]
        refine w_skip (by kernel_rfl) ?_
        simp only [Act.put, List.setIfInBounds_toArray, List.set_cons_succ, List.set_cons_zero]
        refine w_skip (by kernel_rfl) ?_
        simp only [Act.put, List.setIfInBounds_toArray, List.set_cons_succ, List.set_cons_zero]
        refine w_skip (by kernel_rfl) ?_
        simp only [Act.put, List.setIfInBounds_toArray, List.set_cons_succ, List.set_cons_zero]
        refine w_skip (by kernel_rfl) ?_
        simp only [Act.put, List.setIfInBounds_toArray, List.set_cons_succ, List.set_cons_zero]
        refine w_skip (by kernel_rfl) ?_
        simp only [Act.put, List.setIfInBounds_toArray, List.set_cons_succ, List.set_cons_zero]
        refine w_skip (by kernel_rfl) ?_
        simp only [Act.put, List.setIfInBounds_toArray, List.set_cons_succ, List.set_cons_zero]
        refine w_skip (by kernel_rfl) ?_
        simp only [Act.put, List.setIfInBounds_toArray, List.set_cons_succ, List.set_cons_zero]
        refine w_skip (by kernel_rfl) ?_
        simp only [Act.put, List.setIfInBounds_toArray, List.set_cons_succ, List.set_cons_zero]
        refine w_value (.bool true) (by kernel_rfl) (fun w hw => x_pick _ _ _ _ _ _ _ _ _ true (.bool true) undef rfl rfl rfl w) ?_
        simp only [Act.put, List.setIfInBounds_toArray, List.set_cons_succ, List.set_cons_zero]
        refine w_nil ?_
        intro W hW
        unfold PT
        go_wp2
        go_ret
        refine ⟨?_, hW⟩
        rw [HKY.out]; rfl
    · have h2 : ((o : Int) == 2) = false := beq_eq_false_iff_ne.2 (by omega)
      by_cases hl : ks.length = ls.length
      · have HLN := hide hl
        have hl2 : ((ks.length : Int) != (ls.length : Int)) = false := by simp [hl]
        have HS12 : Hid (s = s2) := by
          show _ = _
          rw [hn (by intro e; subst e; simp at h2), hn2 (by intro e; subst e; simp at h2)]
        clear hl hn hn2 hc hc2
        have hl := hl2
        clear hl2
        go_enter Tryd.func17, Tryd.ntmps17
        unfold PT
        go_wp2
        refine w_lit (C := fun W => Below w.heap.size w W) (by kernel_rfl) (by kernel_rfl) ⟨rfl, rfl, rfl, Nat.le_refl _, fun _ _ => rfl⟩ ?_
        refine w_value (PT b) (by kernel_rfl) (fun w hw => x_move _ _ _ _ _ _ _ _ rfl w) ?_
        simp only [Act.put, List.setIfInBounds_toArray, List.set_cons_succ, List.set_cons_zero]
        refine w_value (PT b) (by kernel_rfl) (fun w hw => x_nilCheck _ _ _ _ _ _ _ _ rfl w) ?_
        simp only [Act.put, List.setIfInBounds_toArray, List.set_cons_succ, List.set_cons_zero]
        refine w_value (PT b) (by kernel_rfl) (fun w hw => x_field0 _ _ _ _ _ _ _ _ rfl w) ?_
        simp only [Act.put, List.setIfInBounds_toArray, List.set_cons_succ, List.set_cons_zero]
        refine w_value (.int .i64 o) (by kernel_rfl) (fun w hw => x_loadOp _ _ _ _ _ _ _ _ o rfl w (HX.out w hw).1) ?_
        simp only [Act.put, List.setIfInBounds_toArray, List.set_cons_succ, List.set_cons_zero]
        refine w_value (PT b') (by kernel_rfl) (fun w hw => x_move _ _ _ _ _ _ _ _ rfl w) ?_
        simp only [Act.put, List.setIfInBounds_toArray, List.set_cons_succ, List.set_cons_zero]
        refine w_value (PT b') (by kernel_rfl) (fun w hw => x_nilCheck _ _ _ _ _ _ _ _ rfl w) ?_
        simp only [Act.put, List.setIfInBounds_toArray, List.set_cons_succ, List.set_cons_zero]
        refine w_value (PT b') (by kernel_rfl) (fun w hw => x_field0 _ _ _ _ _ _ _ _ rfl w) ?_
        simp only [Act.put, List.setIfInBounds_toArray, List.set_cons_succ, List.set_cons_zero]
        refine w_value (.int .i64 o) (by kernel_rfl) (fun w hw => x_loadOp _ _ _ _ _ _ _ _ o rfl w (HY.out w hw).1) ?_
        simp only [Act.put, List.setIfInBounds_toArray, List.set_cons_succ, List.set_cons_zero]
        refine w_value (.bool false) (by kernel_rfl) (fun w hw => (x_neqOp _ _ _ _ _ _ _ _ _ _ rfl rfl w).trans (by rw [hop])) ?_
        simp only [Act.put, List.setIfInBounds_toArray, List.set_cons_succ, List.set_cons_zero]
        refine w_value (.bool false) (by kernel_rfl) (fun w hw => x_move _ _ _ _ _ _ _ _ rfl w) ?_
        simp only [Act.put, List.setIfInBounds_toArray, List.set_cons_succ, List.set_cons_zero]
        refine w_value (PT b) (by kernel_rfl) (fun w hw => x_move _ _ _ _ _ _ _ _ rfl w) ?_
        simp only [Act.put, List.setIfInBounds_toArray, List.set_cons_succ, List.set_cons_zero]
        refine w_value (PT b) (by kernel_rfl) (fun w hw => x_nilCheck _ _ _ _ _ _ _ _ rfl w) ?_
        simp only [Act.put, List.setIfInBounds_toArray, List.set_cons_succ, List.set_cons_zero]
        refine w_value (PT b) (by kernel_rfl) (fun w hw => x_field0 _ _ _ _ _ _ _ _ rfl w) ?_
        simp only [Act.put, List.setIfInBounds_toArray, List.set_cons_succ, List.set_cons_zero]
        refine w_value (.int .i64 o) (by kernel_rfl) (fun w hw => x_loadOp _ _ _ _ _ _ _ _ o rfl w (HX.out w hw).1) ?_
        simp only [Act.put, List.setIfInBounds_toArray, List.set_cons_succ, List.set_cons_zero]
        refine w_value (.bool false) (by kernel_rfl) (fun w hw => x_eqOpC _ _ _ _ _ _ _ _ _ false h2 rfl rfl w) ?_
        simp only [Act.put, List.setIfInBounds_toArray, List.set_cons_succ, List.set_cons_zero]
        refine w_value (.bool false) (by kernel_rfl) (fun w hw => x_move _ _ _ _ _ _ _ _ rfl w) ?_
        simp only [Act.put, List.setIfInBounds_toArray, List.set_cons_succ, List.set_cons_zero]
        refine w_skip (by kernel_rfl) ?_
        simp only [Act.put, List.setIfInBounds_toArray, List.set_cons_succ, List.set_cons_zero]
        refine w_skip (by kernel_rfl) ?_
        simp only [Act.put, List.setIfInBounds_toArray, List.set_cons_succ, List.set_cons_zero]
        refine w_skip (by kernel_rfl) ?_
        simp only [Act.put, List.setIfInBounds_toArray, List.set_cons_succ, List.set_cons_zero]
        refine w_skip (by kernel_rfl) ?_
        simp only [Act.put, List.setIfInBounds_toArray, List.set_cons_succ, List.set_cons_zero]
        refine w_skip (by kernel_rfl) ?_
        simp only [Act.put, List.setIfInBounds_toArray, List.set_cons_succ, List.set_cons_zero]
        refine w_skip (by kernel_rfl) ?_
        simp only [Act.put, List.setIfInBounds_toArray, List.set_cons_succ, List.set_cons_zero]
        refine w_skip (by kernel_rfl) ?_
        simp only [Act.put, List.setIfInBounds_toArray, List.set_cons_succ, List.set_cons_zero]
        refine w_skip (by kernel_rfl) ?_
        simp only [Act.put, List.setIfInBounds_toArray, List.set_cons_succ, List.set_cons_zero]
        refine w_skip (by kernel_rfl) ?_
        simp only [Act.put, List.setIfInBounds_toArray, List.set_cons_succ, List.set_cons_zero]
        refine w_value (.bool false) (by kernel_rfl) (fun w hw => x_pick _ _ _ _ _ _ _ _ _ false undef (.bool false) rfl rfl rfl w) ?_
        simp only [Act.put, List.setIfInBounds_toArray, List.set_cons_succ, List.set_cons_zero]
        refine w_value (.bool false) (by kernel_rfl) (fun w hw => x_pick _ _ _ _ _ _ _ _ _ false (.bool true) (.bool false) rfl rfl rfl w) ?_
        simp only [Act.put, List.setIfInBounds_toArray, List.set_cons_succ, List.set_cons_zero]
        refine w_value (.bool false) (by kernel_rfl) (fun w hw => x_move _ _ _ _ _ _ _ _ rfl w) ?_
        simp only [Act.put, List.setIfInBounds_toArray, List.set_cons_succ, List.set_cons_zero]
        refine w_value (PT b) (by kernel_rfl) (fun w hw => x_move _ _ _ _ _ _ _ _ rfl w) ?_
        simp only [Act.put, List.setIfInBounds_toArray, List.set_cons_succ, List.set_cons_zero]
        refine w_value (PT b) (by kernel_rfl) (fun w hw => x_nilCheck _ _ _ _ _ _ _ _ rfl w) ?_
        simp only [Act.put, List.setIfInBounds_toArray, List.set_cons_succ, List.set_cons_zero]
        refine w_value (.pointer (some ⟨b, 5, none⟩)) (by kernel_rfl) (fun w hw => x_field2 _ _ _ _ _ _ _ _ rfl w) ?_
        simp only [Act.put, List.setIfInBounds_toArray, List.set_cons_succ, List.set_cons_zero]
        refine w_value (.slice a1 ks.length c1) (by kernel_rfl) (fun w hw => x_loadKids _ _ _ _ _ _ _ _ 5 _ rfl w (HX.out w hw).2.2) ?_
        simp only [Act.put, List.setIfInBounds_toArray, List.set_cons_succ, List.set_cons_zero]
        refine w_value (.int .i64 ks.length) (by kernel_rfl) (fun w hw => x_lenP _ _ _ _ _ _ _ a1 ks.length c1 rfl w) ?_
        simp only [Act.put, List.setIfInBounds_toArray, List.set_cons_succ, List.set_cons_zero]
        refine w_value (PT b') (by kernel_rfl) (fun w hw => x_move _ _ _ _ _ _ _ _ rfl w) ?_
        simp only [Act.put, List.setIfInBounds_toArray, List.set_cons_succ, List.set_cons_zero]
        refine w_value (PT b') (by kernel_rfl) (fun w hw => x_nilCheck _ _ _ _ _ _ _ _ rfl w) ?_
        simp only [Act.put, List.setIfInBounds_toArray, List.set_cons_succ, List.set_cons_zero]
        refine w_value (.pointer (some ⟨b', 5, none⟩)) (by kernel_rfl) (fun w hw => x_field2 _ _ _ _ _ _ _ _ rfl w) ?_
        simp only [Act.put, List.setIfInBounds_toArray, List.set_cons_succ, List.set_cons_zero]
        refine w_value (.slice a2 ls.length c2) (by kernel_rfl) (fun w hw => x_loadKids _ _ _ _ _ _ _ _ 5 _ rfl w (HY.out w hw).2.2) ?_
        simp only [Act.put, List.setIfInBounds_toArray, List.set_cons_succ, List.set_cons_zero]
        refine w_value (.int .i64 ls.length) (by kernel_rfl) (fun w hw => x_lenP _ _ _ _ _ _ _ a2 ls.length c2 rfl w) ?_
        simp only [Act.put, List.setIfInBounds_toArray, List.set_cons_succ, List.set_cons_zero]
        refine w_value (.bool false) (by kernel_rfl) (fun w hw => (x_neqInt _ _ _ _ _ _ _ _ _ _ rfl rfl w).trans (by rw [hl])) ?_
        simp only [Act.put, List.setIfInBounds_toArray, List.set_cons_succ, List.set_cons_zero]
        refine w_value (.bool false) (by kernel_rfl) (fun w hw => x_pick _ _ _ _ _ _ _ _ _ false (.bool true) (.bool false) rfl rfl rfl w) ?_
        simp only [Act.put, List.setIfInBounds_toArray, List.set_cons_succ, List.set_cons_zero]
        refine w_nil ?_
        intro W hW
        have hcell := (HX.out W hW).2.2
        unfold PT
        go_wp2
        clear hcell
        have HW0 := hide hW
        clear hW
        go_loopw [51] (fun i wr => ∃ k : Nat, k ≤ ks.length ∧ i = .int .i64 k ∧ Hid (ks.take k = ls.take k) ∧ Hid (Below w.heap.size w wr)) (fun i _ => ks.length - (intOf i).toNat)
        case atStart => exact ⟨0, by omega, rfl, rfl, HW0.out⟩
        case round =>
          clear HW0
          obtain ⟨k, hk, rfl, HE, HW⟩ := hrel
          by_cases hlt : k < ks.length
          · have hkd : decide (k < ks.length) = true := by simp [hlt]
            have hlt2 : k < ls.length := by have := HLN.out; omega
            obtain ⟨-, a1', c1', e1, q1⟩ := HR1.out.at
            obtain ⟨g1, f1, p, e2, -, hc1, hr1⟩ := q1 k hlt
            obtain ⟨-, a2', c2', e3, q2⟩ := HR2.out.at
            obtain ⟨g2, f2, q, e4, -, hc2', hr2⟩ := q2 k hlt2
            injection e1 with e5 e6 e7
            injection e3 with e8 e9 e10
            subst e5 e7 e8 e10 e2 e4
            clear q1 q2 e6 e9
            have hq1 : ∀ W, Below w.heap.size w W → W.cell? ⟨g1, f1 + k, none⟩ = some (PT p) ∧ True := fun W hW => ⟨(World.cell?_of_block (w := w) (hW.block _ (World.block_lt_of_cell? _ _ hc1))).trans hc1, trivial⟩
            have hq2 : ∀ W, Below w.heap.size w W → W.cell? ⟨g2, f2 + k, none⟩ = some (PT q) ∧ True := fun W hW => ⟨(World.cell?_of_block (w := w) (hW.block _ (World.block_lt_of_cell? _ _ hc2'))).trans hc2', trivial⟩
            obtain ⟨bb, hbb⟩ : ∃ bb, bb = (ks[k].key == ls[k].key) := ⟨_, rfl⟩
            have hq3 : ∀ W, Below w.heap.size w W → Calls Tryd.prog 17 #[PT p, PT q] W fun e w' => e = .returned (.bool bb) ∧ Below W.heap.size W w' := fun W hW => by
              rw [hbb]
              exact HIH.out ks[k] (List.getElem_mem hlt) ls[k] p q W (HW1.out.kid _ (List.getElem_mem hlt)) (HW2.out.kid _ (List.getElem_mem hlt2)) (hr1.keep hW) (hr2.keep hW)
            have HBB := hide hbb
            have HT1 := hide (show ks.take (k + 1) = ks.take k ++ [ks[k]] from List.take_succ_eq_append_getElem hlt)
            have HT2 := hide (show ls.take (k + 1) = ls.take k ++ [ls[k]] from List.take_succ_eq_append_getElem hlt2)
            have HKK : Hid (bb = true → ks[k] = ls[k]) := fun h => (key_beq (HW1.out.kid _ (List.getElem_mem hlt)) (HW2.out.kid _ (List.getElem_mem hlt2))).1 (by rw [← hbb, h])
            have HKF : Hid (bb = false → ks ≠ ls) := fun h e => by
              subst e
              rw [h] at hbb
              simp at hbb
            clear hbb hc1 hc2' hr1 hr2
            have hG : Grows fun W => Below w.heap.size w W := fun W W' h1 h2 => h1.trans (h2.mono h1.size)
            go_wp2
            refine w_lit (C := fun W => Below w.heap.size w W) (by kernel_rfl) (by kernel_rfl) (HW.out.trans ⟨rfl, rfl, rfl, Nat.le_refl _, fun _ _ => rfl⟩) ?_
            refine w_value (PT b) (by kernel_rfl) (fun w hw => x_move _ _ _ _ _ _ _ _ rfl w) ?_
            simp only [Act.put, List.setIfInBounds_toArray, List.set_cons_succ, List.set_cons_zero]
            refine w_value (PT b) (by kernel_rfl) (fun w hw => x_nilCheck _ _ _ _ _ _ _ _ rfl w) ?_
            simp only [Act.put, List.setIfInBounds_toArray, List.set_cons_succ, List.set_cons_zero]
            refine w_value (.pointer (some ⟨b, 5, none⟩)) (by kernel_rfl) (fun w hw => x_field2 _ _ _ _ _ _ _ _ rfl w) ?_
            simp only [Act.put, List.setIfInBounds_toArray, List.set_cons_succ, List.set_cons_zero]
            refine w_value (.slice (some ⟨g1, f1, none⟩) ks.length c1) (by kernel_rfl) (fun w hw => x_loadKids _ _ _ _ _ _ _ _ 5 _ rfl w (HX.out w hw).2.2) ?_
            simp only [Act.put, List.setIfInBounds_toArray, List.set_cons_succ, List.set_cons_zero]
            refine w_value (.int .i64 k) (by kernel_rfl) (fun w hw => x_move _ _ _ _ _ _ _ _ rfl w) ?_
            simp only [Act.put, List.setIfInBounds_toArray, List.set_cons_succ, List.set_cons_zero]
            refine w_value (.pointer (some ⟨g1, f1 + k, none⟩)) (by kernel_rfl) (fun w hw => x_idxP _ _ _ _ _ _ _ _ g1 f1 ks.length c1 k rfl rfl hlt w) ?_
            simp only [Act.put, List.setIfInBounds_toArray, List.set_cons_succ, List.set_cons_zero]
            refine w_value (PT p) (by kernel_rfl) (fun w hw => x_loadP _ _ _ _ _ _ _ _ _ _ rfl w (hq1 w hw).1) ?_
            simp only [Act.put, List.setIfInBounds_toArray, List.set_cons_succ, List.set_cons_zero]
            refine w_value (PT b') (by kernel_rfl) (fun w hw => x_move _ _ _ _ _ _ _ _ rfl w) ?_
            simp only [Act.put, List.setIfInBounds_toArray, List.set_cons_succ, List.set_cons_zero]
            refine w_value (PT b') (by kernel_rfl) (fun w hw => x_nilCheck _ _ _ _ _ _ _ _ rfl w) ?_
            simp only [Act.put, List.setIfInBounds_toArray, List.set_cons_succ, List.set_cons_zero]
            refine w_value (.pointer (some ⟨b', 5, none⟩)) (by kernel_rfl) (fun w hw => x_field2 _ _ _ _ _ _ _ _ rfl w) ?_
            simp only [Act.put, List.setIfInBounds_toArray, List.set_cons_succ, List.set_cons_zero]
            refine w_value (.slice (some ⟨g2, f2, none⟩) ls.length c2) (by kernel_rfl) (fun w hw => x_loadKids _ _ _ _ _ _ _ _ 5 _ rfl w (HY.out w hw).2.2) ?_
            simp only [Act.put, List.setIfInBounds_toArray, List.set_cons_succ, List.set_cons_zero]
            refine w_value (.int .i64 k) (by kernel_rfl) (fun w hw => x_move _ _ _ _ _ _ _ _ rfl w) ?_
            simp only [Act.put, List.setIfInBounds_toArray, List.set_cons_succ, List.set_cons_zero]
            refine w_value (.pointer (some ⟨g2, f2 + k, none⟩)) (by kernel_rfl) (fun w hw => x_idxP _ _ _ _ _ _ _ _ g2 f2 ls.length c2 k rfl rfl hlt2 w) ?_
            simp only [Act.put, List.setIfInBounds_toArray, List.set_cons_succ, List.set_cons_zero]
            refine w_value (PT q) (by kernel_rfl) (fun w hw => x_loadP _ _ _ _ _ _ _ _ _ _ rfl w (hq2 w hw).1) ?_
            simp only [Act.put, List.setIfInBounds_toArray, List.set_cons_succ, List.set_cons_zero]
            refine w_call hG 17 #[PT p, PT q] (.bool bb) (by kernel_rfl) (fun w => x_call2 _ _ _ _ _ _ _ _ _ _ _ _ _ rfl rfl rfl (enters_of Tryd.func17 (by kernel_rfl) rfl) w) (fun w hw => hq3 w hw) ?_
            simp only [Act.put, List.setIfInBounds_toArray, List.set_cons_succ, List.set_cons_zero]
            refine w_value (.bool (!bb)) (by kernel_rfl) (fun w hw => x_notBool _ _ _ _ _ _ _ bb rfl w) ?_
            simp only [Act.put, List.setIfInBounds_toArray, List.set_cons_succ, List.set_cons_zero]
            refine w_nil ?_
            intro W hW
            clear hG hq1 hq2 hq3
            cases bb
            · have HKY := hide (key_bne HW1.out HW2.out (fun e => HKF.out rfl (by injection e)))
              unfold PT
              go_wp2
              go_ret
              refine ⟨?_, hW⟩
              rw [HKY.out]; rfl
            · unfold PT
              go_wp2
              refine ⟨⟨k + 1, by omega, by go_num, ?_, hW⟩, by simp [intOf]; omega⟩
              show ks.take (k + 1) = ls.take (k + 1)
              rw [HT1.out, HT2.out, HE.out, HKK.out rfl]
          · obtain rfl : k = ks.length := by omega
            have hkl : ks = ls := by
              have h := HE.out
              rw [List.take_length, HLN.out, List.take_length] at h
              exact h
            have hkd : decide (ks.length < ks.length) = false := by simp
            have HKY : Hid (((RE.mk o s ks).key == (RE.mk o s2 ls).key) = true) := by
              show _ = _
              rw [HS12.out, hkl]; simp
            clear hkl
            go_wp2
            go_ret
            refine ⟨?_, HW.out⟩
            rw [HKY.out]; rfl
      · have hk := key_bne HW1.out HW2.out (fun e => hl (by injection e with _ _ e; rw [e]))
        have hl : ((ks.length : Int) != (ls.length : Int)) = true := by simp; omega
        have HKY := hide hk
        clear hk
        go_enter Tryd.func17, Tryd.ntmps17
        unfold PT
        go_wp2
        refine w_lit (C := fun W => Below w.heap.size w W) (by kernel_rfl) (by kernel_rfl) ⟨rfl, rfl, rfl, Nat.le_refl _, fun _ _ => rfl⟩ ?_
        refine w_value (PT b) (by kernel_rfl) (fun w hw => x_move _ _ _ _ _ _ _ _ rfl w) ?_
        simp only [Act.put, List.setIfInBounds_toArray, List.set_cons_succ, List.set_cons_zero]
        refine w_value (PT b) (by kernel_rfl) (fun w hw => x_nilCheck _ _ _ _ _ _ _ _ rfl w) ?_
        simp only [Act.put, List.setIfInBounds_toArray, List.set_cons_succ, List.set_cons_zero]
        refine w_value (PT b) (by kernel_rfl) (fun w hw => x_field0 _ _ _ _ _ _ _ _ rfl w) ?_
        simp only [Act.put, List.setIfInBounds_toArray, List.set_cons_succ, List.set_cons_zero]
        refine w_value (.int .i64 o) (by kernel_rfl) (fun w hw => x_loadOp _ _ _ _ _ _ _ _ o rfl w (HX.out w hw).1) ?_
        simp only [Act.put, List.setIfInBounds_toArray, List.set_cons_succ, List.set_cons_zero]
        refine w_value (PT b') (by kernel_rfl) (fun w hw => x_move _ _ _ _ _ _ _ _ rfl w) ?_
        simp only [Act.put, List.setIfInBounds_toArray, List.set_cons_succ, List.set_cons_zero]
        refine w_value (PT b') (by kernel_rfl) (fun w hw => x_nilCheck _ _ _ _ _ _ _ _ rfl w) ?_
        simp only [Act.put, List.setIfInBounds_toArray, List.set_cons_succ, List.set_cons_zero]
        refine w_value (PT b') (by kernel_rfl) (fun w hw => x_field0 _ _ _ _ _ _ _ _ rfl w) ?_
        simp only [Act.put, List.setIfInBounds_toArray, List.set_cons_succ, List.set_cons_zero]
        refine w_value (.int .i64 o) (by kernel_rfl) (fun w hw => x_loadOp _ _ _ _ _ _ _ _ o rfl w (HY.out w hw).1) ?_
        simp only [Act.put, List.setIfInBounds_toArray, List.set_cons_succ, List.set_cons_zero]
        refine w_value (.bool false) (by kernel_rfl) (fun w hw => (x_neqOp _ _ _ _ _ _ _ _ _ _ rfl rfl w).trans (by rw [hop])) ?_
        simp only [Act.put, List.setIfInBounds_toArray, List.set_cons_succ, List.set_cons_zero]
        refine w_value (.bool false) (by kernel_rfl) (fun w hw => x_move _ _ _ _ _ _ _ _ rfl w) ?_
        simp only [Act.put, List.setIfInBounds_toArray, List.set_cons_succ, List.set_cons_zero]
        refine w_value (PT b) (by kernel_rfl) (fun w hw => x_move _ _ _ _ _ _ _ _ rfl w) ?_
        simp only [Act.put, List.setIfInBounds_toArray, List.set_cons_succ, List.set_cons_zero]
        refine w_value (PT b) (by kernel_rfl) (fun w hw => x_nilCheck _ _ _ _ _ _ _ _ rfl w) ?_
        simp only [Act.put, List.setIfInBounds_toArray, List.set_cons_succ, List.set_cons_zero]
        refine w_value (PT b) (by kernel_rfl) (fun w hw => x_field0 _ _ _ _ _ _ _ _ rfl w) ?_
        simp only [Act.put, List.setIfInBounds_toArray, List.set_cons_succ, List.set_cons_zero]
        refine w_value (.int .i64 o) (by kernel_rfl) (fun w hw => x_loadOp _ _ _ _ _ _ _ _ o rfl w (HX.out w hw).1) ?_
        simp only [Act.put, List.setIfInBounds_toArray, List.set_cons_succ, List.set_cons_zero]
        refine w_value (.bool false) (by kernel_rfl) (fun w hw => x_eqOpC _ _ _ _ _ _ _ _ _ false h2 rfl rfl w) ?_
        simp only [Act.put, List.setIfInBounds_toArray, List.set_cons_succ, List.set_cons_zero]
        refine w_value (.bool false) (by kernel_rfl) (fun w hw => x_move _ _ _ _ _ _ _ _ rfl w) ?_
        simp only [Act.put, List.setIfInBounds_toArray, List.set_cons_succ, List.set_cons_zero]
        refine w_skip (by kernel_rfl) ?_
        simp only [Act.put, List.setIfInBounds_toArray, List.set_cons_succ, List.set_cons_zero]
        refine w_skip (by kernel_rfl) ?_
        simp only [Act.put, List.setIfInBounds_toArray, List.set_cons_succ, List.set_cons_zero]
        refine w_skip (by kernel_rfl) ?_
        simp only [Act.put, List.setIfInBounds_toArray, List.set_cons_succ, List.set_cons_zero]
        refine w_skip (by kernel_rfl) ?_
        simp only [Act.put, List.setIfInBounds_toArray, List.set_cons_succ, List.set_cons_zero]
        refine w_skip (by kernel_rfl) ?_
        simp only [Act.put, List.setIfInBounds_toArray, List.set_cons_succ, List.set_cons_zero]
        refine w_skip (by kernel_rfl) ?_
        simp only [Act.put, List.setIfInBounds_toArray, List.set_cons_succ, List.set_cons_zero]
        refine w_skip (by kernel_rfl) ?_
        simp only [Act.put, List.setIfInBounds_toArray, List.set_cons_succ, List.set_cons_zero]
        refine w_skip (by kernel_rfl) ?_
        simp only [Act.put, List.setIfInBounds_toArray, List.set_cons_succ, List.set_cons_zero]
        refine w_skip (by kernel_rfl) ?_
        simp only [Act.put, List.setIfInBounds_toArray, List.set_cons_succ, List.set_cons_zero]
        refine w_value (.bool false) (by kernel_rfl) (fun w hw => x_pick _ _ _ _ _ _ _ _ _ false undef (.bool false) rfl rfl rfl w) ?_
        simp only [Act.put, List.setIfInBounds_toArray, List.set_cons_succ, List.set_cons_zero]
        refine w_value (.bool false) (by kernel_rfl) (fun w hw => x_pick _ _ _ _ _ _ _ _ _ false (.bool true) (.bool false) rfl rfl rfl w) ?_
        simp only [Act.put, List.setIfInBounds_toArray, List.set_cons_succ, List.set_cons_zero]
        refine w_value (.bool false) (by kernel_rfl) (fun w hw => x_move _ _ _ _ _ _ _ _ rfl w) ?_
        simp only [Act.put, List.setIfInBounds_toArray, List.set_cons_succ, List.set_cons_zero]
        refine w_value (PT b) (by kernel_rfl) (fun w hw => x_move _ _ _ _ _ _ _ _ rfl w) ?_
        simp only [Act.put, List.setIfInBounds_toArray, List.set_cons_succ, List.set_cons_zero]
        refine w_value (PT b) (by kernel_rfl) (fun w hw => x_nilCheck _ _ _ _ _ _ _ _ rfl w) ?_
        simp only [Act.put, List.setIfInBounds_toArray, List.set_cons_succ, List.set_cons_zero]
        refine w_value (.pointer (some ⟨b, 5, none⟩)) (by kernel_rfl) (fun w hw => x_field2 _ _ _ _ _ _ _ _ rfl w) ?_
        simp only [Act.put, List.setIfInBounds_toArray, List.set_cons_succ, List.set_cons_zero]
        refine w_value (.slice a1 ks.length c1) (by kernel_rfl) (fun w hw => x_loadKids _ _ _ _ _ _ _ _ 5 _ rfl w (HX.out w hw).2.2) ?_
        simp only [Act.put, List.setIfInBounds_toArray, List.set_cons_succ, List.set_cons_zero]
        refine w_value (.int .i64 ks.length) (by kernel_rfl) (fun w hw => x_lenP _ _ _ _ _ _ _ a1 ks.length c1 rfl w) ?_
        simp only [Act.put, List.setIfInBounds_toArray, List.set_cons_succ, List.set_cons_zero]
        refine w_value (PT b') (by kernel_rfl) (fun w hw => x_move _ _ _ _ _ _ _ _ rfl w) ?_
        simp only [Act.put, List.setIfInBounds_toArray, List.set_cons_succ, List.set_cons_zero]
        refine w_value (PT b') (by kernel_rfl) (fun w hw => x_nilCheck _ _ _ _ _ _ _ _ rfl w) ?_
        simp only [Act.put, List.setIfInBounds_toArray, List.set_cons_succ, List.set_cons_zero]
        refine w_value (.pointer (some ⟨b', 5, none⟩)) (by kernel_rfl) (fun w hw => x_field2 _ _ _ _ _ _ _ _ rfl w) ?_
        simp only [Act.put, List.setIfInBounds_toArray, List.set_cons_succ, List.set_cons_zero]
        refine w_value (.slice a2 ls.length c2) (by kernel_rfl) (fun w hw => x_loadKids _ _ _ _ _ _ _ _ 5 _ rfl w (HY.out w hw).2.2) ?_
        simp only [Act.put, List.setIfInBounds_toArray, List.set_cons_succ, List.set_cons_zero]
        refine w_value (.int .i64 ls.length) (by kernel_rfl) (fun w hw => x_lenP _ _ _ _ _ _ _ a2 ls.length c2 rfl w) ?_
        simp only [Act.put, List.setIfInBounds_toArray, List.set_cons_succ, List.set_cons_zero]
        refine w_value (.bool true) (by kernel_rfl) (fun w hw => (x_neqInt _ _ _ _ _ _ _ _ _ _ rfl rfl w).trans (by rw [hl])) ?_
        simp only [Act.put, List.setIfInBounds_toArray, List.set_cons_succ, List.set_cons_zero]
        refine w_value (.bool true) (by kernel_rfl) (fun w hw => x_pick _ _ _ _ _ _ _ _ _ false (.bool true) (.bool true) rfl rfl rfl w) ?_
        simp only [Act.put, List.setIfInBounds_toArray, List.set_cons_succ, List.set_cons_zero]
        refine w_nil ?_
        intro W hW
        unfold PT
        go_wp2
        go_ret
        refine ⟨?_, hW⟩
        rw [HKY.out]; rfl
  · have hk := key_bne HW1.out HW2.out (fun e => hop (by injection e))
    have hop : ((o : Int) != (o2 : Int)) = true := by simp; omega
    have HKY := hide hk
    clear hk
    go_enter Tryd.func17, Tryd.ntmps17
    unfold PT
    go_wp2
    refine w_lit (C := fun W => Below w.heap.size w W) (by kernel_rfl) (by kernel_rfl) ⟨rfl, rfl, rfl, Nat.le_refl _, fun _ _ => rfl⟩ ?_
    refine w_value (PT b) (by kernel_rfl) (fun w hw => x_move _ _ _ _ _ _ _ _ rfl w) ?_
    simp only [Act.put, List.setIfInBounds_toArray, List.set_cons_succ, List.set_cons_zero]
    refine w_value (PT b) (by kernel_rfl) (fun w hw => x_nilCheck _ _ _ _ _ _ _ _ rfl w) ?_
    simp only [Act.put, List.setIfInBounds_toArray, List.set_cons_succ, List.set_cons_zero]
    refine w_value (PT b) (by kernel_rfl) (fun w hw => x_field0 _ _ _ _ _ _ _ _ rfl w) ?_
    simp only [Act.put, List.setIfInBounds_toArray, List.set_cons_succ, List.set_cons_zero]
    refine w_value (.int .i64 o) (by kernel_rfl) (fun w hw => x_loadOp _ _ _ _ _ _ _ _ o rfl w (HX.out w hw).1) ?_
    simp only [Act.put, List.setIfInBounds_toArray, List.set_cons_succ, List.set_cons_zero]
    refine w_value (PT b') (by kernel_rfl) (fun w hw => x_move _ _ _ _ _ _ _ _ rfl w) ?_
    simp only [Act.put, List.setIfInBounds_toArray, List.set_cons_succ, List.set_cons_zero]
    refine w_value (PT b') (by kernel_rfl) (fun w hw => x_nilCheck _ _ _ _ _ _ _ _ rfl w) ?_
    simp only [Act.put, List.setIfInBounds_toArray, List.set_cons_succ, List.set_cons_zero]
    refine w_value (PT b') (by kernel_rfl) (fun w hw => x_field0 _ _ _ _ _ _ _ _ rfl w) ?_
    simp only [Act.put, List.setIfInBounds_toArray, List.set_cons_succ, List.set_cons_zero]
    refine w_value (.int .i64 o2) (by kernel_rfl) (fun w hw => x_loadOp _ _ _ _ _ _ _ _ o2 rfl w (HY.out w hw).1) ?_
    simp only [Act.put, List.setIfInBounds_toArray, List.set_cons_succ, List.set_cons_zero]
    refine w_value (.bool true) (by kernel_rfl) (fun w hw => (x_neqOp _ _ _ _ _ _ _ _ _ _ rfl rfl w).trans (by rw [hop])) ?_
    simp only [Act.put, List.setIfInBounds_toArray, List.set_cons_succ, List.set_cons_zero]
    refine w_value (.bool true) (by kernel_rfl) (fun w hw => x_move _ _ _ _ _ _ _ _ rfl w) ?_
    simp only [Act.put, List.setIfInBounds_toArray, List.set_cons_succ, List.set_cons_zero]
    refine w_skip (by kernel_rfl) ?_
    simp only [Act.put, List.setIfInBounds_toArray, List.set_cons_succ, List.set_cons_zero]
    refine w_skip (by kernel_rfl) ?_
    simp only [Act.put, List.setIfInBounds_toArray, List.set_cons_succ, List.set_cons_zero]
    refine w_skip (by kernel_rfl) ?_
    simp only [Act.put, List.setIfInBounds_toArray, List.set_cons_succ, List.set_cons_zero]
    refine w_skip (by kernel_rfl) ?_
    simp only [Act.put, List.setIfInBounds_toArray, List.set_cons_succ, List.set_cons_zero]
    refine w_skip (by kernel_rfl) ?_
    simp only [Act.put, List.setIfInBounds_toArray, List.set_cons_succ, List.set_cons_zero]
    refine w_skip (by kernel_rfl) ?_
    simp only [Act.put, List.setIfInBounds_toArray, List.set_cons_succ, List.set_cons_zero]
    refine w_skip (by kernel_rfl) ?_
    simp only [Act.put, List.setIfInBounds_toArray, List.set_cons_succ, List.set_cons_zero]
    refine w_skip (by kernel_rfl) ?_
    simp only [Act.put, List.setIfInBounds_toArray, List.set_cons_succ, List.set_cons_zero]
    refine w_skip (by kernel_rfl) ?_
    simp only [Act.put, List.setIfInBounds_toArray, List.set_cons_succ, List.set_cons_zero]
    refine w_skip (by kernel_rfl) ?_
    simp only [Act.put, List.setIfInBounds_toArray, List.set_cons_succ, List.set_cons_zero]
    refine w_skip (by kernel_rfl) ?_
    simp only [Act.put, List.setIfInBounds_toArray, List.set_cons_succ, List.set_cons_zero]
    refine w_skip (by kernel_rfl) ?_
    simp only [Act.put, List.setIfInBounds_toArray, List.set_cons_succ, List.set_cons_zero]
    refine w_skip (by kernel_rfl) ?_
    simp only [Act.put, List.setIfInBounds_toArray, List.set_cons_succ, List.set_cons_zero]
    refine w_skip (by kernel_rfl) ?_
    simp only [Act.put, List.setIfInBounds_toArray, List.set_cons_succ, List.set_cons_zero]
    refine w_skip (by kernel_rfl) ?_
    simp only [Act.put, List.setIfInBounds_toArray, List.set_cons_succ, List.set_cons_zero]
    refine w_skip (by kernel_rfl) ?_
    simp only [Act.put, List.setIfInBounds_toArray, List.set_cons_succ, List.set_cons_zero]
    refine w_value (.bool true) (by kernel_rfl) (fun w hw => x_pick _ _ _ _ _ _ _ _ _ true (.bool true) undef rfl rfl rfl w) ?_
    simp only [Act.put, List.setIfInBounds_toArray, List.set_cons_succ, List.set_cons_zero]
    refine w_value (.bool true) (by kernel_rfl) (fun w hw => x_move _ _ _ _ _ _ _ _ rfl w) ?_
    simp only [Act.put, List.setIfInBounds_toArray, List.set_cons_succ, List.set_cons_zero]
    refine w_skip (by kernel_rfl) ?_
    simp only [Act.put, List.setIfInBounds_toArray, List.set_cons_succ, List.set_cons_zero]
    refine w_skip (by kernel_rfl) ?_
    simp only [Act.put, List.setIfInBounds_toArray, List.set_cons_succ, List.set_cons_zero]
    refine w_skip (by kernel_rfl) ?_
    simp only [Act.put, List.setIfInBounds_toArray, List.set_cons_succ, List.set_cons_zero]
    refine w_skip (by kernel_rfl) ?_
    simp only [Act.put, List.setIfInBounds_toArray, List.set_cons_succ, List.set_cons_zero]
    refine w_skip (by kernel_rfl) ?_
    simp only [Act.put, List.setIfInBounds_toArray, List.set_cons_succ, List.set_cons_zero]
    refine w_skip (by kernel_rfl) ?_
    simp only [Act.put, List.setIfInBounds_toArray, List.set_cons_succ, List.set_cons_zero]
    refine w_skip (by kernel_rfl) ?_
    simp only [Act.put, List.setIfInBounds_toArray, List.set_cons_succ, List.set_cons_zero]
    refine w_skip (by kernel_rfl) ?_
    simp only [Act.put, List.setIfInBounds_toArray, List.set_cons_succ, List.set_cons_zero]
    refine w_skip (by kernel_rfl) ?_
    simp only [Act.put, List.setIfInBounds_toArray, List.set_cons_succ, List.set_cons_zero]
    refine w_skip (by kernel_rfl) ?_
    simp only [Act.put, List.setIfInBounds_toArray, List.set_cons_succ, List.set_cons_zero]
    refine w_skip (by kernel_rfl) ?_
    simp only [Act.put, List.setIfInBounds_toArray, List.set_cons_succ, List.set_cons_zero]
    refine w_value (.bool true) (by kernel_rfl) (fun w hw => x_pick _ _ _ _ _ _ _ _ _ true (.bool true) undef rfl rfl rfl w) ?_
    simp only [Act.put, List.setIfInBounds_toArray, List.set_cons_succ, List.set_cons_zero]
    refine w_nil ?_
    intro W hW
    unfold PT
    go_wp2
    go_ret
    refine ⟨?_, hW⟩
    rw [HKY.out]; rfl
end Go.Proofs.YtkjmjppmpcnejaaDoor
/- ReKeys: keys are one just where all parts are. -/
namespace Go.Proofs.YtkjmjppmpcnejaaDoor
set_option maxRecDepth 100000
set_option linter.unusedSimpArgs false
set_option linter.unusedVariables false
open Go.RowKit

theorem key_len (r : RE) : r.key.length ≤ 514 * r.cnt := by
  refine RE.ind (P := fun r => r.key.length ≤ 514 * r.cnt) ?_ r
  intro o s ks ih
  have hk : (keysL ks).length ≤ 514 * cntL ks := by
    unfold keysL
    induction ks with
    | nil => simp
    | cons k ks ih2 =>
      have e1 := ih k (by simp)
      have e2 := ih2 fun x hx => ih x (by simp [hx])
      rw [cntL_cons, List.map_cons, List.flatten_cons, List.length_append]
      omega
  have hr := runs_le s
  rw [RE.key_mk, RE.cnt_mk]
  have h3 : (if o = 2 then rnB (runsOf s) else []).length ≤ 512 := by
    split
    · rw [rnB_length]; omega
    · simp
  simp only [List.length_cons, List.length_append, List.length_nil]
  omega

theorem key_nil (w : World) : Calls Tryd.prog 16 #[.pointer none] w fun e w' => e = .returned (.string ⟨#[]⟩) ∧ Below w.heap.size w w' := by
  have hk : Calls Tryd.prog 40 #[.pointer none, .slice none 0 0] w fun e w' => e = .returned (.slice none 0 0) ∧ w' = w := by
    go_enter Tryd.func40, Tryd.ntmps40
    go_wp2
    go_ret
    exact ⟨rfl, rfl⟩
  have HK := hide hk
  clear hk
  go_enter Tryd.func16, Tryd.ntmps16
  go_wp2_with fail
  refine HK.out.mono ?_
  rintro e w1 ⟨rfl, rfl⟩
  have hcv := run_convert_bytes_nil (P := Tryd.prog) w1 57 5 Tryd.underlying57 Tryd.underlying5 0 0 9 Tryd.underlying9
  go_wp2
  go_ret
  exact ⟨rfl, Below.refl _ _⟩
theorem size_nil (w : World) : Calls Tryd.prog 14 #[.pointer none] w fun e w' => e = .returned (.int .i64 0) ∧ Below w.heap.size w w' := by
  go_enter Tryd.func14, Tryd.ntmps14
  go_wp2
  go_ret
  exact ⟨rfl, Below.refl _ _⟩
theorem null_nil (w : World) : Calls Tryd.prog 12 #[.pointer none] w fun e w' => e = .returned (.bool false) ∧ Below w.heap.size w w' := by
  have hk : Calls Tryd.prog 37 #[.pointer none] w fun e w' => ∃ b, e = .returned (PT b) ∧ ReAt w' b rNothing ∧ Below w.heap.size w w' := by
    go_enter Tryd.func37, Tryd.ntmps37
    go_wp2_with fail
    refine (nothing_any _).mono ?_
    rintro e w1 ⟨b, rfl, h1, h2⟩
    have H1 := hide h1
    have H2 := hide h2
    clear h1 h2
    unfold PT
    go_wp2
    go_ret
    exact ⟨b, rfl, H1.out, H2.out⟩
  have HK := hide hk
  clear hk
  go_enter Tryd.func12, Tryd.ntmps12
  go_wp2_with fail
  refine HK.out.mono ?_
  rintro e w1 ⟨b, rfl, h1, h2⟩
  obtain ⟨v, hb, -⟩ := h1.row
  have c7 := hb.cell 7
  simp only [reC, List.getElem?_toArray, List.getElem?_cons_zero, List.getElem?_cons_succ, PT] at c7
  have hn : rNothing.null = false := by unfold rNothing; rw [RE.null_mk]; rfl
  rw [hn] at c7
  have H2 := hide h2
  clear h1 h2 hb
  unfold PT
  go_wp2
  go_ret
  exact ⟨rfl, H2.out⟩
theorem back_nil (w : World) : Calls Tryd.prog 19 #[.pointer none] w fun e w' => e = .returned (.pointer none) ∧ Below w.heap.size w w' := by
  go_enter Tryd.func19, Tryd.ntmps19
  go_wp2
  go_ret
  exact ⟨rfl, Below.refl _ _⟩

/-- The cells of a shape in its box. -/
def shC (s : SHP) (a : Option Addr) (c : Nat) : Array Value := #[.int .i64 s.op, .int .u8 s.lo, .int .u8 s.hi, .string s.text, .slice a s.kids.length c]
structure Two (w : World) (B : Nat) (s t : SHP) (a : Option Addr) (c : Nat) (a' : Option Addr) (c' : Nat) (W : World) : Prop where
  below : Below B w W
  x : Blk W B (shC s a c) 24
  y : Blk W (B + 1) (shC t a' c') 24
theorem Two.step {w : World} {B : Nat} {s t : SHP} {a : Option Addr} {c : Nat} {a' : Option Addr} {c' : Nat} {W W' : World} (h : Two w B s t a c a' c' W) (hb : Below W.heap.size W W') : Two w B s t a c a' c' W' :=
  ⟨h.below.trans (hb.mono (by have := h.x.lt; omega)), h.x.below hb h.x.lt, h.y.below hb h.y.lt⟩

set_option maxHeartbeats 2000000 in
theorem reKeys_any (cs ct : List Value) (s t : SHP) (w : World) (hs : ShC w cs s) (ht : ShC w ct t) (hT : TabAt w) :
    Calls Tryd.prog 4 #[ShVal cs, ShVal ct] w fun e w' => e = .returned (.bool true) ∧ Below w.heap.size w w' := by
  have HC := hide hs
  have HD := hide ht
  have HT := hide hT
  obtain ⟨kv, rfl, hrow, -⟩ := hs.open
  obtain ⟨-, a, cap, rfl, -⟩ := hrow.at
  obtain ⟨kv, rfl, hrow2, -⟩ := ht.open
  obtain ⟨-, a', cap', rfl, -⟩ := hrow2.at
  clear hs hT hrow ht hrow2
  obtain ⟨B, hB⟩ : ∃ B, B = w.heap.size := ⟨_, rfl⟩
  unfold ShVal
  go_enter Tryd.func4, Tryd.ntmps4
  go_wp2_with fail
  have h2 : Two w B s t a cap a' cap' ((w.alloc (.cells (shC s a cap) 24)).alloc (.cells (shC t a' cap') 24)) :=
    ⟨((Below.refl _ _).alloc (Nat.le_of_eq hB) _).alloc (by simp; omega) _, (Blk.newAt hB _ _).alloc _, Blk.newAt (by simp; omega) _ _⟩
  unfold shC at h2
  refine (head3_any _ (HT.out.agree (Agree.of_all (K := fun _ => True) (hB ▸ h2.below)) trivial)).mono ?_
  rintro e w1 ⟨rfl, hb1⟩
  have H1 := hide (h2.step hb1)
  have HB := hide hB
  rw [← hB]
  clear h2 hb1 hB
  have hx := H1.out.x
  have x0 := hx.cell 0; have x1 := hx.cell 1; have x2 := hx.cell 2; have x3 := hx.cell 3; have x4 := hx.cell 4
  simp only [shC, List.getElem?_toArray, List.getElem?_cons_zero, List.getElem?_cons_succ] at x0 x1 x2 x3 x4
  clear hx
  have HFEW := hide (few_any s _ w1 (HC.out.keep (HB.out ▸ H1.out.below)))
  unfold ShVal at HFEW
  go_wp2_with fail
  refine HFEW.out.mono ?_
  rintro e w2 ⟨few, rfl, hfw, hb2⟩
  have H2 := hide (H1.out.step hb2)
  have HFW := hide hfw
  clear hb2 hfw HFEW x0 x1 x2 x3 x4 H1
  cases few
  · go_wp2
    go_ret
    exact ⟨rfl, HB.out ▸ H2.out.below⟩
  obtain ⟨htx, hnd⟩ := HFW.out rfl
  clear HFW
  have hx := H2.out.y
  have x0 := hx.cell 0; have x1 := hx.cell 1; have x2 := hx.cell 2; have x3 := hx.cell 3; have x4 := hx.cell 4
  simp only [shC, List.getElem?_toArray, List.getElem?_cons_zero, List.getElem?_cons_succ] at x0 x1 x2 x3 x4
  clear hx
  have HFEW := hide (few_any t _ w2 (HD.out.keep (HB.out ▸ H2.out.below)))
  unfold ShVal at HFEW
  go_wp2_with fail
  refine HFEW.out.mono ?_
  rintro e w3 ⟨few, rfl, hfw, hb2⟩
  have H3 := hide (H2.out.step hb2)
  have HFW := hide hfw
  clear hb2 hfw HFEW x0 x1 x2 x3 x4 H2
  cases few
  · go_wp2
    go_ret
    exact ⟨rfl, HB.out ▸ H3.out.below⟩
  obtain ⟨htx2, hnd2⟩ := HFW.out rfl
  clear HFW
  have hx := H3.out.x
  have x0 := hx.cell 0; have x1 := hx.cell 1; have x2 := hx.cell 2; have x3 := hx.cell 3; have x4 := hx.cell 4
  simp only [shC, List.getElem?_toArray, List.getElem?_cons_zero, List.getElem?_cons_succ] at x0 x1 x2 x3 x4
  clear hx
  have HMK := hide (make_any s _ w3 (HC.out.keep (HB.out ▸ H3.out.below)) htx hnd (HT.out.agree (Agree.of_all (K := fun _ => True) (HB.out ▸ H3.out.below)) trivial))
  unfold ShVal at HMK
  go_wp2_with fail
  refine HMK.out.mono ?_
  rintro e w4 ⟨rb, rfl, hr, hb2⟩
  have H4 := hide (H3.out.step hb2)
  have HR := hide hr
  clear hb2 hr HMK x0 x1 x2 x3 x4 H3
  have hx := H4.out.y
  have x0 := hx.cell 0; have x1 := hx.cell 1; have x2 := hx.cell 2; have x3 := hx.cell 3; have x4 := hx.cell 4
  simp only [shC, List.getElem?_toArray, List.getElem?_cons_zero, List.getElem?_cons_succ] at x0 x1 x2 x3 x4
  clear hx
  have HMK := hide (make_any t _ w4 (HD.out.keep (HB.out ▸ H4.out.below)) htx2 hnd2 (HT.out.agree (Agree.of_all (K := fun _ => True) (HB.out ▸ H4.out.below)) trivial))
  unfold ShVal at HMK
  unfold PT
  go_wp2_with fail
  refine HMK.out.mono ?_
  rintro e w5 ⟨qb, rfl, hr, hb2⟩
  have HBB := hide (H4.out.step hb2).below
  have HLE : Hid (B ≤ w5.heap.size) := Nat.le_trans (by have := H4.out.x.lt; omega) hb2.size
  have HRA := hide (HR.out.keep hb2)
  have HRB := hide hr
  have HTB := hide (HT.out.agree (Agree.of_all (K := fun _ => True) (HB.out ▸ (H4.out.step hb2).below)) trivial)
  have hk1 : s.re.key.length ≤ 1099511627776 := by have e1 := s.cnt htx; have e2 := key_len s.re; omega
  have hk2 : t.re.key.length ≤ 1099511627776 := by have e1 := t.cnt htx2; have e2 := key_len t.re; omega
  have HK1 := hide hk1
  have HK2 := hide hk2
  have HW1 := hide s.wf.k
  have HW2 := hide t.wf.k
  clear hb2 hr HMK x0 x1 x2 x3 x4 H4 HR hk1 hk2 htx htx2 hnd hnd2 HC HD HT
  obtain ⟨r, hr⟩ : ∃ r, r = s.re := ⟨_, rfl⟩
  obtain ⟨r2, hr2⟩ : ∃ r2, r2 = t.re := ⟨_, rfl⟩
  rw [← hr] at HRA HK1 HW1
  rw [← hr2] at HRB HK2 HW2
  clear hr hr2
  obtain ⟨bb, hbb⟩ : ∃ bb, bb = (r.key == r2.key) := ⟨_, rfl⟩
  have HSB : Hid ((bb = true → (strB r.key).toList = (strB r2.key).toList) ∧ (bb = false → ¬ (strB r.key).toList = (strB r2.key).toList)) := by
    refine ⟨fun h => ?_, fun h => ?_⟩
    · rw [hbb, beq_iff_eq] at h
      rw [h]
    · rw [hbb, beq_eq_false_iff_ne] at h
      exact fun e => h (strB_inj (key_lt256 r HW1.out) (key_lt256 r2 HW2.out) (Go.WideShapes.bytes_inj (by rw [ByteArray.toList_eq, ByteArray.toList_eq] at e; exact e)))
  have HLX : Hid ((lexN r.key r2.key == 0) = bb) := by
    show _ = _
    rw [hbb]
    by_cases he : r.key = r2.key
    · rw [he, lexN_self]; simp
    · rw [beq_eq_false_iff_ne.2 he]
      exact beq_eq_false_iff_ne.2 fun h => he (lexN_zero _ _ h)
  have HAL : Hid (∀ W, Below w5.heap.size w5 W → Calls Tryd.prog 17 #[PT rb, PT qb] W fun e w' => e = .returned (.bool bb) ∧ Below W.heap.size W w') := fun W hW => by
    rw [hbb]; exact alike_any r r2 rb qb W HW1.out HW2.out (HRA.out.keep hW) (HRB.out.keep hW)
  have HSA : Hid (∀ W, Below w5.heap.size w5 W → Calls Tryd.prog 18 #[PT rb, PT qb] W fun e w' => e = .returned (.bool bb) ∧ Below W.heap.size W w') := fun W hW => by
    rw [← HLX.out]; exact (same_re r r2 rb qb W HW1.out HW2.out (HRA.out.keep hW) (HRB.out.keep hW) (HTB.out.agree (Agree.of_all (K := fun _ => True) hW) trivial)).mono fun e w' ⟨h1, h2⟩ => ⟨h1, h2.below⟩
  have hke := key_any r rb w5 HW1.out HRA.out HK1.out HTB.out
  have HKE := hide hke
  clear hke hbb
  unfold PT at HKE HAL HSA ⊢
  go_wp2_with fail
  refine HKE.out.mono ?_
  rintro e w6 ⟨rfl, hb6⟩
  have hke := key_any r2 qb w6 HW2.out (HRB.out.keep hb6) HK2.out (HTB.out.agree (Agree.of_all (K := fun _ => True) hb6) trivial)
  have HKF := hide hke
  have HB6 := hide hb6
  clear hke hb6 HKE
  unfold PT at HKF
  go_wp2_with fail
  refine HKF.out.mono ?_
  rintro e w7 ⟨rfl, hb7⟩
  have HB7 := hide (HB6.out.trans (hb7.mono HB6.out.size))
  clear hb7 HKF HB6
  have hst := HSB.out
  clear HSB HLX HK1 HK2
  generalize strB r.key = k1 at hst ⊢
  generalize strB r2.key = k2 at hst ⊢
  cases bb
  · replace hst : (k1.toList == k2.toList) = false := beq_eq_false_iff_ne.2 (hst.2 rfl)
    go_wp2_with fail
    refine (HAL.out w7 HB7.out).mono ?_
    rintro e w8 ⟨rfl, hb8⟩
    have HB8 := hide (HB7.out.trans (hb8.mono HB7.out.size))
    clear hb8 HB7
    go_wp2_with fail
    refine (HSA.out w8 HB8.out).mono ?_
    rintro e w9 ⟨rfl, hb8⟩
    have HB9 := hide (HB8.out.trans (hb8.mono HB8.out.size))
    clear hb8 HB8
    go_wp2_with fail
    refine (HAL.out w9 HB9.out).mono ?_
    rintro e w10 ⟨rfl, hb8⟩
    have HB10 := hide (HB9.out.trans (hb8.mono HB9.out.size))
    clear hb8 HB9
    go_wp2_with fail
    refine (key_nil w10).mono ?_
    rintro e w11 ⟨rfl, hb8⟩
    have HB11 := hide (HB10.out.trans (hb8.mono HB10.out.size))
    clear hb8 HB10
    go_wp2_with fail
    refine (size_nil w11).mono ?_
    rintro e w12 ⟨rfl, hb8⟩
    have HB12 := hide (HB11.out.trans (hb8.mono HB11.out.size))
    clear hb8 HB11
    go_wp2_with fail
    refine (null_nil w12).mono ?_
    rintro e w13 ⟨rfl, hb8⟩
    have HB13 := hide (HB12.out.trans (hb8.mono HB12.out.size))
    clear hb8 HB12
    go_wp2_with fail
    refine (back_nil w13).mono ?_
    rintro e w14 ⟨rfl, hb8⟩
    have HB14 := hide (HBB.out.trans ((HB13.out.trans (hb8.mono HB13.out.size)).mono HLE.out))
    clear hb8 HB13
    go_wp2
    go_ret
    exact ⟨rfl, HB.out ▸ HB14.out⟩
  · replace hst : (k1.toList == k2.toList) = true := by rw [hst.1 rfl]; simp
    go_wp2_with fail
    refine (HAL.out w7 HB7.out).mono ?_
    rintro e w8 ⟨rfl, hb8⟩
    have HB8 := hide (HB7.out.trans (hb8.mono HB7.out.size))
    clear hb8 HB7
    go_wp2_with fail
    refine (HSA.out w8 HB8.out).mono ?_
    rintro e w9 ⟨rfl, hb8⟩
    have HB9 := hide (HB8.out.trans (hb8.mono HB8.out.size))
    clear hb8 HB8
    go_wp2_with fail
    refine (HAL.out w9 HB9.out).mono ?_
    rintro e w10 ⟨rfl, hb8⟩
    have HB10 := hide (HB9.out.trans (hb8.mono HB9.out.size))
    clear hb8 HB9
    go_wp2_with fail
    refine (key_nil w10).mono ?_
    rintro e w11 ⟨rfl, hb8⟩
    have HB11 := hide (HB10.out.trans (hb8.mono HB10.out.size))
    clear hb8 HB10
    go_wp2_with fail
    refine (size_nil w11).mono ?_
    rintro e w12 ⟨rfl, hb8⟩
    have HB12 := hide (HB11.out.trans (hb8.mono HB11.out.size))
    clear hb8 HB11
    go_wp2_with fail
    refine (null_nil w12).mono ?_
    rintro e w13 ⟨rfl, hb8⟩
    have HB13 := hide (HB12.out.trans (hb8.mono HB12.out.size))
    clear hb8 HB12
    go_wp2_with fail
    refine (back_nil w13).mono ?_
    rintro e w14 ⟨rfl, hb8⟩
    have HB14 := hide (HBB.out.trans ((HB13.out.trans (hb8.mono HB13.out.size)).mono HLE.out))
    clear hb8 HB13
    go_wp2
    go_ret
    exact ⟨rfl, HB.out ▸ HB14.out⟩
theorem reKeys_all (v v1 : Value) (s t : SHP) (w : World) (hv : ∃ cs, v = ShVal cs ∧ ShC w cs s) (hv1 : ∃ cs, v1 = ShVal cs ∧ ShC w cs t) (hT : TabAt w) :
    Calls Tryd.prog 4 #[v, v1] w fun e w' => e = .returned (.bool true) ∧ Below w.heap.size w w' := by
  obtain ⟨cs, rfl, hs⟩ := hv
  obtain ⟨ct, rfl, ht⟩ := hv1
  exact reKeys_any cs ct s t w hs ht hT
end Go.Proofs.YtkjmjppmpcnejaaDoor
