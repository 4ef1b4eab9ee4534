/- Texts of this claim put together: LxH. -/
import Derived.Test.YtjlgepahgmkamaaGreatDoorJoinLxX
/- The document's example, as the statements of layer 11 ask it first. -/
namespace Go.Proofs.YtjlgepahgmkamaaGreatDoor
set_option maxRecDepth 100000
set_option linter.unusedSimpArgs false
set_option linter.unusedVariables false
open Go.RowKit Go.Shelf

section
variable (ρ : Operand → Value) (d : Option Tmp) (x y : Operand) (t : TypeId) (pos : String) (af : Array Edge) (g : Option (Nat × Bool))
theorem x_eqErr (hx : ρ x = .int .i64 0) (hy : ρ y = .int .i64 0) (w : World) : (execOp ρ { dst := d, op := .binOp .eql 39 x y 39, type := t, pos := pos, after := af, guard := g }).run Tryz.prog w = .ok (.value (.bool true)) w := by
  simp [go_sem, hx, hy]
theorem x_lenT (a : Option Addr) (n cap : Nat) (hx : ρ x = .slice a n cap) (w : World) : (execOp ρ { dst := d, op := .call { callee := .builtin .len, args := #[x], argTypes := #[24] }, type := t, pos := pos, after := af, guard := g }).run Tryz.prog w = .ok (.value (.int .i64 n)) w := by
  simp [go_sem, hx]
theorem x_eq33 (hx : ρ x = .int .i64 (3 : Nat)) (hy : ρ y = .int .i64 3) (w : World) : (execOp ρ { dst := d, op := .binOp .eql 3 x y 3, type := t, pos := pos, after := af, guard := g }).run Tryz.prog w = .ok (.value (.bool true)) w := by
  simp [go_sem, hx, hy]
theorem x_idxT (b len cap n : Nat) (hx : ρ x = .slice (some ⟨b, 0, none⟩) len cap) (hy : ρ y = .int .i64 n) (h1 : n < len) (w : World) : (execOp ρ { dst := d, op := .indexAddr 24 x y, type := t, pos := pos, after := af, guard := g }).run Tryz.prog w = .ok (.value (.pointer (some ⟨b, 0 + n * 4, none⟩))) w := by
  simp [go_sem, hx, hy, h1]
theorem x_fldT0 (b o : Nat) (hx : ρ x = .pointer (some ⟨b, o, none⟩)) (w : World) : (execOp ρ { dst := d, op := .fieldAddr 35 x 0, type := t, pos := pos, after := af, guard := g }).run Tryz.prog w = .ok (.value (.pointer (some ⟨b, o, none⟩))) w := by
  simp [go_sem, hx]
theorem x_fldT1 (b o : Nat) (hx : ρ x = .pointer (some ⟨b, o, none⟩)) (w : World) : (execOp ρ { dst := d, op := .fieldAddr 35 x 1, type := t, pos := pos, after := af, guard := g }).run Tryz.prog w = .ok (.value (.pointer (some ⟨b, o + 1, none⟩))) w := by
  simp [go_sem, hx]
theorem x_fldT2 (b o : Nat) (hx : ρ x = .pointer (some ⟨b, o, none⟩)) (w : World) : (execOp ρ { dst := d, op := .fieldAddr 35 x 2, type := t, pos := pos, after := af, guard := g }).run Tryz.prog w = .ok (.value (.pointer (some ⟨b, o + 2, none⟩))) w := by
  simp [go_sem, hx]
theorem x_ldS2 (b n : Nat) (v : ByteArray) (hx : ρ x = .pointer (some ⟨b, n, none⟩)) (w : World) (hc : w.cell? ⟨b, n, none⟩ = some (.string v)) : (execOp ρ { dst := d, op := .load 9 x, type := t, pos := pos, after := af, guard := g }).run Tryz.prog w = .ok (.value (.string v)) w := by
  simp [go_sem, hx, hc]
theorem x_eqCopy (hx : ρ x = .string ⟨#[99, 111, 112, 121]⟩) (hy : ρ y = .string ⟨#[99, 111, 112, 121]⟩) (w : World) : (execOp ρ { dst := d, op := .binOp .eql 9 x y 9, type := t, pos := pos, after := af, guard := g }).run Tryz.prog w = .ok (.value (.bool true)) w := by
  simp [go_sem, hx, hy]
theorem x_ldK (b n : Nat) (v : Int) (hx : ρ x = .pointer (some ⟨b, n, none⟩)) (w : World) (hc : w.cell? ⟨b, n, none⟩ = some (.int .i64 v)) : (execOp ρ { dst := d, op := .load 31 x, type := t, pos := pos, after := af, guard := g }).run Tryz.prog w = .ok (.value (.int .i64 v)) w := by
  simp [go_sem, hx, hc]
theorem x_eqK4 (hx : ρ x = .int .i64 4) (hy : ρ y = .int .i64 4) (w : World) : (execOp ρ { dst := d, op := .binOp .eql 31 x y 31, type := t, pos := pos, after := af, guard := g }).run Tryz.prog w = .ok (.value (.bool true)) w := by
  simp [go_sem, hx, hy]
theorem x_ldP (b n q : Nat) (hx : ρ x = .pointer (some ⟨b, n, none⟩)) (w : World) (hc : w.cell? ⟨b, n, none⟩ = some (PT q)) : (execOp ρ { dst := d, op := .load 32 x, type := t, pos := pos, after := af, guard := g }).run Tryz.prog w = .ok (.value (PT q)) w := by
  unfold PT at hc ⊢
  simp [go_sem, hx, hc]
theorem x_ldT (b n : Nat) (hx : ρ x = .pointer (some ⟨b, n, none⟩)) (w : World) (hc : w.cell? ⟨b, n, none⟩ = some (.int .i64 0) ∧ w.cell? ⟨b, n + 1, none⟩ = some (.string ⟨#[]⟩) ∧ w.cell? ⟨b, n + 2, none⟩ = some (.pointer none) ∧ w.cell? ⟨b, n + 3, none⟩ = some (.int .i64 8)) :
    (execOp ρ { dst := d, op := .load 35 x, type := t, pos := pos, after := af, guard := g }).run Tryz.prog w = .ok (.value (.agg #[.int .i64 0, .string ⟨#[]⟩, .pointer none, .int .i64 8])) w := by
  obtain ⟨h0, h1, h2, h3⟩ := hc
  simp [go_sem, hx, h0, h1, h2, h3]
theorem x_bldT (hx : ρ x = .int .i64 8) (w : World) : (execOp ρ { dst := d, op := .build 35 #[(3, x)], type := t, pos := pos, after := af, guard := g }).run Tryz.prog w = .ok (.value (.agg #[.int .i64 0, .string ⟨#[]⟩, .pointer none, .int .i64 8])) w := by
  simp [go_sem, hx]
theorem x_eqT (hx : ρ x = .agg #[.int .i64 0, .string ⟨#[]⟩, .pointer none, .int .i64 8]) (hy : ρ y = .agg #[.int .i64 0, .string ⟨#[]⟩, .pointer none, .int .i64 8]) (w : World) :
    (execOp ρ { dst := d, op := .binOp .eql 35 x y 35, type := t, pos := pos, after := af, guard := g }).run Tryz.prog w = .ok (.value (.bool true)) w := by
  simp [go_sem, hx, hy]
  rfl
end
def exC : ByteArray := ⟨#[99, 111, 112, 121, 32, 47, 97, 47]⟩
theorem exC_b : bytesN exC = [99, 111, 112, 121, 32, 47, 97, 47] := by decide +kernel
theorem exC_1 : tokF exC 0 = .inr (⟨1, ⟨#[99, 111, 112, 121]⟩, none, 0⟩, 4) := by
  unfold tokF
  rw [exC_b]
  show tokB exC 0 99 = _
  unfold tokB
  rw [if_pos (by decide), exC_b, if_neg (by decide)]
  rfl
theorem exC_2 : tokF exC 4 = .inr (⟨4, ⟨#[]⟩, some (rOne (setOf [97])), 5⟩, 8) := by
  unfold tokF
  rw [exC_b]
  show tokB exC 5 47 = _
  have e : bytesN (exC.extract (5 + 1) (5 + 1 + reN (([99, 111, 112, 121, 32, 47, 97, 47] : List Nat).drop (5 + 1)))) = byteW 97 := by decide +kernel
  unfold tokB
  rw [exC_b, e, if_neg (by decide), if_neg (by decide), if_neg (by decide), if_pos rfl, if_neg (by decide), if_pos (rd_byte (a := 97) (by omega)).2, (rd_byte (a := 97) (by omega)).1]
  rfl
theorem exC_3 : tokF exC 8 = .inr (⟨0, ⟨#[]⟩, none, 8⟩, 8) := by
  unfold tokF
  rw [exC_b]
  rfl
theorem lexF_tok {s : ByteArray} {f a b : Nat} {t : LTok} (h : tokF s a = .inr (t, b)) (hk : t.kind ≠ 0) : lexF s (f + 1) a = goOn [t] (lexF s f b) := by
  rw [lexF, h]
  simp only [hk, if_false]
  cases lexF s f b <;> rfl
theorem lexF_end {s : ByteArray} {f a b : Nat} {t : LTok} (h : tokF s a = .inr (t, b)) (hk : t.kind = 0) : lexF s (f + 1) a = .inr [t] := by
  rw [lexF, h]
  simp only [hk, if_true]
theorem exC_T : lexT exC = .inr [⟨1, ⟨#[99, 111, 112, 121]⟩, none, 0⟩, ⟨4, ⟨#[]⟩, some (rOne (setOf [97])), 5⟩, ⟨0, ⟨#[]⟩, none, 8⟩] := by
  show lexF exC 9 0 = _
  rw [lexF_tok exC_1 (by decide), lexF_tok exC_2 (by decide), lexF_end exC_3 rfl]
  rfl
theorem three {α : Type} {l : List α} (h : l.length = 3) : ∃ a b c, l = [a, b, c] := by
  match l, h with
  | [a, b, c], _ => exact ⟨a, b, c, rfl⟩
theorem rWord_a : rWord [97] = rOne (setOf [97]) := then_one1 (set1_ne 97 (by omega)).1
set_option maxHeartbeats 4000000 in
theorem head11_any (w : World) (hT : TabAt w) :
    Calls Tryz.prog 7 #[] w fun e w' => e = .returned (.bool true) ∧ Below w.heap.size w w' := by
  have HALL := hide (lexAll_any exC w (by decide) hT)
  have HT := hide hT
  clear hT
  go_enter Tryz.func7, Tryz.ntmps7
  unfold exC at HALL
  go_wp2_with fail
  refine HALL.out.mono ?_
  rintro e w1 ⟨-, hO, hB1⟩
  obtain ⟨V, l, rfl, hm, hO1, hP1⟩ := hO _ exC_T
  have HB1 := hide hB1
  have HT1 : Hid (TabAt w1) := HT.out.agree (Agree.of_all (K := fun _ => True) hB1) trivial
  obtain ⟨q0, q1, q2, rfl⟩ := three (by have := congrArg List.length hm; simpa using this)
  simp only [List.map_cons, List.map_nil, List.cons.injEq, and_true] at hm
  obtain ⟨h0, h1, h2⟩ := hm
  obtain ⟨t0, v0⟩ := q0
  obtain ⟨t1, v1⟩ := q1
  obtain ⟨t2, v2⟩ := q2
  simp only at h0 h1 h2
  subst h0 h1 h2
  obtain ⟨q, e1, hq⟩ := hP1 (⟨4, ⟨#[]⟩, some (rOne (setOf [97])), 5⟩, v1) (by simp)
  have e2 : v2 = .pointer none := hP1 (⟨0, ⟨#[]⟩, none, 8⟩, v2) (by simp)
  subst e1 e2
  obtain ⟨g, cap, rfl, hg1, hg2, -, hcell⟩ := hO1.cell (by simp)
  have HC := hide hcell
  have HQ := hide hq
  clear hO hP1 hO1 hcell hq hB1 HALL
  have hWD0 : ∀ W, FL W.heap.size → Calls Tryz.prog 14 #[.string ⟨#[97]⟩] W fun e w' => ∃ b, e = .returned (PT b) ∧ ReAt w' b (rOne (setOf [97])) ∧ Below W.heap.size W w' := fun W hW => by
    have h := word_any ⟨#[97]⟩ W (by decide) hW
    rw [show bytesN ⟨#[97]⟩ = [97] from rfl, rWord_a] at h
    exact h
  have HWD := hide hWD0
  clear hWD0
  go_wp2
  have hS : Below w1.heap.size w1 { w1 with drawn := w1.drawn + 1 } := ⟨rfl, rfl, rfl, Nat.le_refl _, fun _ _ => rfl⟩
  have y1 : ∀ W, Below w1.heap.size w1 W → W.cell? ⟨g, 1, none⟩ = some (.string ⟨#[99, 111, 112, 121]⟩) := fun W hW => by
    rw [World.cell?_of_block (w := w1) (hW.block g hg2)]; exact HC.out 0 _ rfl 1 (by omega)
  have y4 : ∀ W, Below w1.heap.size w1 W → W.cell? ⟨g, 4, none⟩ = some (.int .i64 4) := fun W hW => by
    rw [World.cell?_of_block (w := w1) (hW.block g hg2)]; exact HC.out 1 _ rfl 0 (by omega)
  have y6 : ∀ W, Below w1.heap.size w1 W → W.cell? ⟨g, 6, none⟩ = some (PT q) := fun W hW => by
    rw [World.cell?_of_block (w := w1) (hW.block g hg2)]; exact HC.out 1 _ rfl 2 (by omega)
  have y8 : ∀ W, Below w1.heap.size w1 W → W.cell? ⟨g, 8, none⟩ = some (.int .i64 0) ∧ W.cell? ⟨g, 8 + 1, none⟩ = some (.string ⟨#[]⟩) ∧ W.cell? ⟨g, 8 + 2, none⟩ = some (.pointer none) ∧ W.cell? ⟨g, 8 + 3, none⟩ = some (.int .i64 8) := fun W hW => by
    refine ⟨?_, ?_, ?_, ?_⟩ <;> rw [World.cell?_of_block (w := w1) (hW.block g hg2)]
    · exact HC.out 2 _ rfl 0 (by omega)
    · exact HC.out 2 _ rfl 1 (by omega)
    · exact HC.out 2 _ rfl 2 (by omega)
    · exact HC.out 2 _ rfl 3 (by omega)
  refine wp_region_noPanic (wp_region_held (S := fun W => Below w1.heap.size w1 W) (by kernel_rfl) ?_)
  show wpAnyH _ _ _ _ _ 37 #[false, false, false, false, false, false, false, false, false, false, false, false, false, false, false, false, false, false, false, false, false, false, false, false, false, false, false, false, false, false, false, false, false, false, false, false, false] _ _
  generalize ({ w1 with drawn := w1.drawn + 1 } : World) = W at hS ⊢
  refine h_take 0 (.int .i64 0) rfl (by kernel_rfl) (by kernel_rfl) (by kernel_rfl) rfl (fun w hw => x_move _ _ _ _ _ _ _ _ rfl w) hS ?_
  simp only [Act.put, List.setIfInBounds_toArray, List.set_cons_succ, List.set_cons_zero]
  refine h_take 1 (.bool true) rfl (by kernel_rfl) (by kernel_rfl) (by kernel_rfl) rfl (fun w hw => x_eqErr _ _ _ _ _ _ _ _ rfl rfl w) hS ?_
  simp only [Act.put, List.setIfInBounds_toArray, List.set_cons_succ, List.set_cons_zero]
  refine h_take 2 (.bool true) rfl (by kernel_rfl) (by kernel_rfl) (by kernel_rfl) rfl (fun w hw => x_move _ _ _ _ _ _ _ _ rfl w) hS ?_
  simp only [Act.put, List.setIfInBounds_toArray, List.set_cons_succ, List.set_cons_zero]
  refine h_take 3 (.slice (some ⟨g, 0, none⟩) 3 cap) rfl (by kernel_rfl) (by kernel_rfl) (by kernel_rfl) rfl (fun w hw => x_move _ _ _ _ _ _ _ _ rfl w) hS ?_
  simp only [Act.put, List.setIfInBounds_toArray, List.set_cons_succ, List.set_cons_zero]
  refine h_take 4 (.int .i64 3) rfl (by kernel_rfl) (by kernel_rfl) (by kernel_rfl) rfl (fun w hw => x_lenT _ _ _ _ _ _ _ _ _ _ rfl w) hS ?_
  simp only [Act.put, List.setIfInBounds_toArray, List.set_cons_succ, List.set_cons_zero]
  refine h_take 5 (.bool true) rfl (by kernel_rfl) (by kernel_rfl) (by kernel_rfl) rfl (fun w hw => x_eq33 _ _ _ _ _ _ _ _ rfl rfl w) hS ?_
  simp only [Act.put, List.setIfInBounds_toArray, List.set_cons_succ, List.set_cons_zero]
  refine h_take 6 (.bool true) rfl (by kernel_rfl) (by kernel_rfl) (by kernel_rfl) rfl (fun w hw => x_pick _ _ _ _ _ _ _ _ _ true (.bool true) (.bool false) rfl rfl rfl w) hS ?_
  simp only [Act.put, List.setIfInBounds_toArray, List.set_cons_succ, List.set_cons_zero]
  refine h_take 7 (.bool true) rfl (by kernel_rfl) (by kernel_rfl) (by kernel_rfl) rfl (fun w hw => x_move _ _ _ _ _ _ _ _ rfl w) hS ?_
  simp only [Act.put, List.setIfInBounds_toArray, List.set_cons_succ, List.set_cons_zero]
  refine h_take 8 (.slice (some ⟨g, 0, none⟩) 3 cap) rfl (by kernel_rfl) (by kernel_rfl) (by kernel_rfl) rfl (fun w hw => x_move _ _ _ _ _ _ _ _ rfl w) hS ?_
  simp only [Act.put, List.setIfInBounds_toArray, List.set_cons_succ, List.set_cons_zero]
  refine h_take 9 (.pointer (some ⟨g, 0, none⟩)) rfl (by kernel_rfl) (by kernel_rfl) (by kernel_rfl) rfl (fun w hw => x_idxT _ _ _ _ _ _ _ _ g 3 cap 0 rfl rfl (by decide) w) hS ?_
  simp only [Act.put, List.setIfInBounds_toArray, List.set_cons_succ, List.set_cons_zero]
  refine h_take 10 (.pointer (some ⟨g, 1, none⟩)) rfl (by kernel_rfl) (by kernel_rfl) (by kernel_rfl) rfl (fun w hw => x_fldT1 _ _ _ _ _ _ _ g 0 rfl w) hS ?_
  simp only [Act.put, List.setIfInBounds_toArray, List.set_cons_succ, List.set_cons_zero]
  refine h_take 11 (.string ⟨#[99, 111, 112, 121]⟩) rfl (by kernel_rfl) (by kernel_rfl) (by kernel_rfl) rfl (fun w hw => x_ldS2 _ _ _ _ _ _ _ g 1 _ rfl w (y1 w hw)) hS ?_
  simp only [Act.put, List.setIfInBounds_toArray, List.set_cons_succ, List.set_cons_zero]
  refine h_take 12 (.bool true) rfl (by kernel_rfl) (by kernel_rfl) (by kernel_rfl) rfl (fun w hw => x_eqCopy _ _ _ _ _ _ _ _ rfl rfl w) hS ?_
  simp only [Act.put, List.setIfInBounds_toArray, List.set_cons_succ, List.set_cons_zero]
  refine h_take 13 (.bool true) rfl (by kernel_rfl) (by kernel_rfl) (by kernel_rfl) rfl (fun w hw => x_pick _ _ _ _ _ _ _ _ _ true (.bool true) (.bool false) rfl rfl rfl w) hS ?_
  simp only [Act.put, List.setIfInBounds_toArray, List.set_cons_succ, List.set_cons_zero]
  refine h_take 14 (.bool true) rfl (by kernel_rfl) (by kernel_rfl) (by kernel_rfl) rfl (fun w hw => x_move _ _ _ _ _ _ _ _ rfl w) hS ?_
  simp only [Act.put, List.setIfInBounds_toArray, List.set_cons_succ, List.set_cons_zero]
  refine h_take 15 (.slice (some ⟨g, 0, none⟩) 3 cap) rfl (by kernel_rfl) (by kernel_rfl) (by kernel_rfl) rfl (fun w hw => x_move _ _ _ _ _ _ _ _ rfl w) hS ?_
  simp only [Act.put, List.setIfInBounds_toArray, List.set_cons_succ, List.set_cons_zero]
  refine h_take 16 (.pointer (some ⟨g, 4, none⟩)) rfl (by kernel_rfl) (by kernel_rfl) (by kernel_rfl) rfl (fun w hw => x_idxT _ _ _ _ _ _ _ _ g 3 cap 1 rfl rfl (by decide) w) hS ?_
  simp only [Act.put, List.setIfInBounds_toArray, List.set_cons_succ, List.set_cons_zero]
  refine h_take 17 (.pointer (some ⟨g, 4, none⟩)) rfl (by kernel_rfl) (by kernel_rfl) (by kernel_rfl) rfl (fun w hw => x_fldT0 _ _ _ _ _ _ _ g 4 rfl w) hS ?_
  simp only [Act.put, List.setIfInBounds_toArray, List.set_cons_succ, List.set_cons_zero]
  refine h_take 18 (.int .i64 4) rfl (by kernel_rfl) (by kernel_rfl) (by kernel_rfl) rfl (fun w hw => x_ldK _ _ _ _ _ _ _ g 4 _ rfl w (y4 w hw)) hS ?_
  simp only [Act.put, List.setIfInBounds_toArray, List.set_cons_succ, List.set_cons_zero]
  refine h_take 19 (.bool true) rfl (by kernel_rfl) (by kernel_rfl) (by kernel_rfl) rfl (fun w hw => x_eqK4 _ _ _ _ _ _ _ _ rfl rfl w) hS ?_
  simp only [Act.put, List.setIfInBounds_toArray, List.set_cons_succ, List.set_cons_zero]
  refine h_take 20 (.bool true) rfl (by kernel_rfl) (by kernel_rfl) (by kernel_rfl) rfl (fun w hw => x_pick _ _ _ _ _ _ _ _ _ true (.bool true) (.bool false) rfl rfl rfl w) hS ?_
  simp only [Act.put, List.setIfInBounds_toArray, List.set_cons_succ, List.set_cons_zero]
  refine h_take 21 (.bool true) rfl (by kernel_rfl) (by kernel_rfl) (by kernel_rfl) rfl (fun w hw => x_move _ _ _ _ _ _ _ _ rfl w) hS ?_
  simp only [Act.put, List.setIfInBounds_toArray, List.set_cons_succ, List.set_cons_zero]
  refine h_take 22 (.slice (some ⟨g, 0, none⟩) 3 cap) rfl (by kernel_rfl) (by kernel_rfl) (by kernel_rfl) rfl (fun w hw => x_move _ _ _ _ _ _ _ _ rfl w) hS ?_
  simp only [Act.put, List.setIfInBounds_toArray, List.set_cons_succ, List.set_cons_zero]
  refine h_take 23 (.pointer (some ⟨g, 4, none⟩)) rfl (by kernel_rfl) (by kernel_rfl) (by kernel_rfl) rfl (fun w hw => x_idxT _ _ _ _ _ _ _ _ g 3 cap 1 rfl rfl (by decide) w) hS ?_
  simp only [Act.put, List.setIfInBounds_toArray, List.set_cons_succ, List.set_cons_zero]
  refine h_take 24 (.pointer (some ⟨g, 6, none⟩)) rfl (by kernel_rfl) (by kernel_rfl) (by kernel_rfl) rfl (fun w hw => x_fldT2 _ _ _ _ _ _ _ g 4 rfl w) hS ?_
  simp only [Act.put, List.setIfInBounds_toArray, List.set_cons_succ, List.set_cons_zero]
  refine h_take 25 (PT q) rfl (by kernel_rfl) (by kernel_rfl) (by kernel_rfl) rfl (fun w hw => x_ldP _ _ _ _ _ _ _ g 6 _ rfl w (y6 w hw)) hS ?_
  simp only [Act.put, List.setIfInBounds_toArray, List.set_cons_succ, List.set_cons_zero]
  refine h_callE 26 14 #[.string ⟨#[97]⟩] (fun v w' => ∃ b, v = PT b ∧ ReAt w' b (rOne (setOf [97])) ∧ Below W.heap.size W w') rfl (by kernel_rfl) rfl (x_call1 _ _ _ _ _ _ _ _ _ _ rfl rfl (enters_of Tryz.func14 (by kernel_rfl) rfl) _) ((HWD.out W (FL.none _)).mono fun e w' ⟨b, h1, h2, h3⟩ => ⟨_, h1, b, rfl, h2, h3⟩) (fun v w' ⟨b, _, _, h⟩ => hS.trans (h.mono hS.size)) ?_
  rintro v W2 ⟨b, rfl, hq2, hB2⟩
  simp only [Act.put, List.setIfInBounds_toArray, List.set_cons_succ, List.set_cons_zero]
  have hS2 : Below w1.heap.size w1 W2 := hS.trans (hB2.mono hS.size)
  have hqk : WfK (rOne (setOf [97])) := (wf_one _).k
  have hSM := same_re (rOne (setOf [97])) (rOne (setOf [97])) q b W2 hqk hqk (HQ.out.keep hS2) hq2 (HT1.out.agree (Agree.of_all (K := fun _ => True) hS2) trivial)
  rw [lexN_self] at hSM
  refine h_callE 27 11 #[PT q, PT b] (fun v w' => v = .bool true ∧ Below w1.heap.size w1 w') rfl (by kernel_rfl) rfl (x_call2 _ _ _ _ _ _ _ _ _ _ _ _ _ rfl rfl rfl (enters_of Tryz.func11 (by kernel_rfl) rfl) _) (hSM.mono fun e w' h => ⟨_, h.1, rfl, hS2.trans (h.2.below.mono hS2.size)⟩) (fun v w' h => h.2) ?_
  rintro v W3 ⟨rfl, hS3⟩
  simp only [Act.put, List.setIfInBounds_toArray, List.set_cons_succ, List.set_cons_zero]
  refine h_take 28 (.bool true) rfl (by kernel_rfl) (by kernel_rfl) (by kernel_rfl) rfl (fun w hw => x_pick _ _ _ _ _ _ _ _ _ true (.bool true) (.bool false) rfl rfl rfl w) hS3 ?_
  simp only [Act.put, List.setIfInBounds_toArray, List.set_cons_succ, List.set_cons_zero]
  refine h_take 29 (.bool true) rfl (by kernel_rfl) (by kernel_rfl) (by kernel_rfl) rfl (fun w hw => x_move _ _ _ _ _ _ _ _ rfl w) hS3 ?_
  simp only [Act.put, List.setIfInBounds_toArray, List.set_cons_succ, List.set_cons_zero]
  refine h_take 30 (.slice (some ⟨g, 0, none⟩) 3 cap) rfl (by kernel_rfl) (by kernel_rfl) (by kernel_rfl) rfl (fun w hw => x_move _ _ _ _ _ _ _ _ rfl w) hS3 ?_
  simp only [Act.put, List.setIfInBounds_toArray, List.set_cons_succ, List.set_cons_zero]
  refine h_take 31 (.pointer (some ⟨g, 8, none⟩)) rfl (by kernel_rfl) (by kernel_rfl) (by kernel_rfl) rfl (fun w hw => x_idxT _ _ _ _ _ _ _ _ g 3 cap 2 rfl rfl (by decide) w) hS3 ?_
  simp only [Act.put, List.setIfInBounds_toArray, List.set_cons_succ, List.set_cons_zero]
  refine h_take 32 (.agg #[.int .i64 0, .string ⟨#[]⟩, .pointer none, .int .i64 8]) rfl (by kernel_rfl) (by kernel_rfl) (by kernel_rfl) rfl (fun w hw => x_ldT _ _ _ _ _ _ _ g 8 rfl w (y8 w hw)) hS3 ?_
  simp only [Act.put, List.setIfInBounds_toArray, List.set_cons_succ, List.set_cons_zero]
  refine h_take 33 (.agg #[.int .i64 0, .string ⟨#[]⟩, .pointer none, .int .i64 8]) rfl (by kernel_rfl) (by kernel_rfl) (by kernel_rfl) rfl (fun w hw => x_bldT _ _ _ _ _ _ _ rfl w) hS3 ?_
  simp only [Act.put, List.setIfInBounds_toArray, List.set_cons_succ, List.set_cons_zero]
  refine h_take 34 (.bool true) rfl (by kernel_rfl) (by kernel_rfl) (by kernel_rfl) rfl (fun w hw => x_eqT _ _ _ _ _ _ _ _ rfl rfl w) hS3 ?_
  simp only [Act.put, List.setIfInBounds_toArray, List.set_cons_succ, List.set_cons_zero]
  refine h_take 35 (.bool true) rfl (by kernel_rfl) (by kernel_rfl) (by kernel_rfl) rfl (fun w hw => x_pick _ _ _ _ _ _ _ _ _ true (.bool true) (.bool false) rfl rfl rfl w) hS3 ?_
  simp only [Act.put, List.setIfInBounds_toArray, List.set_cons_succ, List.set_cons_zero]
  refine h_take 36 (.bool true) rfl (by kernel_rfl) (by kernel_rfl) (by kernel_rfl) rfl (fun w hw => x_assign _ _ _ _ _ _ _ _ rfl w) hS3 ?_
  simp only [Act.put, List.setIfInBounds_toArray, List.set_cons_succ, List.set_cons_zero]
  refine wpAnyH_done (by kernel_rfl) ?_ _
  refine NoPanic.normal ?_
  have HB3 := hide (HB1.out.trans (hS3.mono HB1.out.size))
  clear hS hS2 hS3 hq2 hB2 hSM y1 y4 y6 y8
  go_wp2
  go_ret
  exact ⟨rfl, HB3.out⟩
end Go.Proofs.YtjlgepahgmkamaaGreatDoor
