/- Texts of this claim put together: ShF, ReP, TxA, TxB, TxC, TxD, TxE, OpenS, SomeInts. -/
import Derived.Test.YthlannjipbohkaaGreatDoorJoinShE
import Derived.Test.YthlannjipbohkaaGreatDoorJoinReO
import Derived.Test.YthlannjipbohkaaGreatDoorJoinMathDfa4
import Derived.Test.YthlannjipbohkaaGreatDoorJoinShD
/- The document's example, as the statements of layer 3 ask it first. -/
namespace Go.Proofs.YthlannjipbohkaaGreatDoor
set_option maxRecDepth 100000
set_option linter.unusedSimpArgs false
set_option linter.unusedVariables false
open Go.RowKit

theorem x_neqNil (ρ : Operand → Value) (d : Option Tmp) (x : Operand) (t : TypeId) (pos : String) (af : Array Edge) (g : Option (Nat × Bool)) (b : Nat) (hx : ρ x = PT b) (hy : ρ (.const (.pointer none)) = .pointer none) (w : World) :
    (execOp ρ { dst := d, op := .binOp .neq 32 x (.const (.pointer none)) 32, type := t, pos := pos, after := af, guard := g }).run Tryz.prog w = .ok (.value (.bool true)) w := by
  simp [go_sem, hx, hy, PT]
theorem x_eqOpC (ρ : Operand → Value) (d : Option Tmp) (x : Operand) (n : Int) (t : TypeId) (pos : String) (af : Array Edge) (g : Option (Nat × Bool)) (u : Int) (c : Bool) (hc : (u == n) = c) (hx : ρ x = .int .i64 u) (hy : ρ (.const (.int .i64 n)) = .int .i64 n) (w : World) :
    (execOp ρ { dst := d, op := .binOp .eql 84 x (.const (.int .i64 n)) 84, type := t, pos := pos, after := af, guard := g }).run Tryz.prog w = .ok (.value (.bool c)) w := by
  rw [← hc]
  simp [go_sem, hx, hy]
theorem x_build97 (ρ : Operand → Value) (d : Option Tmp) (t : TypeId) (pos : String) (af : Array Edge) (g : Option (Nat × Bool)) (hx : ρ (.const (.int .u8 97)) = .int .u8 97) (hy : ρ (.const (.int .u8 98)) = .int .u8 98) (w : World) :
    (execOp ρ { dst := d, op := .buildSlice 77 2 #[(0, .const (.int .u8 97)), (1, .const (.int .u8 98))], type := t, pos := pos, after := af, guard := g }).run Tryz.prog w = .ok (.value (.slice (some ⟨w.heap.size, 0, none⟩) 2 2)) (w.alloc (.cells #[.int .u8 97, .int .u8 98] 5)) := by
  simp [go_sem, hx, hy]
theorem x_buildP2 (ρ : Operand → Value) (d : Option Tmp) (x y : Operand) (t : TypeId) (pos : String) (af : Array Edge) (g : Option (Nat × Bool)) (a b : Nat) (hx : ρ x = PT a) (hy : ρ y = PT b) (w : World) :
    (execOp ρ { dst := d, op := .buildSlice 60 2 #[(0, x), (1, y)], type := t, pos := pos, after := af, guard := g }).run Tryz.prog w = .ok (.value (.slice (some ⟨w.heap.size, 0, none⟩) 2 2)) (w.alloc (.cells #[PT a, PT b] 32)) := by
  simp [go_sem, hx, hy, PT]
theorem x_neqStr (ρ : Operand → Value) (d : Option Tmp) (x y : Operand) (t : TypeId) (pos : String) (af : Array Edge) (g : Option (Nat × Bool)) (u v : ByteArray) (hne : u ≠ v) (hx : ρ x = .string u) (hy : ρ y = .string v) (w : World) :
    (execOp ρ { dst := d, op := .binOp .neq 9 x y 9, type := t, pos := pos, after := af, guard := g }).run Tryz.prog w = .ok (.value (.bool true)) w := by
  have hb : ¬ u.toList = v.toList := fun e => hne (Go.WideShapes.bytes_inj (by rw [ByteArray.toList_eq, ByteArray.toList_eq] at e; exact e))
  simp [go_sem, hx, hy, hb]
theorem head3_x : rAny [rOne sA, rOne sB] = rOne sAB := by
  have h1 : (rOne sA).op = 2 := one_op _ (by decide +kernel)
  have h2 : (rOne sB).op = 2 := one_op _ (by decide +kernel)
  have e1 : (rOne sA).set = sA := by unfold rOne; rw [if_neg (by decide +kernel)]; rfl
  have e2 : (rOne sB).set = sB := by unfold rOne; rw [if_neg (by decide +kernel)]; rfl
  have hf : flatL 4 [rOne sA, rOne sB] = [rOne sA, rOne sB] := by simp [flatL, h1, h2]
  have hk : orKeep [rOne sA, rOne sB] = [] := by simp [orKeep, h1, h2]
  have hs : orSet [rOne sA, rOne sB] = sAB := by
    simp only [orSet, List.foldl_cons, List.foldl_nil, h1, h2, e1, e2, if_true]
    decide +kernel
  unfold rAny
  simp only [hf, hk, hs]
  have hz : ¬ sAB = 0#256 := by decide +kernel
  simp only [hz, if_false, List.nil_append]
  rw [if_neg (by simp)]
  rfl
theorem head3_t : rThen [rEmpty, rOne sA] = rOne sA := by
  have h1 : (rOne sA).op = 2 := one_op _ (by decide +kernel)
  have h0 : rEmpty.op = 1 := rfl
  have hc : catL [rEmpty, rOne sA] = [rOne sA] := by simp [catL, catK, h1, h0]
  unfold rThen
  rw [if_neg (by simp [h1, h0]), hc, if_neg (by simp)]
  rfl
theorem head3_c : (catL [rEmpty, rOne sA]).length ≤ 2 := by
  have h1 := cntL_catL [rEmpty, rOne sA]
  have h2 := cntL_len (catL [rEmpty, rOne sA])
  have h3 : cntL [rEmpty, rOne sA] = 2 := by simp [cntL, cnt_empty, cnt_one]
  omega
theorem head3_ne : rOne sA ≠ rOne sAB := fun e => by
  have e1 : (rOne sA).set = sA := by unfold rOne; rw [if_neg (by decide +kernel)]; rfl
  have e2 : (rOne sAB).set = sAB := by unfold rOne; rw [if_neg (by decide +kernel)]; rfl
  rw [e, e2] at e1
  exact absurd e1 (by decide +kernel)
theorem key_one_len (s : BitVec 256) : (rOne s).key.length ≤ 1000 := by
  rw [(rOne s).eta, RE.key_mk, rOne_kids]
  have := runs_le (rOne s).set
  have h2 := rnB_length (runsOf (rOne s).set)
  split
  · simp [keysL]; omega
  · simp [keysL]
theorem ofRow1 {w : World} {c : Nat} {g : Nat} (hg : Blk w g #[.int .u8 c] 5) : ∀ k, k < [c].length → ∃ b off, (some ⟨g, 0, none⟩ : Option Addr) = some ⟨b, off, none⟩ ∧ b < w.heap.size ∧ w.cell? ⟨b, off + k, none⟩ = some (.int .u8 (([c] : List Nat).getD k 0)) := fun k hk => by
  obtain rfl : k = 0 := by simp at hk; omega
  exact ⟨_, _, rfl, hg.lt, hg.cell 0⟩
theorem ofRow2 {w : World} {c d : Nat} {g : Nat} (hg : Blk w g #[.int .u8 c, .int .u8 d] 5) : ∀ k, k < [c, d].length → ∃ b off, (some ⟨g, 0, none⟩ : Option Addr) = some ⟨b, off, none⟩ ∧ b < w.heap.size ∧ w.cell? ⟨b, off + k, none⟩ = some (.int .u8 (([c, d] : List Nat).getD k 0)) := fun k hk => by
  have hk2 : k = 0 ∨ k = 1 := by simp at hk; omega
  rcases hk2 with rfl | rfl
  · exact ⟨_, _, rfl, hg.lt, hg.cell 0⟩
  · exact ⟨_, _, rfl, hg.lt, hg.cell 1⟩

end Go.Proofs.YthlannjipbohkaaGreatDoor
/- alike: two expressions are one by their parts just where their keys are one; the calls at nil. -/
namespace Go.Proofs.YthlannjipbohkaaGreatDoor
set_option maxRecDepth 100000
set_option linter.unusedSimpArgs false
set_option linter.unusedVariables false
open Go.RowKit

theorem x_lenP (ρ : Operand → Value) (d : Option Tmp) (x : Operand) (t : TypeId) (pos : String) (af : Array Edge) (g : Option (Nat × Bool)) (a : Option Addr) (n cap : Nat) (hx : ρ x = .slice a n cap) (w : World) :
    (execOp ρ { dst := d, op := .call { callee := .builtin .len, args := #[x], argTypes := #[60] }, type := t, pos := pos, after := af, guard := g }).run Tryz.prog w = .ok (.value (.int .i64 n)) w := by
  simp [go_sem, hx]
theorem key_beq {a b : RE} (ha : WfK a) (hb : WfK b) : (a.key == b.key) = true ↔ a = b := by
  rw [beq_iff_eq]
  exact ⟨key_inj ha hb, fun h => by rw [h]⟩
theorem key_bne {a b : RE} (ha : WfK a) (hb : WfK b) (h : a ≠ b) : (a.key == b.key) = false := Bool.eq_false_iff.2 fun h' => h ((key_beq ha hb).1 h')

end Go.Proofs.YthlannjipbohkaaGreatDoor
/- Has and Cats: a text is one of an expression's, by its parts. -/
namespace Go.Proofs.YthlannjipbohkaaGreatDoor
set_option maxRecDepth 100000
set_option linter.unusedSimpArgs false
set_option linter.unusedVariables false
open Go.RowKit

theorem bytesN_length (t : ByteArray) : (bytesN t).length = t.size := by unfold bytesN; rw [List.length_map]; rfl
theorem bytesN_take (t : ByteArray) (i : Nat) : bytesN (t.extract 0 i) = (bytesN t).take i := by
  unfold bytesN
  rw [ByteArray.data_extract, Array.toList_extract, List.map_take]
  simp
theorem bytesN_drop (t : ByteArray) (i : Nat) : bytesN (t.extract i t.size) = (bytesN t).drop i := by
  unfold bytesN
  rw [ByteArray.data_extract, Array.toList_extract, ← List.map_drop]
  congr 1
  show (t.data.toList.drop i).take (t.size - i) = _
  exact List.take_of_length_le (by rw [List.length_drop, Array.length_toList]; exact Nat.le_refl _)
theorem size_take (t : ByteArray) (i : Nat) (h : i ≤ t.size) : (t.extract 0 i).size = i := by
  rw [← bytesN_length, bytesN_take, List.length_take, bytesN_length]; omega
theorem size_drop (t : ByteArray) (i : Nat) : (t.extract i t.size).size = t.size - i := by
  rw [← bytesN_length, bytesN_drop, List.length_drop, bytesN_length]
theorem nil_iff (t : ByteArray) : (t.toList == []) = decide (t.size = 0) := by
  rw [ByteArray.toList_eq]
  rw [← ByteArray.size_data]
  cases h : t.data.toList with
  | nil => simp [← Array.length_toList, h]
  | cons a l => simp [← Array.length_toList, h]
theorem x_strTo (ρ : Operand → Value) (d : Option Tmp) (x y : Operand) (ty : TypeId) (pos : String) (af : Array Edge) (g : Option (Nat × Bool)) (t : ByteArray) (i : Nat) (hx : ρ x = .string t) (hy : ρ y = .int .i64 i) (h1 : i ≤ t.size) (w : World) :
    (execOp ρ { dst := d, op := .slice 9 x none (some y) none, type := ty, pos := pos, after := af, guard := g }).run Tryz.prog w = .ok (.value (.string (t.extract 0 i))) w := by
  simp [go_sem, hx, hy, h1]
theorem x_strFrom (ρ : Operand → Value) (d : Option Tmp) (x y : Operand) (ty : TypeId) (pos : String) (af : Array Edge) (g : Option (Nat × Bool)) (t : ByteArray) (i : Nat) (hx : ρ x = .string t) (hy : ρ y = .int .i64 i) (h1 : i ≤ t.size) (w : World) :
    (execOp ρ { dst := d, op := .slice 9 x (some y) none none, type := ty, pos := pos, after := af, guard := g }).run Tryz.prog w = .ok (.value (.string (t.extract i t.size))) w := by
  simp [go_sem, hx, hy, h1]
theorem x_sliceOne (ρ : Operand → Value) (d : Option Tmp) (x : Operand) (ty : TypeId) (pos : String) (af : Array Edge) (g : Option (Nat × Bool)) (b off len cap off2 : Nat) (ho : off2 = if cap = 1 then off else off + 1) (hx : ρ x = .slice (some ⟨b, off, none⟩) (len + 1) cap) (hy : ρ (.const (.int .i64 1)) = .int .i64 1) (w : World) :
    (execOp ρ { dst := d, op := .slice 60 x (some (.const (.int .i64 1))) none none, type := ty, pos := pos, after := af, guard := g }).run Tryz.prog w =   .ok (.value (.slice (some ⟨b, off2, none⟩) len (cap - 1))) w := by
  rw [ho]
  have h1 : (1 : Int) ≤ (len : Int) + 1 := by omega
  simp [go_sem, hx, hy, h1]
  split <;> rfl

/-- Whether a text is one of them. -/
noncomputable def hB (l : Lg) (t : ByteArray) : Bool := @decide (l (bytesN t)) (Classical.propDecidable _)
theorem hB_iff (l : Lg) (t : ByteArray) : hB l t = true ↔ l (bytesN t) := by unfold hB; exact @decide_eq_true_iff _ (Classical.propDecidable _)
theorem hB_true {l : Lg} {t : ByteArray} (h : l (bytesN t)) : hB l t = true := (hB_iff l t).2 h
theorem hB_false {l : Lg} {t : ByteArray} (h : ¬ l (bytesN t)) : hB l t = false := Bool.eq_false_iff.2 fun h' => h ((hB_iff l t).1 h')

theorem emp_iff (t : ByteArray) : t = ByteArray.empty ↔ bytesN t = [] := by
  constructor
  · rintro rfl; rfl
  · intro h
    have h1 : t.data.toList = [] := by unfold bytesN at h; simpa using h
    cases t with
    | mk d => 
      have : d = #[] := by simpa using h1
      subst this; rfl
theorem hB_nil (t : ByteArray) : hB (fun s => s = []) t = t.toList.isEmpty := by
  have e : t.toList = t.data.toList := ByteArray.toList_eq t
  by_cases h : bytesN t = []
  · rw [hB_true h, e]
    have h1 : t.data.toList = [] := by unfold bytesN at h; simpa using h
    rw [h1]; rfl
  · rw [hB_false h, e]
    cases h1 : t.data.toList with
    | nil => exact absurd (show bytesN t = [] by unfold bytesN; rw [h1]; rfl) h
    | cons a l => rfl

/-- The row without its first. -/
theorem ResRow.tail {w : World} {g f c : Nat} {r : RE} {l : List RE} (h : ResRow w (.slice (some ⟨g, f, none⟩) (l.length + 1) c) (r :: l)) : ResRow w (.slice (some ⟨g, if c = 1 then f else f + 1, none⟩) l.length (c - 1)) l := by
  have hc : l.length + 1 ≤ c := h.cap _ _ _ rfl
  obtain ⟨bs, ⟨h0, a, cap, e, h1⟩, h2⟩ := h
  injection e with e1 e2 e3
  subst e1 e3
  refine ⟨fun i => bs (i + 1), ⟨⟨by have := h0.1; simp at this; omega, .of (by omega) (FL.none _) (fun _ _ _ h => h.elim)⟩, _, _, rfl, fun k hk => ?_⟩, fun i k hk => h2 (i + 1) k (by simpa using hk)⟩
  obtain ⟨b, off, e, h3, h4⟩ := h1 (k + 1) (by simp; omega)
  injection e with e; injection e with e5 e6
  subst e5 e6
  rw [if_neg (by omega)]
  exact ⟨g, f + 1, rfl, h3, by rw [← h4]; congr 2; omega⟩

end Go.Proofs.YthlannjipbohkaaGreatDoor
/- Has: a text is one of an expression's, by its parts. -/
namespace Go.Proofs.YthlannjipbohkaaGreatDoor
set_option maxRecDepth 100000
set_option linter.unusedSimpArgs false
set_option linter.unusedVariables false
open Go.RowKit

theorem x_lenS (ρ : Operand → Value) (d : Option Tmp) (x : Operand) (ty : TypeId) (pos : String) (af : Array Edge) (g : Option (Nat × Bool)) (t : ByteArray) (hx : ρ x = .string t) (w : World) :
    (execOp ρ { dst := d, op := .call { callee := .builtin .len, args := #[x], argTypes := #[9] }, type := ty, pos := pos, after := af, guard := g }).run Tryz.prog w = .ok (.value (.int .i64 t.size)) w := by
  simp [go_sem, hx]
theorem x_lenS1 (ρ : Operand → Value) (d : Option Tmp) (x : Operand) (ty : TypeId) (pos : String) (af : Array Edge) (g : Option (Nat × Bool)) (u : UInt8) (hx : ρ x = .string ⟨#[u]⟩) (w : World) :
    (execOp ρ { dst := d, op := .call { callee := .builtin .len, args := #[x], argTypes := #[9] }, type := ty, pos := pos, after := af, guard := g }).run Tryz.prog w = .ok (.value (.int .i64 1)) w :=
  x_lenS ρ d x ty pos af g ⟨#[u]⟩ hx w
theorem x_strIdx0 (ρ : Operand → Value) (d : Option Tmp) (x : Operand) (ty : TypeId) (pos : String) (af : Array Edge) (g : Option (Nat × Bool)) (u : UInt8) (hx : ρ x = .string ⟨#[u]⟩) (hy : ρ (.const (.int .i64 0)) = .int .i64 0) (w : World) :
    (execOp ρ { dst := d, op := .index 9 x (.const (.int .i64 0)), type := ty, pos := pos, after := af, guard := g }).run Tryz.prog w = .ok (.value (.int .u8 u.toNat)) w := by
  simp [go_sem, hx, hy]
  rfl

theorem hB_eq {l m : Lg} {t : ByteArray} (h : l (bytesN t) ↔ m (bytesN t)) : hB l t = hB m t := by
  by_cases h1 : m (bytesN t)
  · rw [hB_true h1, hB_true (h.2 h1)]
  · rw [hB_false h1, hB_false fun h2 => h1 (h.1 h2)]
/-- What is read of an expression in any later world. -/
theorem ReAt.see {w : World} {b o : Nat} {s : BitVec 256} {ks : List RE} (h : ReAt w b (.mk o s ks)) : ∃ a c, ResRow w (.slice a ks.length c) ks ∧ Hid (∀ W, Below w.heap.size w W → W.cell? ⟨b, 0, none⟩ = some (.int .i64 o) ∧ (∀ j, j < 4 → W.cell? ⟨b, 1 + j, none⟩ = some (.int .u64 (wd s j))) ∧ W.cell? ⟨b, 5, none⟩ = some (.slice a ks.length c)) := by
  obtain ⟨v, k1, row⟩ := h.row
  simp only [RE.op, RE.set, RE.kids] at k1 row
  obtain ⟨n1, a, c, rfl, -⟩ := row.at
  exact ⟨a, c, row, fun W hW => ⟨(h.keep hW).cell0, (h.keep hW).cellS, by rw [(k1.below hW k1.lt).cell]; rfl⟩⟩

theorem star_split (l : Lg) (u : List Nat) : starG l u ↔ u = [] ∨ ∃ j, 1 ≤ j ∧ j ≤ u.length ∧ l (u.take j) ∧ starG l (u.drop j) := by
  constructor
  · intro h
    cases h with
    | nil => exact .inl rfl
    | cons x y hx h1 h2 =>
      refine .inr ⟨x.length, ?_, by simp, by rw [List.take_left]; exact h1, by rw [List.drop_left]; exact h2⟩
      cases x with
      | nil => exact absurd rfl hx
      | cons => simp
  · rintro (rfl | ⟨j, h1, h2, h3, h4⟩)
    · exact .nil
    · rw [← List.take_append_drop j u]
      refine .cons _ _ (fun e => ?_) h3 h4
      have := congrArg List.length e
      rw [List.length_take, List.length_nil] at this
      omega
theorem lang_star1 (s : BitVec 256) (r : RE) (u : List Nat) : (RE.mk 5 s [r]).lang u ↔ starG r.lang u := by
  rw [lang5 rfl]
  constructor
  · rintro (rfl | ⟨l, e, h⟩)
    · exact .nil
    · have e : [r.lang] = [l] := e
      have : r.lang = l := by injection e
      rw [this]; exact h
  · intro h; exact .inr ⟨_, rfl, h⟩
end Go.Proofs.YthlannjipbohkaaGreatDoor
/- In and cat: a text is one of a shape's, by the page. -/
namespace Go.Proofs.YthlannjipbohkaaGreatDoor
set_option maxRecDepth 100000
set_option linter.unusedSimpArgs false
set_option linter.unusedVariables false
open Go.RowKit

theorem x_sliceOneSh (ρ : Operand → Value) (d : Option Tmp) (x : Operand) (ty : TypeId) (pos : String) (af : Array Edge) (g : Option (Nat × Bool)) (b off len cap off2 : Nat) (ho : off2 = if cap = 1 then off else off + 5) (hx : ρ x = .slice (some ⟨b, off, none⟩) (len + 1) cap) (hy : ρ (.const (.int .i64 1)) = .int .i64 1) (w : World) :
    (execOp ρ { dst := d, op := .slice 22 x (some (.const (.int .i64 1))) none none, type := ty, pos := pos, after := af, guard := g }).run Tryz.prog w =   .ok (.value (.slice (some ⟨b, off2, none⟩) len (cap - 1))) w := by
  rw [ho]
  have h1 : (1 : Int) ≤ (len : Int) + 1 := by omega
  have h5 := cells5
  simp [go_sem, hx, hy, h1]
  split <;> rfl
theorem x_idxSh0 (ρ : Operand → Value) (d : Option Tmp) (x : Operand) (t : TypeId) (pos : String) (af : Array Edge) (g : Option (Nat × Bool)) (b off len cap : Nat) (hx : ρ x = .slice (some ⟨b, off, none⟩) len cap) (hy : ρ (.const (.int .i64 0)) = .int .i64 0) (h1 : 0 < len) (w : World) :
    (execOp ρ { dst := d, op := .indexAddr 22 x (.const (.int .i64 0)), type := t, pos := pos, after := af, guard := g }).run Tryz.prog w = .ok (.value (.pointer (some ⟨b, off, none⟩))) w := by
  simp [go_sem, hx, hy, h1]
theorem x_loadSh (ρ : Operand → Value) (d : Option Tmp) (x : Operand) (t : TypeId) (pos : String) (af : Array Edge) (g : Option (Nat × Bool)) (b off : Nat) (cs : List Value) (hx : ρ x = .pointer (some ⟨b, off, none⟩)) (w : World) (hl : cs.length = 5) (hc : ∀ j u, cs[j]? = some u → w.cell? ⟨b, off + j, none⟩ = some u) :
    (execOp ρ { dst := d, op := .load 24 x, type := t, pos := pos, after := af, guard := g }).run Tryz.prog w = .ok (.value (ShVal cs)) w := by
  match cs, hl, hc with
  | [c0, c1, c2, c3, c4], _, hc =>
    have e0 := hc 0 c0 rfl
    have e1 := hc 1 c1 rfl
    have e2 := hc 2 c2 rfl
    have e3 := hc 3 c3 rfl
    have e4 := hc 4 c4 rfl
    rw [Nat.add_zero] at e0
    simp [go_sem, hx, e0, e1, e2, e3, e4, ShVal]
theorem x_loadSl (ρ : Operand → Value) (d : Option Tmp) (x : Operand) (t : TypeId) (pos : String) (af : Array Edge) (g : Option (Nat × Bool)) (b n : Nat) (v : Value) (hx : ρ x = .pointer (some ⟨b, n, none⟩)) (w : World) (hc : w.cell? ⟨b, n, none⟩ = some v) :
    (execOp ρ { dst := d, op := .load 22 x, type := t, pos := pos, after := af, guard := g }).run Tryz.prog w = .ok (.value v) w := by
  simp [go_sem, hx, hc]
theorem x_fieldS4 (ρ : Operand → Value) (d : Option Tmp) (x : Operand) (t : TypeId) (pos : String) (af : Array Edge) (g : Option (Nat × Bool)) (b : Nat) (hx : ρ x = PT b) (w : World) :
    (execOp ρ { dst := d, op := .fieldAddr 24 x 4, type := t, pos := pos, after := af, guard := g }).run Tryz.prog w = .ok (.value (.pointer (some ⟨b, 4, none⟩))) w := by
  simp [go_sem, hx, PT]

theorem ShC.len {w : World} {cs : List Value} {s : SHP} (h : ShC w cs s) : cs.length = 5 := by
  obtain ⟨v, rfl, -⟩ := h.open; rfl
/-- The row without its first; its first. -/
theorem ShsRow.uncons {w : World} {g f c : Nat} {s : SHP} {l : List SHP} (h : ShsRow w (.slice (some ⟨g, f, none⟩) (l.length + 1) c) (s :: l)) :
    (∃ cs, ShC w cs s ∧ g < w.heap.size ∧ ∀ j u, cs[j]? = some u → w.cell? ⟨g, f + j, none⟩ = some u) ∧ ShsRow w (.slice (some ⟨g, if c = 1 then f else f + 5, none⟩) l.length (c - 1)) l := by
  have hc : l.length + 1 ≤ c := h.cap _ _ _ rfl
  obtain ⟨cells, ⟨h0, a, cap, e, h1⟩, h2⟩ := h
  injection e with e1 e2 e3
  subst e1 e3
  refine ⟨?_, fun i => cells (i + 1), ⟨⟨by have := h0.1; simp at this; omega, .mk (by omega)⟩, _, _, rfl, fun k hk => ?_⟩, fun i k hk => h2 (i + 1) k (by simpa using hk)⟩
  · obtain ⟨h3, b, off, e, h4, h5⟩ := h1 0 (by simp)
    injection e with e; injection e with e5 e6
    subst e5 e6
    exact ⟨cells 0, h2 0 s rfl, h4, fun j u hu => by have := h5 j u hu; simpa using this⟩
  · obtain ⟨h3, b, off, e, h4, h5⟩ := h1 (k + 1) (by simp; omega)
    injection e with e; injection e with e5 e6
    subst e5 e6
    rw [if_neg (by omega)]
    exact ⟨h3, g, f + 5, rfl, h4, fun j u hu => by rw [← h5 j u hu]; congr 2; omega⟩
theorem ShsRow.first {w : World} {v : Value} {s : SHP} {l : List SHP} (h : ShsRow w v (s :: l)) : ∃ g f c, v = .slice (some ⟨g, f, none⟩) (l.length + 1) c := by
  obtain ⟨-, a, c, rfl, q⟩ := h.at
  obtain ⟨b, off, kv, rfl, -⟩ := q 0 (by simp)
  exact ⟨b, off, c, rfl⟩

abbrev InAt (s : SHP) (t : ByteArray) : Prop := ∀ (cs : List Value) (w : World), ShC w cs s → Calls Tryz.prog 14 #[ShVal cs, .string t] w fun e w' => e = .returned (.bool (hB s.lang t)) ∧ Below w.heap.size w w'

set_option maxHeartbeats 1000000 in
theorem catSh_any (l : List SHP) : ∀ (v : Value) (t : ByteArray) (w : World), t.size ≤ 1000 → ShsRow w v l → (∀ s ∈ l, ∀ t', t'.size ≤ t.size → InAt s t') →
    Calls Tryz.prog 36 #[v, .string t] w fun e w' => e = .returned (.bool (hB (catG (l.map SHP.lang)) t)) ∧ Below w.heap.size w w' := by
  induction l with
  | nil =>
    intro v t w ht hrow _
    obtain ⟨-, a, cap, rfl, -⟩ := hrow.at
    clear hrow
    have HR : Hid (hB (catG (([] : List SHP).map SHP.lang)) t = t.toList.isEmpty) := hB_nil t
    rw [HR.out]
    go_enter Tryz.func36, Tryz.ntmps36
    go_wp2
    go_ret
    exact ⟨rfl, Below.refl _ _⟩
  | cons s l ih =>
    intro v t w ht hrow hH
    obtain ⟨hn, -⟩ := hrow.at
    obtain ⟨g, f, c, rfl⟩ := hrow.first
    obtain ⟨⟨cs, hcs, hgl, hcell⟩, htail⟩ := hrow.uncons
    rw [List.length_cons] at hn
    have hlen := hcs.len
    have hq1 : ∀ W, Below w.heap.size w W → ∀ j u, cs[j]? = some u → W.cell? ⟨g, f + j, none⟩ = some u := fun W hW j u hu => (World.cell?_of_block (w := w) (hW.block _ hgl)).trans (hcell j u hu)
    have HQ1 := hide hq1
    have HLEN := hide hlen
    have HCS := hide hcs
    have HH := hide hH
    have HROW := hide htail
    have HIH := hide ih
    clear hq1 hcs hcell hgl hH hrow ih hlen htail
    have hln : ((l.length : Int) + 1 == 0) = false := beq_eq_false_iff_ne.2 (by omega)
    obtain ⟨f2, hf2⟩ : ∃ f2, f2 = if c = 1 then f else f + 5 := ⟨_, rfl⟩
    have HF2 := hide hf2
    rw [← hf2] at HROW
    clear hf2
    have HG : Hid (Grows fun W => Below w.heap.size w W) := fun W W' h1 h2 => h1.trans (h2.mono h1.size)
    obtain ⟨M, hM⟩ : ∃ M : Lg, M = catG (l.map SHP.lang) := ⟨_, rfl⟩
    have HM := hide hM
    rw [List.map_cons]
    have hcat : ∀ u, catG (s.lang :: l.map SHP.lang) u ↔ ∃ j, j ≤ u.length ∧ s.lang (u.take j) ∧ M (u.drop j) := by
      intro u
      rw [hM]
      constructor
      · rintro ⟨x, y, rfl, h1, h2⟩
        exact ⟨x.length, by simp, by rw [List.take_left]; exact h1, by rw [List.drop_left]; exact h2⟩
      · rintro ⟨j, -, h1, h2⟩
        exact ⟨u.take j, u.drop j, (List.take_append_drop j u).symm, h1, h2⟩
    have HC := hide hcat
    clear hcat hM
    go_enter Tryz.func36, Tryz.ntmps36
    go_wp2
    go_loopw [5] (fun i wr => ∃ k : Nat, k ≤ t.size + 1 ∧ i = .int .i64 k ∧ Hid (∀ j, j < k → ¬ (s.lang ((bytesN t).take j) ∧ M ((bytesN t).drop j))) ∧ Hid (Below w.heap.size w wr)) (fun i _ => t.size + 1 - (intOf i).toNat)
    case atStart => exact ⟨0, by omega, rfl, fun j hj => by omega, Below.refl _ _⟩
    case round =>
      obtain ⟨k, hk1, rfl, HN, HW⟩ := hrel
      by_cases hk : k ≤ t.size
      · have hkd : decide ((k : Int) ≤ t.size) = true := by simp; omega
        have hkd2 : decide (k ≤ t.size) = true := by simp [hk]
        obtain ⟨b1, hb1⟩ : ∃ b1, b1 = hB s.lang (t.extract 0 k) := ⟨_, rfl⟩
        have HQ2 : Hid (∀ W, Below w.heap.size w W → Calls Tryz.prog 14 #[ShVal cs, .string (t.extract 0 k)] W fun e w' => e = .returned (.bool b1) ∧ Below W.heap.size W w') := fun W hW => by
          rw [hb1]; exact HH.out s (by simp) _ (by rw [size_take _ _ hk]; exact hk) cs W (HCS.out.keep hW)
        go_wp2
        have hG := HG.out
        have hq1 := HQ1.out
        have hq2 := HQ2.out
        have hlen := HLEN.out
        cases b1
        · have HF : Hid (¬ s.lang ((bytesN t).take k)) := fun h => by rw [← bytesN_take] at h; rw [hB_true h] at hb1; cases hb1
          clear hb1
          refine w_lit (C := fun W => Below w.heap.size w W) (by kernel_rfl) (by kernel_rfl) (HW.out.trans ⟨rfl, rfl, rfl, Nat.le_refl _, fun _ _ => rfl⟩) ?_
          refine w_value (.slice (some ⟨g, f, none⟩) (l.length + 1) c) (by kernel_rfl) (fun w hw => x_move _ _ _ _ _ _ _ _ rfl w) ?_
          simp only [Act.put, List.setIfInBounds_toArray, List.set_cons_succ, List.set_cons_zero]
          refine w_value (.pointer (some ⟨g, f, none⟩)) (by kernel_rfl) (fun w hw => x_idxSh0 _ _ _ _ _ _ _ g f (l.length + 1) c rfl rfl (by omega) w) ?_
          simp only [Act.put, List.setIfInBounds_toArray, List.set_cons_succ, List.set_cons_zero]
          refine w_value (ShVal cs) (by kernel_rfl) (fun w hw => x_loadSh _ _ _ _ _ _ _ g f cs rfl w hlen (hq1 w hw)) ?_
          simp only [Act.put, List.setIfInBounds_toArray, List.set_cons_succ, List.set_cons_zero]
          refine w_value (.string t) (by kernel_rfl) (fun w hw => x_move _ _ _ _ _ _ _ _ rfl w) ?_
          simp only [Act.put, List.setIfInBounds_toArray, List.set_cons_succ, List.set_cons_zero]
          refine w_value (.int .i64 k) (by kernel_rfl) (fun w hw => x_move _ _ _ _ _ _ _ _ rfl w) ?_
          simp only [Act.put, List.setIfInBounds_toArray, List.set_cons_succ, List.set_cons_zero]
          refine w_value (.string (t.extract 0 k)) (by kernel_rfl) (fun w hw => x_strTo _ _ _ _ _ _ _ _ t k rfl rfl hk w) ?_
          simp only [Act.put, List.setIfInBounds_toArray, List.set_cons_succ, List.set_cons_zero]
          refine w_call hG 14 #[ShVal cs, .string (t.extract 0 k)] (.bool false) (by kernel_rfl) (fun w => x_call2 _ _ _ _ _ _ _ _ _ _ _ _ _ rfl rfl rfl (enters_of Tryz.func14 (by kernel_rfl) rfl) w) (fun w hw => hq2 w hw) ?_
          simp only [Act.put, List.setIfInBounds_toArray, List.set_cons_succ, List.set_cons_zero]
          refine w_value (.bool false) (by kernel_rfl) (fun w hw => x_move _ _ _ _ _ _ _ _ rfl w) ?_
          simp only [Act.put, List.setIfInBounds_toArray, List.set_cons_succ, List.set_cons_zero]
          refine w_skip (by kernel_rfl) ?_
          simp only [Act.put, List.setIfInBounds_toArray, List.set_cons_succ, List.set_cons_zero]
          refine w_skip (by kernel_rfl) ?_
          simp only [Act.put, List.setIfInBounds_toArray, List.set_cons_succ, List.set_cons_zero]
          refine w_skip (by kernel_rfl) ?_
          simp only [Act.put, List.setIfInBounds_toArray, List.set_cons_succ, List.set_cons_zero]
          refine w_skip (by kernel_rfl) ?_
          simp only [Act.put, List.setIfInBounds_toArray, List.set_cons_succ, List.set_cons_zero]
          refine w_skip (by kernel_rfl) ?_
          simp only [Act.put, List.setIfInBounds_toArray, List.set_cons_succ, List.set_cons_zero]
          refine w_skip (by kernel_rfl) ?_
          simp only [Act.put, List.setIfInBounds_toArray, List.set_cons_succ, List.set_cons_zero]
          refine w_value (.bool false) (by kernel_rfl) (fun w hw => x_pick _ _ _ _ _ _ _ _ _ false undef (.bool false) rfl rfl rfl w) ?_
          simp only [Act.put, List.setIfInBounds_toArray, List.set_cons_succ, List.set_cons_zero]
          refine w_nil ?_
          intro W hW
          have HWW := hide hW
          clear hW hG hq2 hq1 HQ2 hlen
          go_wp2
          refine ⟨⟨k + 1, by omega, by go_num, ?_, HWW⟩, by simp [intOf]; omega⟩
          intro j hj h
          by_cases hjk : j = k
          · subst hjk; exact HF.out h.1
          · exact HN.out j (by omega) h
        · have HTR : Hid (s.lang ((bytesN t).take k)) := by
            show s.lang _
            rw [← bytesN_take]; exact (hB_iff _ _).1 hb1.symm
          obtain ⟨b2, hb2⟩ : ∃ b2, b2 = hB M (t.extract k t.size) := ⟨_, rfl⟩
          have hq3 : ∀ W, Below w.heap.size w W → Calls Tryz.prog 36 #[.slice (some ⟨g, f2, none⟩) l.length (c - 1), .string (t.extract k t.size)] W fun e w' => e = .returned (.bool b2) ∧ Below W.heap.size W w' := fun W hW => by
            have hz := size_drop t k
            rw [hb2, HM.out]
            exact HIH.out _ _ W (by omega) (HROW.out.keep hW) fun x hx t' ht' => HH.out x (by simp [hx]) t' (by omega)
          cases b2
          · have HF : Hid (¬ M ((bytesN t).drop k)) := fun h => by rw [← bytesN_drop] at h; rw [hB_true h] at hb2; cases hb2
            clear hb1 hb2
            refine w_lit (C := fun W => Below w.heap.size w W) (by kernel_rfl) (by kernel_rfl) (HW.out.trans ⟨rfl, rfl, rfl, Nat.le_refl _, fun _ _ => rfl⟩) ?_
            refine w_value (.slice (some ⟨g, f, none⟩) (l.length + 1) c) (by kernel_rfl) (fun w hw => x_move _ _ _ _ _ _ _ _ rfl w) ?_
            simp only [Act.put, List.setIfInBounds_toArray, List.set_cons_succ, List.set_cons_zero]
            refine w_value (.pointer (some ⟨g, f, none⟩)) (by kernel_rfl) (fun w hw => x_idxSh0 _ _ _ _ _ _ _ g f (l.length + 1) c rfl rfl (by omega) w) ?_
            simp only [Act.put, List.setIfInBounds_toArray, List.set_cons_succ, List.set_cons_zero]
            refine w_value (ShVal cs) (by kernel_rfl) (fun w hw => x_loadSh _ _ _ _ _ _ _ g f cs rfl w hlen (hq1 w hw)) ?_
            simp only [Act.put, List.setIfInBounds_toArray, List.set_cons_succ, List.set_cons_zero]
            refine w_value (.string t) (by kernel_rfl) (fun w hw => x_move _ _ _ _ _ _ _ _ rfl w) ?_
            simp only [Act.put, List.setIfInBounds_toArray, List.set_cons_succ, List.set_cons_zero]
            refine w_value (.int .i64 k) (by kernel_rfl) (fun w hw => x_move _ _ _ _ _ _ _ _ rfl w) ?_
            simp only [Act.put, List.setIfInBounds_toArray, List.set_cons_succ, List.set_cons_zero]
            refine w_value (.string (t.extract 0 k)) (by kernel_rfl) (fun w hw => x_strTo _ _ _ _ _ _ _ _ t k rfl rfl hk w) ?_
            simp only [Act.put, List.setIfInBounds_toArray, List.set_cons_succ, List.set_cons_zero]
            refine w_call hG 14 #[ShVal cs, .string (t.extract 0 k)] (.bool true) (by kernel_rfl) (fun w => x_call2 _ _ _ _ _ _ _ _ _ _ _ _ _ rfl rfl rfl (enters_of Tryz.func14 (by kernel_rfl) rfl) w) (fun w hw => hq2 w hw) ?_
            simp only [Act.put, List.setIfInBounds_toArray, List.set_cons_succ, List.set_cons_zero]
            refine w_value (.bool true) (by kernel_rfl) (fun w hw => x_move _ _ _ _ _ _ _ _ rfl w) ?_
            simp only [Act.put, List.setIfInBounds_toArray, List.set_cons_succ, List.set_cons_zero]
            refine w_value (.slice (some ⟨g, f, none⟩) (l.length + 1) c) (by kernel_rfl) (fun w hw => x_move _ _ _ _ _ _ _ _ rfl w) ?_
            simp only [Act.put, List.setIfInBounds_toArray, List.set_cons_succ, List.set_cons_zero]
            refine w_value (.slice (some ⟨g, f2, none⟩) l.length (c - 1)) (by kernel_rfl) (fun w hw => x_sliceOneSh _ _ _ _ _ _ _ g f l.length c f2 HF2.out rfl rfl w) ?_
            simp only [Act.put, List.setIfInBounds_toArray, List.set_cons_succ, List.set_cons_zero]
            refine w_value (.string t) (by kernel_rfl) (fun w hw => x_move _ _ _ _ _ _ _ _ rfl w) ?_
            simp only [Act.put, List.setIfInBounds_toArray, List.set_cons_succ, List.set_cons_zero]
            refine w_value (.int .i64 k) (by kernel_rfl) (fun w hw => x_move _ _ _ _ _ _ _ _ rfl w) ?_
            simp only [Act.put, List.setIfInBounds_toArray, List.set_cons_succ, List.set_cons_zero]
            refine w_value (.string (t.extract k t.size)) (by kernel_rfl) (fun w hw => x_strFrom _ _ _ _ _ _ _ _ t k rfl rfl hk w) ?_
            simp only [Act.put, List.setIfInBounds_toArray, List.set_cons_succ, List.set_cons_zero]
            refine w_call hG 36 #[.slice (some ⟨g, f2, none⟩) l.length (c - 1), .string (t.extract k t.size)] (.bool false) (by kernel_rfl) (fun w => x_call2 _ _ _ _ _ _ _ _ _ _ _ _ _ rfl rfl rfl (enters_of Tryz.func36 (by kernel_rfl) rfl) w) (fun w hw => hq3 w hw) ?_
            simp only [Act.put, List.setIfInBounds_toArray, List.set_cons_succ, List.set_cons_zero]
            refine w_value (.bool false) (by kernel_rfl) (fun w hw => x_pick _ _ _ _ _ _ _ _ _ true (.bool false) (.bool false) rfl rfl rfl w) ?_
            simp only [Act.put, List.setIfInBounds_toArray, List.set_cons_succ, List.set_cons_zero]
            refine w_nil ?_
            intro W hW
            have HWW := hide hW
            clear hW hG hq2 hq3 hq1 HQ2 hlen
            go_wp2
            refine ⟨⟨k + 1, by omega, by go_num, ?_, HWW⟩, by simp [intOf]; omega⟩
            intro j hj h
            by_cases hjk : j = k
            · subst hjk; exact HF.out h.2
            · exact HN.out j (by omega) h
          · have HKY : Hid (hB (catG (s.lang :: l.map SHP.lang)) t = true) := hB_true ((HC.out (bytesN t)).2 ⟨k, by rw [bytesN_length]; exact hk, HTR.out, by rw [← bytesN_drop]; exact (hB_iff _ _).1 hb2.symm⟩)
            clear hb1 hb2
            refine w_lit (C := fun W => Below w.heap.size w W) (by kernel_rfl) (by kernel_rfl) (HW.out.trans ⟨rfl, rfl, rfl, Nat.le_refl _, fun _ _ => rfl⟩) ?_
            refine w_value (.slice (some ⟨g, f, none⟩) (l.length + 1) c) (by kernel_rfl) (fun w hw => x_move _ _ _ _ _ _ _ _ rfl w) ?_
            simp only [Act.put, List.setIfInBounds_toArray, List.set_cons_succ, List.set_cons_zero]
            refine w_value (.pointer (some ⟨g, f, none⟩)) (by kernel_rfl) (fun w hw => x_idxSh0 _ _ _ _ _ _ _ g f (l.length + 1) c rfl rfl (by omega) w) ?_
            simp only [Act.put, List.setIfInBounds_toArray, List.set_cons_succ, List.set_cons_zero]
            refine w_value (ShVal cs) (by kernel_rfl) (fun w hw => x_loadSh _ _ _ _ _ _ _ g f cs rfl w hlen (hq1 w hw)) ?_
            simp only [Act.put, List.setIfInBounds_toArray, List.set_cons_succ, List.set_cons_zero]
            refine w_value (.string t) (by kernel_rfl) (fun w hw => x_move _ _ _ _ _ _ _ _ rfl w) ?_
            simp only [Act.put, List.setIfInBounds_toArray, List.set_cons_succ, List.set_cons_zero]
            refine w_value (.int .i64 k) (by kernel_rfl) (fun w hw => x_move _ _ _ _ _ _ _ _ rfl w) ?_
            simp only [Act.put, List.setIfInBounds_toArray, List.set_cons_succ, List.set_cons_zero]
            refine w_value (.string (t.extract 0 k)) (by kernel_rfl) (fun w hw => x_strTo _ _ _ _ _ _ _ _ t k rfl rfl hk w) ?_
            simp only [Act.put, List.setIfInBounds_toArray, List.set_cons_succ, List.set_cons_zero]
            refine w_call hG 14 #[ShVal cs, .string (t.extract 0 k)] (.bool true) (by kernel_rfl) (fun w => x_call2 _ _ _ _ _ _ _ _ _ _ _ _ _ rfl rfl rfl (enters_of Tryz.func14 (by kernel_rfl) rfl) w) (fun w hw => hq2 w hw) ?_
            simp only [Act.put, List.setIfInBounds_toArray, List.set_cons_succ, List.set_cons_zero]
            refine w_value (.bool true) (by kernel_rfl) (fun w hw => x_move _ _ _ _ _ _ _ _ rfl w) ?_
            simp only [Act.put, List.setIfInBounds_toArray, List.set_cons_succ, List.set_cons_zero]
            refine w_value (.slice (some ⟨g, f, none⟩) (l.length + 1) c) (by kernel_rfl) (fun w hw => x_move _ _ _ _ _ _ _ _ rfl w) ?_
            simp only [Act.put, List.setIfInBounds_toArray, List.set_cons_succ, List.set_cons_zero]
            refine w_value (.slice (some ⟨g, f2, none⟩) l.length (c - 1)) (by kernel_rfl) (fun w hw => x_sliceOneSh _ _ _ _ _ _ _ g f l.length c f2 HF2.out rfl rfl w) ?_
            simp only [Act.put, List.setIfInBounds_toArray, List.set_cons_succ, List.set_cons_zero]
            refine w_value (.string t) (by kernel_rfl) (fun w hw => x_move _ _ _ _ _ _ _ _ rfl w) ?_
            simp only [Act.put, List.setIfInBounds_toArray, List.set_cons_succ, List.set_cons_zero]
            refine w_value (.int .i64 k) (by kernel_rfl) (fun w hw => x_move _ _ _ _ _ _ _ _ rfl w) ?_
            simp only [Act.put, List.setIfInBounds_toArray, List.set_cons_succ, List.set_cons_zero]
            refine w_value (.string (t.extract k t.size)) (by kernel_rfl) (fun w hw => x_strFrom _ _ _ _ _ _ _ _ t k rfl rfl hk w) ?_
            simp only [Act.put, List.setIfInBounds_toArray, List.set_cons_succ, List.set_cons_zero]
            refine w_call hG 36 #[.slice (some ⟨g, f2, none⟩) l.length (c - 1), .string (t.extract k t.size)] (.bool true) (by kernel_rfl) (fun w => x_call2 _ _ _ _ _ _ _ _ _ _ _ _ _ rfl rfl rfl (enters_of Tryz.func36 (by kernel_rfl) rfl) w) (fun w hw => hq3 w hw) ?_
            simp only [Act.put, List.setIfInBounds_toArray, List.set_cons_succ, List.set_cons_zero]
            refine w_value (.bool true) (by kernel_rfl) (fun w hw => x_pick _ _ _ _ _ _ _ _ _ true (.bool true) (.bool false) rfl rfl rfl w) ?_
            simp only [Act.put, List.setIfInBounds_toArray, List.set_cons_succ, List.set_cons_zero]
            refine w_nil ?_
            intro W hW
            have HWW := hide hW
            clear hW hG hq2 hq3 hq1 HQ2 hlen
            go_wp2
            go_ret
            refine ⟨?_, HWW.out⟩
            rw [HKY.out]; rfl
      · have hkd : decide ((k : Int) ≤ t.size) = false := by simp; omega
        have hkd2 : decide (k ≤ t.size) = false := by simp; omega
        have HKY : Hid (hB (catG (s.lang :: l.map SHP.lang)) t = false) := hB_false fun h => by
          obtain ⟨j, hj, h1, h2⟩ := (HC.out (bytesN t)).1 h
          rw [bytesN_length] at hj
          exact HN.out j (by omega) ⟨h1, h2⟩
        go_wp2
        go_ret
        refine ⟨?_, HW.out⟩
        rw [HKY.out]; rfl
end Go.Proofs.YthlannjipbohkaaGreatDoor
/- In: a text is one of a shape's, by the page. -/
namespace Go.Proofs.YthlannjipbohkaaGreatDoor
set_option maxRecDepth 100000
set_option linter.unusedSimpArgs false
set_option linter.unusedVariables false
open Go.RowKit

def inC (s : SHP) (a : Option Addr) (c : Nat) : Array Value := #[.int .i64 s.op, .int .u8 s.lo, .int .u8 s.hi, .string s.text, .slice a s.kids.length c]
structure OneS (w : World) (B : Nat) (s : SHP) (a : Option Addr) (c : Nat) (W : World) : Prop where
  below : Below B w W
  x : Blk W B (inC s a c) 24
theorem OneS.step {w : World} {B : Nat} {s : SHP} {a : Option Addr} {c : Nat} {W W' : World} (h : OneS w B s a c W) (hb : Below W.heap.size W W') : OneS w B s a c W' :=
  ⟨h.below.trans (hb.mono (by have := h.x.lt; omega)), h.x.below hb h.x.lt⟩

theorem bytesN_inj {a b : ByteArray} (h : bytesN a = bytesN b) : a = b := by
  unfold bytesN at h
  cases a with | mk a => cases b with | mk b =>
  congr 1
  apply Array.toList_inj.1
  have hi : Function.Injective UInt8.toNat := fun x y e => UInt8.toNat_inj.1 e
  exact List.map_inj_right (fun x y e => UInt8.toNat_inj.1 e) |>.1 h


theorem sl0 {o : Int} {l u : Nat} {tx : ByteArray} {ks : List SHP} (h : (SHP.mk o l u tx ks).k = 0) (t : List Nat) : ¬ (SHP.mk o l u tx ks).lang t := by
  rw [SHP.lang_mk, h]; exact id
theorem sl1 {o : Int} {l u : Nat} {tx : ByteArray} {ks : List SHP} (h : (SHP.mk o l u tx ks).k = 1) (t : List Nat) : (SHP.mk o l u tx ks).lang t ↔ t = [] := by
  rw [SHP.lang_mk, h]; exact Iff.rfl
theorem sl2 {o : Int} {l u : Nat} {tx : ByteArray} {ks : List SHP} (h : (SHP.mk o l u tx ks).k = 2) (t : List Nat) : (SHP.mk o l u tx ks).lang t ↔ ∃ x, t = [x] ∧ 97 + l % 4 ≤ x ∧ x ≤ 97 + u % 4 := by
  rw [SHP.lang_mk, h]; exact Iff.rfl
theorem sl3 {o : Int} {l u : Nat} {tx : ByteArray} {ks : List SHP} (h : (SHP.mk o l u tx ks).k = 3) (t : List Nat) : (SHP.mk o l u tx ks).lang t ↔ catG (ks.map SHP.lang) t := by
  rw [SHP.lang_mk, h]; exact Iff.rfl
theorem sl4 {o : Int} {l u : Nat} {tx : ByteArray} {ks : List SHP} (h : (SHP.mk o l u tx ks).k = 4) (t : List Nat) : (SHP.mk o l u tx ks).lang t ↔ ∃ k ∈ ks, k.lang t := by
  rw [SHP.lang_mk, h]
  show (∃ m ∈ ks.map SHP.lang, m t) ↔ _
  constructor
  · rintro ⟨m, hm, h⟩
    obtain ⟨k, hk, rfl⟩ := List.mem_map.1 hm
    exact ⟨k, hk, h⟩
  · rintro ⟨k, hk, h⟩
    exact ⟨_, List.mem_map.2 ⟨k, hk, rfl⟩, h⟩
theorem sl5 {o : Int} {l u : Nat} {tx : ByteArray} {ks : List SHP} (h : (SHP.mk o l u tx ks).k = 5) (t : List Nat) : (SHP.mk o l u tx ks).lang t ↔ t = [] ∨ ∃ m, (ks.map SHP.lang)[0]? = some m ∧ starG m t := by
  rw [SHP.lang_mk, h]; exact Iff.rfl
theorem sl6 {o : Int} {l u : Nat} {tx : ByteArray} {ks : List SHP} (h : (SHP.mk o l u tx ks).k = 6) (t : List Nat) : (SHP.mk o l u tx ks).lang t ↔ ∀ k ∈ ks, k.lang t := by
  rw [SHP.lang_mk, h]
  show (∀ m ∈ ks.map SHP.lang, m t) ↔ _
  simp
theorem sl7 {o : Int} {l u : Nat} {tx : ByteArray} {ks : List SHP} (h : (SHP.mk o l u tx ks).k = 7) (t : List Nat) : (SHP.mk o l u tx ks).lang t ↔ (∃ m, (ks.map SHP.lang)[0]? = some m ∧ m t) ∧ ¬ ∃ m, (ks.map SHP.lang)[1]? = some m ∧ m t := by
  rw [SHP.lang_mk, h]; exact Iff.rfl
theorem sl8 {o : Int} {l u : Nat} {tx : ByteArray} {ks : List SHP} (h : (SHP.mk o l u tx ks).k = 8) (t : List Nat) : (SHP.mk o l u tx ks).lang t ↔ t = bytesN tx := by
  rw [SHP.lang_mk, h]; exact Iff.rfl
theorem sl5_cons {o : Int} {l u : Nat} {tx : ByteArray} {s : SHP} {ks : List SHP} (h : (SHP.mk o l u tx (s :: ks)).k = 5) (t : List Nat) : (SHP.mk o l u tx (s :: ks)).lang t ↔ starG s.lang t := by
  rw [sl5 h]
  constructor
  · rintro (rfl | ⟨m, e, h⟩)
    · exact .nil
    · have e : some s.lang = some m := e
      injection e with e; rw [e]; exact h
  · intro h; exact .inr ⟨_, rfl, h⟩
set_option maxHeartbeats 1000000 in
theorem in0 (o : Int) (l u : Nat) (tx : ByteArray) (ks : List SHP) (t : ByteArray) (hK : (SHP.mk o l u tx ks).k = 0) : InAt (.mk o l u tx ks) t := by
  intro cs w h
  have HS := hide h
  obtain ⟨v, rfl, hrow, ho, hlo, hhi, htx⟩ := h.open
  obtain ⟨hn, a, cap, rfl, -⟩ := hrow.at
  have HROW := hide hrow
  obtain ⟨B, hB0⟩ : ∃ B, B = w.heap.size := ⟨_, rfl⟩
  have h1 : OneS w B (SHP.mk o l u tx ks) a cap (w.alloc (.cells #[.int .i64 o, .int .u8 l, .int .u8 u, .string tx, .slice a ks.length cap] 24)) := ⟨(Below.refl _ _).alloc (Nat.le_of_eq hB0) _, Blk.newAt hB0 _ _⟩
  have hop := op_any _ _ _ (h.keep (hB0 ▸ h1.below))
  rw [hK] at hop
  have HOP := hide hop
  have HB0 := hide hB0
  have H0 := hide h1
  clear hop h hrow h1
  simp only [SHP.op, SHP.lo, SHP.hi, SHP.text, SHP.kids] at hn ho hlo hhi htx HROW HOP ⊢
  unfold ShVal at HOP ⊢
  go_enter Tryz.func14, Tryz.ntmps14
  go_wp2_with fail
  rw [← hB0]
  refine HOP.out.mono ?_
  rintro e w1 ⟨rfl, hb1⟩
  have H1 := hide (H0.out.step hb1)
  clear hb1 HOP H0 hB0
  have HR : Hid (hB (SHP.mk o l u tx ks).lang t = false) := hB_false (sl0 hK _)
  go_wp2
  go_ret
  refine ⟨?_, HB0.out ▸ H1.out.below⟩
  rw [HR.out]; rfl
set_option maxHeartbeats 1000000 in
theorem in1 (o : Int) (l u : Nat) (tx : ByteArray) (ks : List SHP) (t : ByteArray) (hK : (SHP.mk o l u tx ks).k = 1) : InAt (.mk o l u tx ks) t := by
  intro cs w h
  have HS := hide h
  obtain ⟨v, rfl, hrow, ho, hlo, hhi, htx⟩ := h.open
  obtain ⟨hn, a, cap, rfl, -⟩ := hrow.at
  have HROW := hide hrow
  obtain ⟨B, hB0⟩ : ∃ B, B = w.heap.size := ⟨_, rfl⟩
  have h1 : OneS w B (SHP.mk o l u tx ks) a cap (w.alloc (.cells #[.int .i64 o, .int .u8 l, .int .u8 u, .string tx, .slice a ks.length cap] 24)) := ⟨(Below.refl _ _).alloc (Nat.le_of_eq hB0) _, Blk.newAt hB0 _ _⟩
  have hop := op_any _ _ _ (h.keep (hB0 ▸ h1.below))
  rw [hK] at hop
  have HOP := hide hop
  have HB0 := hide hB0
  have H0 := hide h1
  clear hop h hrow h1
  simp only [SHP.op, SHP.lo, SHP.hi, SHP.text, SHP.kids] at hn ho hlo hhi htx HROW HOP ⊢
  unfold ShVal at HOP ⊢
  go_enter Tryz.func14, Tryz.ntmps14
  go_wp2_with fail
  rw [← hB0]
  refine HOP.out.mono ?_
  rintro e w1 ⟨rfl, hb1⟩
  have H1 := hide (H0.out.step hb1)
  clear hb1 HOP H0 hB0
  have HR : Hid (hB (SHP.mk o l u tx ks).lang t = t.toList.isEmpty) := by rw [← hB_nil]; exact hB_eq (sl1 hK _)
  go_wp2
  go_ret
  refine ⟨?_, HB0.out ▸ H1.out.below⟩
  rw [HR.out]; rfl
set_option maxHeartbeats 1000000 in
theorem in8 (o : Int) (l u : Nat) (tx : ByteArray) (ks : List SHP) (t : ByteArray) (hK : (SHP.mk o l u tx ks).k = 8) : InAt (.mk o l u tx ks) t := by
  intro cs w h
  have HS := hide h
  obtain ⟨v, rfl, hrow, ho, hlo, hhi, htx⟩ := h.open
  obtain ⟨hn, a, cap, rfl, -⟩ := hrow.at
  have HROW := hide hrow
  obtain ⟨B, hB0⟩ : ∃ B, B = w.heap.size := ⟨_, rfl⟩
  have h1 : OneS w B (SHP.mk o l u tx ks) a cap (w.alloc (.cells #[.int .i64 o, .int .u8 l, .int .u8 u, .string tx, .slice a ks.length cap] 24)) := ⟨(Below.refl _ _).alloc (Nat.le_of_eq hB0) _, Blk.newAt hB0 _ _⟩
  have hop := op_any _ _ _ (h.keep (hB0 ▸ h1.below))
  rw [hK] at hop
  have HOP := hide hop
  have HB0 := hide hB0
  have H0 := hide h1
  clear hop h hrow h1
  simp only [SHP.op, SHP.lo, SHP.hi, SHP.text, SHP.kids] at hn ho hlo hhi htx HROW HOP ⊢
  unfold ShVal at HOP ⊢
  go_enter Tryz.func14, Tryz.ntmps14
  go_wp2_with fail
  rw [← hB0]
  refine HOP.out.mono ?_
  rintro e w1 ⟨rfl, hb1⟩
  have H1 := hide (H0.out.step hb1)
  clear hb1 HOP H0 hB0
  have hx := H1.out.x
  have x0 := hx.cell 0; have x1 := hx.cell 1; have x2 := hx.cell 2; have x3 := hx.cell 3; have x4 := hx.cell 4
  simp only [inC, SHP.op, SHP.lo, SHP.hi, SHP.text, SHP.kids, List.getElem?_toArray, List.getElem?_cons_zero, List.getElem?_cons_succ] at x0 x1 x2 x3 x4
  clear hx
  have HR : Hid (hB (SHP.mk o l u tx ks).lang t = (t.toList == tx.toList)) := by
    show _ = _
    by_cases h : t = tx
    · subst h
      rw [hB_true ((sl8 hK _).2 rfl)]; simp
    · rw [hB_false fun h' => h (bytesN_inj ((sl8 hK _).1 h'))]
      refine (beq_eq_false_iff_ne.2 fun e => h ?_).symm
      rw [ByteArray.toList_eq, ByteArray.toList_eq] at e
      exact Go.WideShapes.bytes_inj e
  go_wp2
  go_ret
  refine ⟨?_, HB0.out ▸ H1.out.below⟩
  rw [HR.out]; rfl
set_option maxHeartbeats 1000000 in
theorem in2 (o : Int) (l u : Nat) (tx : ByteArray) (ks : List SHP) (t : ByteArray) (hK : (SHP.mk o l u tx ks).k = 2) : InAt (.mk o l u tx ks) t := by
  intro cs w h
  have HS := hide h
  obtain ⟨v, rfl, hrow, ho, hlo, hhi, htx⟩ := h.open
  obtain ⟨hn, a, cap, rfl, -⟩ := hrow.at
  have HROW := hide hrow
  obtain ⟨B, hB0⟩ : ∃ B, B = w.heap.size := ⟨_, rfl⟩
  have h1 : OneS w B (SHP.mk o l u tx ks) a cap (w.alloc (.cells #[.int .i64 o, .int .u8 l, .int .u8 u, .string tx, .slice a ks.length cap] 24)) := ⟨(Below.refl _ _).alloc (Nat.le_of_eq hB0) _, Blk.newAt hB0 _ _⟩
  have hop := op_any _ _ _ (h.keep (hB0 ▸ h1.below))
  rw [hK] at hop
  have HOP := hide hop
  have HB0 := hide hB0
  have H0 := hide h1
  clear hop h hrow h1
  simp only [SHP.op, SHP.lo, SHP.hi, SHP.text, SHP.kids] at hn ho hlo hhi htx HROW HOP ⊢
  unfold ShVal at HOP ⊢
  go_enter Tryz.func14, Tryz.ntmps14
  go_wp2_with fail
  rw [← hB0]
  refine HOP.out.mono ?_
  rintro e w1 ⟨rfl, hb1⟩
  have H1 := hide (H0.out.step hb1)
  clear hb1 HOP H0 hB0
  have hx := H1.out.x
  have x0 := hx.cell 0; have x1 := hx.cell 1; have x2 := hx.cell 2; have x3 := hx.cell 3; have x4 := hx.cell 4
  simp only [inC, SHP.op, SHP.lo, SHP.hi, SHP.text, SHP.kids, List.getElem?_toArray, List.getElem?_cons_zero, List.getElem?_cons_succ] at x0 x1 x2 x3 x4
  clear hx
  have HLO := hide (low_any (.mk o l u tx ks) _ w1 (HS.out.keep (HB0.out ▸ H1.out.below)))
  simp only [SHP.lo, SHP.hi] at HLO
  unfold ShVal at HLO
  obtain ⟨A, hA⟩ : ∃ A : Nat, A = 97 + l % 4 := ⟨_, rfl⟩
  obtain ⟨Z, hZ⟩ : ∃ Z : Nat, Z = 97 + u % 4 := ⟨_, rfl⟩
  have HL : Hid (∀ t, (SHP.mk o l u tx ks).lang t ↔ ∃ x, t = [x] ∧ A ≤ x ∧ x ≤ Z) := fun t => by rw [hA, hZ]; exact sl2 hK t
  rw [← hA, ← hZ] at HLO
  clear hA hZ
  go_wp2_with fail
  refine HLO.out.mono ?_
  rintro e w2 ⟨rfl, hb2⟩
  have H2 := hide (H1.out.step hb2)
  clear hb2 HLO H1 x0 x1 x2 x3 x4
  by_cases h1 : t.size = 1
  · obtain ⟨x, rfl⟩ : ∃ x, t = ⟨#[x]⟩ := by
      cases t with
      | mk d =>
        have : d.size = 1 := h1
        obtain ⟨x, hx⟩ := Array.size_eq_one_iff.1 this
        exact ⟨x, by rw [hx]⟩
    clear h1
    have HR : Hid (hB (SHP.mk o l u tx ks).lang ⟨#[x]⟩ = (decide (A ≤ x.toNat) && decide (x.toNat ≤ Z))) := by
      show _ = _
      by_cases h1 : A ≤ x.toNat ∧ x.toNat ≤ Z
      · rw [hB_true ((HL.out _).2 ⟨x.toNat, rfl, h1.1, h1.2⟩)]; simp [h1.1, h1.2]
      · rw [hB_false fun h' => h1 (by
          obtain ⟨y, e, h2⟩ := (HL.out _).1 h'
          have e : [x.toNat] = [y] := e
          have : x.toNat = y := by simpa using e
          rw [this]; exact h2)]
        simp; omega
    have hs1 : (ByteArray.mk #[x]).size = 1 := rfl
    have hg0 : (ByteArray.mk #[x])[0] = x := rfl
    by_cases h1 : A ≤ x.toNat
    · have d1 : decide (A ≤ x.toNat) = true := by simp [h1]
      have d2 : decide ((A : Int) ≤ (x.toNat : Int)) = true := by simp; omega
      by_cases h2 : x.toNat ≤ Z
      · have d3 : decide (x.toNat ≤ Z) = true := by simp [h2]
        have d4 : decide ((x.toNat : Int) ≤ (Z : Int)) = true := by simp; omega
        go_wp2
        go_ret
        refine ⟨?_, HB0.out ▸ H2.out.below⟩
        rw [HR.out]; simp [h1, h2]
      · have d3 : decide (x.toNat ≤ Z) = false := by simp; omega
        have d4 : decide ((x.toNat : Int) ≤ (Z : Int)) = false := by simp; omega
        go_wp2
        go_ret
        refine ⟨?_, HB0.out ▸ H2.out.below⟩
        rw [HR.out]; simp [h1, h2]
    · have d1 : decide (A ≤ x.toNat) = false := by simp; omega
      have d2 : decide ((A : Int) ≤ (x.toNat : Int)) = false := by simp; omega
      go_wp2
      go_ret
      refine ⟨?_, HB0.out ▸ H2.out.below⟩
      rw [HR.out]; simp [h1]
  · have hne : ((t.size : Int) == 1) = false := beq_eq_false_iff_ne.2 (by omega)
    have HR : Hid (hB (SHP.mk o l u tx ks).lang t = false) := hB_false fun h' => by
      obtain ⟨y, e, hy⟩ := (HL.out _).1 h'
      have := bytesN_length t
      rw [e] at this
      simp at this; omega
    go_wp2
    go_ret
    refine ⟨?_, HB0.out ▸ H2.out.below⟩
    rw [HR.out]; rfl
set_option maxHeartbeats 1000000 in
theorem in3 (o : Int) (l u : Nat) (tx : ByteArray) (ks : List SHP) (t : ByteArray) (hK : (SHP.mk o l u tx ks).k = 3) (ht : t.size ≤ 1000) (ih : ∀ k ∈ ks, ∀ t', t'.size ≤ t.size → InAt k t') : InAt (.mk o l u tx ks) t := by
  intro cs w h
  have HS := hide h
  obtain ⟨v, rfl, hrow, ho, hlo, hhi, htx⟩ := h.open
  obtain ⟨hn, a, cap, rfl, -⟩ := hrow.at
  have HROW := hide hrow
  obtain ⟨B, hB0⟩ : ∃ B, B = w.heap.size := ⟨_, rfl⟩
  have h1 : OneS w B (SHP.mk o l u tx ks) a cap (w.alloc (.cells #[.int .i64 o, .int .u8 l, .int .u8 u, .string tx, .slice a ks.length cap] 24)) := ⟨(Below.refl _ _).alloc (Nat.le_of_eq hB0) _, Blk.newAt hB0 _ _⟩
  have hop := op_any _ _ _ (h.keep (hB0 ▸ h1.below))
  rw [hK] at hop
  have HOP := hide hop
  have HB0 := hide hB0
  have H0 := hide h1
  clear hop h hrow h1
  simp only [SHP.op, SHP.lo, SHP.hi, SHP.text, SHP.kids] at hn ho hlo hhi htx HROW HOP ⊢
  unfold ShVal at HOP ⊢
  go_enter Tryz.func14, Tryz.ntmps14
  go_wp2_with fail
  rw [← hB0]
  refine HOP.out.mono ?_
  rintro e w1 ⟨rfl, hb1⟩
  have H1 := hide (H0.out.step hb1)
  clear hb1 HOP H0 hB0
  have hx := H1.out.x
  have x0 := hx.cell 0; have x1 := hx.cell 1; have x2 := hx.cell 2; have x3 := hx.cell 3; have x4 := hx.cell 4
  simp only [inC, SHP.op, SHP.lo, SHP.hi, SHP.text, SHP.kids, List.getElem?_toArray, List.getElem?_cons_zero, List.getElem?_cons_succ] at x0 x1 x2 x3 x4
  clear hx
  have hc := catSh_any ks _ t w1 ht (HROW.out.keep (HB0.out ▸ H1.out.below)) ih
  have HR : Hid (hB (SHP.mk o l u tx ks).lang t = hB (catG (ks.map SHP.lang)) t) := hB_eq (sl3 hK (bytesN t))
  obtain ⟨q, hq⟩ : ∃ q, q = hB (catG (ks.map SHP.lang)) t := ⟨_, rfl⟩
  rw [← hq] at hc HR
  have HC := hide hc
  clear ih hc hq
  go_wp2_with fail
  refine HC.out.mono ?_
  rintro e w2 ⟨rfl, hb2⟩
  have H2 := hide (H1.out.step hb2)
  clear hb2 HC H1 x0 x1 x2 x3 x4
  go_wp2
  go_ret
  refine ⟨?_, HB0.out ▸ H2.out.below⟩
  rw [HR.out]; rfl
set_option maxHeartbeats 1000000 in
theorem in4 (o : Int) (l u : Nat) (tx : ByteArray) (ks : List SHP) (t : ByteArray) (hK : (SHP.mk o l u tx ks).k = 4) (ih : ∀ k ∈ ks, InAt k t) : InAt (.mk o l u tx ks) t := by
  intro cs w h
  have HS := hide h
  obtain ⟨v, rfl, hrow, ho, hlo, hhi, htx⟩ := h.open
  obtain ⟨hn, a, cap, rfl, -⟩ := hrow.at
  have HROW := hide hrow
  obtain ⟨B, hB0⟩ : ∃ B, B = w.heap.size := ⟨_, rfl⟩
  have h1 : OneS w B (SHP.mk o l u tx ks) a cap (w.alloc (.cells #[.int .i64 o, .int .u8 l, .int .u8 u, .string tx, .slice a ks.length cap] 24)) := ⟨(Below.refl _ _).alloc (Nat.le_of_eq hB0) _, Blk.newAt hB0 _ _⟩
  have hop := op_any _ _ _ (h.keep (hB0 ▸ h1.below))
  rw [hK] at hop
  have HOP := hide hop
  have HB0 := hide hB0
  have H0 := hide h1
  clear hop h hrow h1
  simp only [SHP.op, SHP.lo, SHP.hi, SHP.text, SHP.kids] at hn ho hlo hhi htx HROW HOP ⊢
  unfold ShVal at HOP ⊢
  go_enter Tryz.func14, Tryz.ntmps14
  go_wp2_with fail
  rw [← hB0]
  refine HOP.out.mono ?_
  rintro e w1 ⟨rfl, hb1⟩
  have H1 := hide (H0.out.step hb1)
  clear hb1 HOP H0 hB0
  have hx := H1.out.x
  have x0 := hx.cell 0; have x1 := hx.cell 1; have x2 := hx.cell 2; have x3 := hx.cell 3; have x4 := hx.cell 4
  simp only [inC, SHP.op, SHP.lo, SHP.hi, SHP.text, SHP.kids, List.getElem?_toArray, List.getElem?_cons_zero, List.getElem?_cons_succ] at x0 x1 x2 x3 x4
  clear hx
  have HIH := hide ih
  clear ih
  go_wp2
  go_loopw [53] (fun i wr => ∃ k : Nat, k ≤ ks.length ∧ i = .int .i64 k ∧ Hid (∀ x ∈ ks.take k, hB x.lang t = false) ∧ Hid (Below B w wr)) (fun i _ => ks.length - (intOf i).toNat)
  case atStart => exact ⟨0, by omega, rfl, (fun x hx => by simp at hx), H1.out.below⟩
  case round =>
    clear x0 x1 x2 x3 x4 H1
    obtain ⟨k, hk1, rfl, HN, HW⟩ := hrel
    obtain ⟨-, a', cap', e1, g1⟩ := (HROW.out.keep (show Below w.heap.size w wr from HB0.out ▸ HW.out)).at
    obtain ⟨rfl, rfl⟩ : a = a' ∧ cap = cap' := by cases e1; exact ⟨rfl, rfl⟩
    clear e1
    by_cases hlt : k < ks.length
    · have hkd : decide (k < ks.length) = true := by simp [hlt]
      obtain ⟨b, off, kv, rfl, -, ⟨c0, c1, c2, c3, c4⟩, hC⟩ := g1 k hlt
      have HT := hide (show ks.take (k + 1) = ks.take k ++ [ks[k]] from List.take_succ_eq_append_getElem hlt)
      obtain ⟨q, hq⟩ : ∃ q, q = hB (ks[k]).lang t := ⟨_, rfl⟩
      have hrec := HIH.out _ (List.getElem_mem hlt) _ _ (hC.keep ((Below.refl wr.heap.size wr).alloc (Nat.le_refl _) (.cells #[.int .i64 ks[k].op, .int .u8 ks[k].lo, .int .u8 ks[k].hi, .string ks[k].text, kv] 24)))
      rw [← hq] at hrec
      have HM := hide (List.getElem_mem hlt)
      have HQ := hide hq
      have hBW : B ≤ wr.heap.size := by rw [HB0.out]; exact (HB0.out ▸ HW.out).size
      obtain ⟨-, kf, kcap, hkv, -⟩ : True ∧ ∃ a c, kv = .slice a (ks[k]).kids.length c ∧ True := by
        obtain ⟨v', e', hr', -⟩ := hC.open
        obtain ⟨-, a', c', e'', -⟩ := hr'.at
        have : kv = v' := by simpa using e'
        exact ⟨trivial, a', c', this.trans e'', trivial⟩
      have HREC := hide hrec
      subst hkv
      generalize hks : ks[k] = kk at *
      clear hrec hC g1 hq hks
      unfold ShVal at HREC
      go_wp2_with fail
      refine HREC.out.mono ?_
      rintro e w2 ⟨rfl, hb2⟩
      have HB := hide ((HW.out.alloc hBW (.cells #[.int .i64 kk.op, .int .u8 kk.lo, .int .u8 kk.hi, .string kk.text, .slice kf kk.kids.length kcap] 24)).trans (hb2.mono (by simp; omega)))
      clear hb2 HREC c0 c1 c2 c3 c4
      cases q
      · go_wp2
        refine ⟨⟨k + 1, by omega, by go_num, ?_, HB⟩, by simp [intOf]; omega⟩
        intro x hx
        rw [HT.out] at hx
        rcases List.mem_append.1 hx with hx | hx
        · exact HN.out x hx
        · simp at hx; subst hx; exact HQ.out.symm
      · have HKY : Hid (hB (SHP.mk o l u tx ks).lang t = true) := by
          show _ = _
          exact hB_true ((sl4 hK _).2 ⟨kk, HM.out, (hB_iff _ _).1 HQ.out.symm⟩)
        go_wp2
        go_ret
        refine ⟨?_, HB0.out ▸ HB.out⟩
        rw [HKY.out]; rfl
    · obtain rfl : k = ks.length := by omega
      rw [List.take_length] at HN
      have HKY : Hid (hB (SHP.mk o l u tx ks).lang t = false) := by
        show _ = _
        refine hB_false fun h => ?_
        obtain ⟨x, hx, h2⟩ := (sl4 hK _).1 h
        have h3 := hB_true (t := t) h2
        rw [HN.out x hx] at h3; cases h3
      clear g1
      go_wp2
      go_ret
      refine ⟨?_, HB0.out ▸ HW.out⟩
      rw [HKY.out]; rfl
set_option maxHeartbeats 1000000 in
theorem in6 (o : Int) (l u : Nat) (tx : ByteArray) (ks : List SHP) (t : ByteArray) (hK : (SHP.mk o l u tx ks).k = 6) (ih : ∀ k ∈ ks, InAt k t) : InAt (.mk o l u tx ks) t := by
  intro cs w h
  have HS := hide h
  obtain ⟨v, rfl, hrow, ho, hlo, hhi, htx⟩ := h.open
  obtain ⟨hn, a, cap, rfl, -⟩ := hrow.at
  have HROW := hide hrow
  obtain ⟨B, hB0⟩ : ∃ B, B = w.heap.size := ⟨_, rfl⟩
  have h1 : OneS w B (SHP.mk o l u tx ks) a cap (w.alloc (.cells #[.int .i64 o, .int .u8 l, .int .u8 u, .string tx, .slice a ks.length cap] 24)) := ⟨(Below.refl _ _).alloc (Nat.le_of_eq hB0) _, Blk.newAt hB0 _ _⟩
  have hop := op_any _ _ _ (h.keep (hB0 ▸ h1.below))
  rw [hK] at hop
  have HOP := hide hop
  have HB0 := hide hB0
  have H0 := hide h1
  clear hop h hrow h1
  simp only [SHP.op, SHP.lo, SHP.hi, SHP.text, SHP.kids] at hn ho hlo hhi htx HROW HOP ⊢
  unfold ShVal at HOP ⊢
  go_enter Tryz.func14, Tryz.ntmps14
  go_wp2_with fail
  rw [← hB0]
  refine HOP.out.mono ?_
  rintro e w1 ⟨rfl, hb1⟩
  have H1 := hide (H0.out.step hb1)
  clear hb1 HOP H0 hB0
  have hx := H1.out.x
  have x0 := hx.cell 0; have x1 := hx.cell 1; have x2 := hx.cell 2; have x3 := hx.cell 3; have x4 := hx.cell 4
  simp only [inC, SHP.op, SHP.lo, SHP.hi, SHP.text, SHP.kids, List.getElem?_toArray, List.getElem?_cons_zero, List.getElem?_cons_succ] at x0 x1 x2 x3 x4
  clear hx
  have HIH := hide ih
  clear ih
  go_wp2
  go_loopw [95] (fun i wr => ∃ k : Nat, k ≤ ks.length ∧ i = .int .i64 k ∧ Hid (∀ x ∈ ks.take k, hB x.lang t = true) ∧ Hid (Below B w wr)) (fun i _ => ks.length - (intOf i).toNat)
  case atStart => exact ⟨0, by omega, rfl, (fun x hx => by simp at hx), H1.out.below⟩
  case round =>
    clear x0 x1 x2 x3 x4 H1
    obtain ⟨k, hk1, rfl, HN, HW⟩ := hrel
    obtain ⟨-, a', cap', e1, g1⟩ := (HROW.out.keep (show Below w.heap.size w wr from HB0.out ▸ HW.out)).at
    obtain ⟨rfl, rfl⟩ : a = a' ∧ cap = cap' := by cases e1; exact ⟨rfl, rfl⟩
    clear e1
    by_cases hlt : k < ks.length
    · have hkd : decide (k < ks.length) = true := by simp [hlt]
      obtain ⟨b, off, kv, rfl, -, ⟨c0, c1, c2, c3, c4⟩, hC⟩ := g1 k hlt
      have HT := hide (show ks.take (k + 1) = ks.take k ++ [ks[k]] from List.take_succ_eq_append_getElem hlt)
      obtain ⟨q, hq⟩ : ∃ q, q = hB (ks[k]).lang t := ⟨_, rfl⟩
      have hrec := HIH.out _ (List.getElem_mem hlt) _ _ (hC.keep ((Below.refl wr.heap.size wr).alloc (Nat.le_refl _) (.cells #[.int .i64 ks[k].op, .int .u8 ks[k].lo, .int .u8 ks[k].hi, .string ks[k].text, kv] 24)))
      rw [← hq] at hrec
      have HM := hide (List.getElem_mem hlt)
      have HQ := hide hq
      have hBW : B ≤ wr.heap.size := by rw [HB0.out]; exact (HB0.out ▸ HW.out).size
      obtain ⟨-, kf, kcap, hkv, -⟩ : True ∧ ∃ a c, kv = .slice a (ks[k]).kids.length c ∧ True := by
        obtain ⟨v', e', hr', -⟩ := hC.open
        obtain ⟨-, a', c', e'', -⟩ := hr'.at
        have : kv = v' := by simpa using e'
        exact ⟨trivial, a', c', this.trans e'', trivial⟩
      have HREC := hide hrec
      subst hkv
      generalize hks : ks[k] = kk at *
      clear hrec hC g1 hq hks
      unfold ShVal at HREC
      go_wp2_with fail
      refine HREC.out.mono ?_
      rintro e w2 ⟨rfl, hb2⟩
      have HB := hide ((HW.out.alloc hBW (.cells #[.int .i64 kk.op, .int .u8 kk.lo, .int .u8 kk.hi, .string kk.text, .slice kf kk.kids.length kcap] 24)).trans (hb2.mono (by simp; omega)))
      clear hb2 HREC c0 c1 c2 c3 c4
      cases q
      · have HKY : Hid (hB (SHP.mk o l u tx ks).lang t = false) := by
          show _ = _
          refine hB_false fun h => ?_
          have h2 := hB_true (t := t) ((sl6 hK _).1 h kk HM.out)
          rw [← HQ.out] at h2; cases h2
        go_wp2
        go_ret
        refine ⟨?_, HB0.out ▸ HB.out⟩
        rw [HKY.out]; rfl
      · go_wp2
        refine ⟨⟨k + 1, by omega, by go_num, ?_, HB⟩, by simp [intOf]; omega⟩
        intro x hx
        rw [HT.out] at hx
        rcases List.mem_append.1 hx with hx | hx
        · exact HN.out x hx
        · simp at hx; subst hx; exact HQ.out.symm
    · obtain rfl : k = ks.length := by omega
      rw [List.take_length] at HN
      have HKY : Hid (hB (SHP.mk o l u tx ks).lang t = true) := by
        show _ = _
        exact hB_true ((sl6 hK _).2 fun x hx => (hB_iff _ _).1 (HN.out x hx))
      clear g1
      go_wp2
      go_ret
      refine ⟨?_, HB0.out ▸ HW.out⟩
      rw [HKY.out]; rfl
end Go.Proofs.YthlannjipbohkaaGreatDoor
/- In: many, one without another one; the whole call. -/
namespace Go.Proofs.YthlannjipbohkaaGreatDoor
set_option maxRecDepth 100000
set_option linter.unusedSimpArgs false
set_option linter.unusedVariables false
open Go.RowKit

set_option maxHeartbeats 1000000 in
theorem in5_nil (o : Int) (l u : Nat) (tx : ByteArray) (ks : List SHP) (t : ByteArray) (hK : (SHP.mk o l u tx ks).k = 5) (h0 : t.size = 0) : InAt (.mk o l u tx ks) t := by
  intro cs w h
  have HS := hide h
  obtain ⟨v, rfl, hrow, ho, hlo, hhi, htx⟩ := h.open
  obtain ⟨hn, a, cap, rfl, -⟩ := hrow.at
  have HROW := hide hrow
  obtain ⟨B, hB0⟩ : ∃ B, B = w.heap.size := ⟨_, rfl⟩
  have h1 : OneS w B (SHP.mk o l u tx ks) a cap (w.alloc (.cells #[.int .i64 o, .int .u8 l, .int .u8 u, .string tx, .slice a ks.length cap] 24)) := ⟨(Below.refl _ _).alloc (Nat.le_of_eq hB0) _, Blk.newAt hB0 _ _⟩
  have hop := op_any _ _ _ (h.keep (hB0 ▸ h1.below))
  rw [hK] at hop
  have HOP := hide hop
  have HB0 := hide hB0
  have H0 := hide h1
  clear hop h hrow h1
  simp only [SHP.op, SHP.lo, SHP.hi, SHP.text, SHP.kids] at hn ho hlo hhi htx HROW HOP ⊢
  unfold ShVal at HOP ⊢
  go_enter Tryz.func14, Tryz.ntmps14
  go_wp2_with fail
  rw [← hB0]
  refine HOP.out.mono ?_
  rintro e w1 ⟨rfl, hb1⟩
  have H1 := hide (H0.out.step hb1)
  clear hb1 HOP H0 hB0
  have e0 : bytesN t = [] := List.eq_nil_of_length_eq_zero (by rw [bytesN_length]; omega)
  have htl : t.toList.isEmpty = true := by rw [← hB_nil]; exact hB_true e0
  have HR : Hid (hB (SHP.mk o l u tx ks).lang t = true) := hB_true ((sl5 hK _).2 (.inl e0))
  clear e0
  go_wp2
  go_ret
  refine ⟨?_, HB0.out ▸ H1.out.below⟩
  rw [HR.out]; rfl
set_option maxHeartbeats 1000000 in
theorem in5_none (o : Int) (l u : Nat) (tx : ByteArray) (t : ByteArray) (hK : (SHP.mk o l u tx []).k = 5) (h0 : t.size ≠ 0) : InAt (.mk o l u tx []) t := by
  intro cs w h
  have HS := hide h
  obtain ⟨v, rfl, hrow, ho, hlo, hhi, htx⟩ := h.open
  obtain ⟨hn, a, cap, rfl, -⟩ := hrow.at
  have HROW := hide hrow
  obtain ⟨B, hB0⟩ : ∃ B, B = w.heap.size := ⟨_, rfl⟩
  have h1 : OneS w B (SHP.mk o l u tx []) a cap (w.alloc (.cells #[.int .i64 o, .int .u8 l, .int .u8 u, .string tx, .slice a [].length cap] 24)) := ⟨(Below.refl _ _).alloc (Nat.le_of_eq hB0) _, Blk.newAt hB0 _ _⟩
  have hop := op_any _ _ _ (h.keep (hB0 ▸ h1.below))
  rw [hK] at hop
  have HOP := hide hop
  have HB0 := hide hB0
  have H0 := hide h1
  clear hop h hrow h1
  simp only [SHP.op, SHP.lo, SHP.hi, SHP.text, SHP.kids] at hn ho hlo hhi htx HROW HOP ⊢
  unfold ShVal at HOP ⊢
  go_enter Tryz.func14, Tryz.ntmps14
  go_wp2_with fail
  rw [← hB0]
  refine HOP.out.mono ?_
  rintro e w1 ⟨rfl, hb1⟩
  have H1 := hide (H0.out.step hb1)
  clear hb1 HOP H0 hB0
  have hx := H1.out.x
  have x0 := hx.cell 0; have x1 := hx.cell 1; have x2 := hx.cell 2; have x3 := hx.cell 3; have x4 := hx.cell 4
  simp only [inC, SHP.op, SHP.lo, SHP.hi, SHP.text, SHP.kids, List.getElem?_toArray, List.getElem?_cons_zero, List.getElem?_cons_succ] at x0 x1 x2 x3 x4
  clear hx
  have htl : t.toList.isEmpty = false := by
    rw [← hB_nil]
    refine hB_false fun h => h0 ?_
    have h : bytesN t = [] := h
    rw [← bytesN_length, h]; rfl
  have HR : Hid (hB (SHP.mk o l u tx []).lang t = false) := hB_false fun h => by
    rcases (sl5 hK _).1 h with h | ⟨m, e, -⟩
    · exact h0 (by rw [← bytesN_length, h]; rfl)
    · simp at e
  simp only [List.length_nil] at x4
  go_wp2
  go_ret
  refine ⟨?_, HB0.out ▸ H1.out.below⟩
  rw [HR.out]; rfl
set_option maxHeartbeats 2000000 in
theorem in5 (o : Int) (l u : Nat) (tx : ByteArray) (s : SHP) (ks0 : List SHP) (hK : (SHP.mk o l u tx (s :: ks0)).k = 5) (ih : ∀ t, t.size ≤ 1000 → InAt s t) : ∀ (n : Nat) (t : ByteArray), t.size ≤ n → t.size ≤ 1000 → InAt (.mk o l u tx (s :: ks0)) t := by
  intro n
  induction n with
  | zero =>
    intro t hn ht
    exact in5_nil o l u tx _ t hK (by omega)
  | succ n IH =>
    intro t hnn ht
    by_cases h0 : t.size = 0
    · exact in5_nil o l u tx _ t hK h0
    have htl : t.toList.isEmpty = false := by
      rw [← hB_nil]
      refine hB_false fun h => h0 ?_
      have h : bytesN t = [] := h
      rw [← bytesN_length, h]; rfl
    obtain ⟨S, hS⟩ : ∃ S, S = (SHP.mk o l u tx (s :: ks0)) := ⟨_, rfl⟩
    have HL : Hid (∀ j, 1 ≤ j → j ≤ t.size → s.lang ((bytesN t).take j) → S.lang ((bytesN t).drop j) → hB S.lang t = true) := fun j h1 h2 h3 h4 => by
      rw [hS] at h4 ⊢
      exact hB_true ((sl5_cons hK _).2 ((star_split _ _).2 (.inr ⟨j, h1, by rw [bytesN_length]; exact h2, h3, (sl5_cons hK _).1 h4⟩)))
    have HL2 : Hid ((∀ j, 1 ≤ j → j ≤ t.size → ¬ (s.lang ((bytesN t).take j) ∧ S.lang ((bytesN t).drop j))) → hB S.lang t = false) := fun h => hB_false fun h' => by
      rw [hS] at h h'
      rcases (star_split _ _).1 ((sl5_cons hK _).1 h') with h1 | ⟨j, h1, h2, h3, h4⟩
      · exact h0 (by rw [← bytesN_length, h1]; rfl)
      · exact h j h1 (by rw [← bytesN_length]; exact h2) ⟨h3, (sl5_cons hK _).2 h4⟩
    have HIH := hide IH
    rw [← hS] at HIH
    have HI := hide ih
    clear IH ih h0
    intro cs w h
    have HS := hide h
    obtain ⟨v, rfl, hrow, ho, hlo, hhi, htx⟩ := h.open
    obtain ⟨hn, a, cap, rfl, -⟩ := hrow.at
    have HROW := hide hrow
    obtain ⟨B, hB0⟩ : ∃ B, B = w.heap.size := ⟨_, rfl⟩
    have h1 : OneS w B (SHP.mk o l u tx (s :: ks0)) a cap (w.alloc (.cells #[.int .i64 o, .int .u8 l, .int .u8 u, .string tx, .slice a (ks0.length + 1) cap] 24)) := ⟨(Below.refl _ _).alloc (Nat.le_of_eq hB0) _, Blk.newAt hB0 _ _⟩
    have hop := op_any _ _ _ (h.keep (hB0 ▸ h1.below))
    rw [hK] at hop
    have HOP := hide hop
    have HB0 := hide hB0
    have H0 := hide h1
    clear hop h hrow h1
    simp only [SHP.op, SHP.lo, SHP.hi, SHP.text, SHP.kids] at hn ho hlo hhi htx HROW HOP ⊢
    unfold ShVal at HOP ⊢
    go_enter Tryz.func14, Tryz.ntmps14
    go_wp2_with fail
    rw [← hB0]
    refine HOP.out.mono ?_
    rintro e w1 ⟨rfl, hb1⟩
    have H1 := hide (H0.out.step hb1)
    clear hb1 HOP H0 hB0
    have hx := H1.out.x
    have x0 := hx.cell 0; have x1 := hx.cell 1; have x2 := hx.cell 2; have x3 := hx.cell 3; have x4 := hx.cell 4
    simp only [inC, SHP.op, SHP.lo, SHP.hi, SHP.text, SHP.kids, List.getElem?_toArray, List.getElem?_cons_zero, List.getElem?_cons_succ] at x0 x1 x2 x3 x4
    clear hx
    obtain ⟨g, f, c, e1⟩ := HROW.out.first
    obtain ⟨rfl, rfl⟩ : a = some ⟨g, f, none⟩ ∧ cap = c := by cases e1; exact ⟨rfl, rfl⟩
    obtain ⟨⟨cz, hcz, hgl, hcell⟩, -⟩ := HROW.out.uncons
    clear e1
    obtain ⟨N, hN⟩ : ∃ N, N = ks0.length + 1 := ⟨_, rfl⟩
    have hn0 : ((N : Int) == 0) = false := beq_eq_false_iff_ne.2 (by omega)
    have HC1 : Hid (Grows fun W => OneS w B S (some ⟨g, f, none⟩) cap W) := fun W W' h1 h2 => h1.step h2
    have HCD : Hid (∀ W, OneS w B S (some ⟨g, f, none⟩) cap W → OneS w B S (some ⟨g, f, none⟩) cap { W with drawn := W.drawn + 1 }) := fun W h => ⟨⟨h.below.os, h.below.tape, h.below.output, h.below.size, h.below.block⟩, h.x⟩
    obtain ⟨cs, hcs⟩ : ∃ cs : List Value, cs = [.int .i64 o, .int .u8 l, .int .u8 u, .string tx, .slice (some ⟨g, f, none⟩) (ks0.length + 1) cap] := ⟨_, rfl⟩
    have HLEN : Hid (cs.length = 5) := by rw [hcs]; rfl
    have HLENZ := hide hcz.len
    have HQS : Hid (∀ W, OneS w B S (some ⟨g, f, none⟩) cap W → ∀ j u, cs[j]? = some u → W.cell? ⟨B, 0 + j, none⟩ = some u) := fun W hW j u hu => by
      rw [Nat.zero_add, hW.x.cell j]
      rw [hcs] at hu
      rw [hS]
      simpa [inC, SHP.op, SHP.lo, SHP.hi, SHP.text, SHP.kids] using hu
    have HQK : Hid (∀ W, OneS w B S (some ⟨g, f, none⟩) cap W → W.cell? ⟨B, 4, none⟩ = some (.slice (some ⟨g, f, none⟩) N cap)) := fun W hW => by
      rw [hW.x.cell 4, hN, hS]; rfl
    have HQ1 : Hid (∀ W, OneS w B S (some ⟨g, f, none⟩) cap W → ∀ j u, cz[j]? = some u → W.cell? ⟨g, f + j, none⟩ = some u) := fun W hW j u hu => (World.cell?_of_block (w := w) (hW.below.block _ (HB0.out ▸ hgl))).trans (hcell j u hu)
    have HCZ := hide hcz
    have HS : Hid (ShC w cs S) := by rw [hcs, hS]; exact HS.out
    rw [← hS] at H1
    simp only [List.length_cons] at x4
    rw [← hN] at x4
    have HNN := hide hN
    have hNp : 1 ≤ N := by omega
    simp only [List.length_cons] at hn
    have hNl : N ≤ 9223372036854775807 := by omega
    have hSS := hide hS
    clear hcz hcell hgl hcs hN HROW hn ho hlo hhi htx hS hK
    have hG := HC1.out
    clear hG
    go_wp2
    clear x0 x1 x2 x3 x4
    go_loopw [9] (fun i wr => ∃ k : Nat, 1 ≤ k ∧ k ≤ t.size + 1 ∧ i = .int .i64 k ∧ Hid (∀ j, 1 ≤ j → j < k → ¬ (s.lang ((bytesN t).take j) ∧ S.lang ((bytesN t).drop j))) ∧ Hid (OneS w B S (some ⟨g, f, none⟩) cap wr)) (fun i _ => t.size + 1 - (intOf i).toNat)
    case atStart => exact ⟨1, by omega, by omega, rfl, (fun j h1 h2 => by omega), H1⟩
    case round =>
      clear H1
      obtain ⟨k, hk0, hk1, rfl, HN, HW⟩ := hrel
      by_cases hk : k ≤ t.size
      · have hkd : decide ((k : Int) ≤ t.size) = true := by simp; omega
        have hkd2 : decide (k ≤ t.size) = true := by simp [hk]
        obtain ⟨b1, hb1⟩ : ∃ b1, b1 = hB s.lang (t.extract 0 k) := ⟨_, rfl⟩
        have HQ2 : Hid (∀ W, OneS w B S (some ⟨g, f, none⟩) cap W → Calls Tryz.prog 14 #[ShVal cz, .string (t.extract 0 k)] W fun e w' => e = .returned (.bool b1) ∧ Below W.heap.size W w') := fun W hW => by
          rw [hb1]; exact HI.out _ (by rw [size_take _ _ hk]; omega) cz W (HCZ.out.keep (HB0.out ▸ hW.below))
        go_wp2
        have hG := HC1.out
        have hq1 := HQ1.out
        have hq2 := HQ2.out
        have hqk := HQK.out
        have hqS := HQS.out
        have hlen := HLEN.out
        have hlenz := HLENZ.out
        cases b1
        · have HF : Hid (¬ s.lang ((bytesN t).take k)) := fun h => by rw [← bytesN_take] at h; rw [hB_true h] at hb1; cases hb1
          clear hb1
          refine w_lit (C := fun W => OneS w B S (some ⟨g, f, none⟩) cap W) (by kernel_rfl) (by kernel_rfl) (HCD.out _ HW.out) ?_
          refine w_value (.pointer (some ⟨B, 4, none⟩)) (by kernel_rfl) (fun w hw => x_fieldS4 _ _ _ _ _ _ _ B rfl w) ?_
          simp only [Act.put, List.setIfInBounds_toArray, List.set_cons_succ, List.set_cons_zero]
          refine w_value (.slice (some ⟨g, f, none⟩) N cap) (by kernel_rfl) (fun w hw => x_loadSl _ _ _ _ _ _ _ B 4 _ rfl w (hqk w hw)) ?_
          simp only [Act.put, List.setIfInBounds_toArray, List.set_cons_succ, List.set_cons_zero]
          refine w_value (.pointer (some ⟨g, f, none⟩)) (by kernel_rfl) (fun w hw => x_idxSh0 _ _ _ _ _ _ _ g f N cap rfl rfl (by omega) w) ?_
          simp only [Act.put, List.setIfInBounds_toArray, List.set_cons_succ, List.set_cons_zero]
          refine w_value (ShVal cz) (by kernel_rfl) (fun w hw => x_loadSh _ _ _ _ _ _ _ g f cz rfl w hlenz (hq1 w hw)) ?_
          simp only [Act.put, List.setIfInBounds_toArray, List.set_cons_succ, List.set_cons_zero]
          refine w_value (.string t) (by kernel_rfl) (fun w hw => x_move _ _ _ _ _ _ _ _ rfl w) ?_
          simp only [Act.put, List.setIfInBounds_toArray, List.set_cons_succ, List.set_cons_zero]
          refine w_value (.int .i64 k) (by kernel_rfl) (fun w hw => x_move _ _ _ _ _ _ _ _ rfl w) ?_
          simp only [Act.put, List.setIfInBounds_toArray, List.set_cons_succ, List.set_cons_zero]
          refine w_value (.string (t.extract 0 k)) (by kernel_rfl) (fun w hw => x_strTo _ _ _ _ _ _ _ _ t k rfl rfl hk w) ?_
          simp only [Act.put, List.setIfInBounds_toArray, List.set_cons_succ, List.set_cons_zero]
          refine w_call hG 14 #[ShVal cz, .string (t.extract 0 k)] (.bool false) (by kernel_rfl) (fun w => x_call2 _ _ _ _ _ _ _ _ _ _ _ _ _ rfl rfl rfl (enters_of Tryz.func14 (by kernel_rfl) rfl) w) (fun w hw => hq2 w hw) ?_
          simp only [Act.put, List.setIfInBounds_toArray, List.set_cons_succ, List.set_cons_zero]
          refine w_value (.bool false) (by kernel_rfl) (fun w hw => x_move _ _ _ _ _ _ _ _ rfl w) ?_
          simp only [Act.put, List.setIfInBounds_toArray, List.set_cons_succ, List.set_cons_zero]
          refine w_skip (by kernel_rfl) ?_
          simp only [Act.put, List.setIfInBounds_toArray, List.set_cons_succ, List.set_cons_zero]
          refine w_skip (by kernel_rfl) ?_
          simp only [Act.put, List.setIfInBounds_toArray, List.set_cons_succ, List.set_cons_zero]
          refine w_skip (by kernel_rfl) ?_
          simp only [Act.put, List.setIfInBounds_toArray, List.set_cons_succ, List.set_cons_zero]
          refine w_skip (by kernel_rfl) ?_
          simp only [Act.put, List.setIfInBounds_toArray, List.set_cons_succ, List.set_cons_zero]
          refine w_skip (by kernel_rfl) ?_
          simp only [Act.put, List.setIfInBounds_toArray, List.set_cons_succ, List.set_cons_zero]
          refine w_value (.bool false) (by kernel_rfl) (fun w hw => x_pick _ _ _ _ _ _ _ _ _ false undef (.bool false) rfl rfl rfl w) ?_
          simp only [Act.put, List.setIfInBounds_toArray, List.set_cons_succ, List.set_cons_zero]
          refine w_nil ?_
          intro W hW
          have HWW := hide hW
          clear hW hG hq2 hq1 HQ2 hqk hqS hlen hlenz
          go_wp2
          refine ⟨⟨k + 1, by omega, by omega, by go_num, ?_, HWW⟩, by simp [intOf]; omega⟩
          intro j hj1 hj h
          by_cases hjk : j = k
          · subst hjk; exact HF.out h.1
          · exact HN.out j hj1 (by omega) h
        · have HTR : Hid (s.lang ((bytesN t).take k)) := by
            show s.lang _
            rw [← bytesN_take]; exact (hB_iff _ _).1 hb1.symm
          obtain ⟨b2, hb2⟩ : ∃ b2, b2 = hB S.lang (t.extract k t.size) := ⟨_, rfl⟩
          have hq3 : ∀ W, OneS w B S (some ⟨g, f, none⟩) cap W → Calls Tryz.prog 14 #[ShVal cs, .string (t.extract k t.size)] W fun e w' => e = .returned (.bool b2) ∧ Below W.heap.size W w' := fun W hW => by
            have hz := size_drop t k
            rw [hb2]
            exact HIH.out (t.extract k t.size) (by omega) (by omega) cs W (HS.out.keep (HB0.out ▸ hW.below))
          cases b2
          · have HF : Hid (¬ S.lang ((bytesN t).drop k)) := fun h => by rw [← bytesN_drop] at h; rw [hB_true h] at hb2; cases hb2
            clear hb1 hb2
            refine w_lit (C := fun W => OneS w B S (some ⟨g, f, none⟩) cap W) (by kernel_rfl) (by kernel_rfl) (HCD.out _ HW.out) ?_
            refine w_value (.pointer (some ⟨B, 4, none⟩)) (by kernel_rfl) (fun w hw => x_fieldS4 _ _ _ _ _ _ _ B rfl w) ?_
            simp only [Act.put, List.setIfInBounds_toArray, List.set_cons_succ, List.set_cons_zero]
            refine w_value (.slice (some ⟨g, f, none⟩) N cap) (by kernel_rfl) (fun w hw => x_loadSl _ _ _ _ _ _ _ B 4 _ rfl w (hqk w hw)) ?_
            simp only [Act.put, List.setIfInBounds_toArray, List.set_cons_succ, List.set_cons_zero]
            refine w_value (.pointer (some ⟨g, f, none⟩)) (by kernel_rfl) (fun w hw => x_idxSh0 _ _ _ _ _ _ _ g f N cap rfl rfl (by omega) w) ?_
            simp only [Act.put, List.setIfInBounds_toArray, List.set_cons_succ, List.set_cons_zero]
            refine w_value (ShVal cz) (by kernel_rfl) (fun w hw => x_loadSh _ _ _ _ _ _ _ g f cz rfl w hlenz (hq1 w hw)) ?_
            simp only [Act.put, List.setIfInBounds_toArray, List.set_cons_succ, List.set_cons_zero]
            refine w_value (.string t) (by kernel_rfl) (fun w hw => x_move _ _ _ _ _ _ _ _ rfl w) ?_
            simp only [Act.put, List.setIfInBounds_toArray, List.set_cons_succ, List.set_cons_zero]
            refine w_value (.int .i64 k) (by kernel_rfl) (fun w hw => x_move _ _ _ _ _ _ _ _ rfl w) ?_
            simp only [Act.put, List.setIfInBounds_toArray, List.set_cons_succ, List.set_cons_zero]
            refine w_value (.string (t.extract 0 k)) (by kernel_rfl) (fun w hw => x_strTo _ _ _ _ _ _ _ _ t k rfl rfl hk w) ?_
            simp only [Act.put, List.setIfInBounds_toArray, List.set_cons_succ, List.set_cons_zero]
            refine w_call hG 14 #[ShVal cz, .string (t.extract 0 k)] (.bool true) (by kernel_rfl) (fun w => x_call2 _ _ _ _ _ _ _ _ _ _ _ _ _ rfl rfl rfl (enters_of Tryz.func14 (by kernel_rfl) rfl) w) (fun w hw => hq2 w hw) ?_
            simp only [Act.put, List.setIfInBounds_toArray, List.set_cons_succ, List.set_cons_zero]
            refine w_value (.bool true) (by kernel_rfl) (fun w hw => x_move _ _ _ _ _ _ _ _ rfl w) ?_
            simp only [Act.put, List.setIfInBounds_toArray, List.set_cons_succ, List.set_cons_zero]
            refine w_value (ShVal cs) (by kernel_rfl) (fun w hw => x_loadSh _ _ _ _ _ _ _ B 0 cs rfl w hlen (hqS w hw)) ?_
            simp only [Act.put, List.setIfInBounds_toArray, List.set_cons_succ, List.set_cons_zero]
            refine w_value (.string t) (by kernel_rfl) (fun w hw => x_move _ _ _ _ _ _ _ _ rfl w) ?_
            simp only [Act.put, List.setIfInBounds_toArray, List.set_cons_succ, List.set_cons_zero]
            refine w_value (.int .i64 k) (by kernel_rfl) (fun w hw => x_move _ _ _ _ _ _ _ _ rfl w) ?_
            simp only [Act.put, List.setIfInBounds_toArray, List.set_cons_succ, List.set_cons_zero]
            refine w_value (.string (t.extract k t.size)) (by kernel_rfl) (fun w hw => x_strFrom _ _ _ _ _ _ _ _ t k rfl rfl hk w) ?_
            simp only [Act.put, List.setIfInBounds_toArray, List.set_cons_succ, List.set_cons_zero]
            refine w_call hG 14 #[ShVal cs, .string (t.extract k t.size)] (.bool false) (by kernel_rfl) (fun w => x_call2 _ _ _ _ _ _ _ _ _ _ _ _ _ rfl rfl rfl (enters_of Tryz.func14 (by kernel_rfl) rfl) w) (fun w hw => hq3 w hw) ?_
            simp only [Act.put, List.setIfInBounds_toArray, List.set_cons_succ, List.set_cons_zero]
            refine w_value (.bool false) (by kernel_rfl) (fun w hw => x_pick _ _ _ _ _ _ _ _ _ true (.bool false) (.bool false) rfl rfl rfl w) ?_
            simp only [Act.put, List.setIfInBounds_toArray, List.set_cons_succ, List.set_cons_zero]
            refine w_nil ?_
            intro W hW
            have HWW := hide hW
            clear hW hG hq2 hq3 hq1 HQ2 hqk hqS hlen hlenz
            go_wp2
            refine ⟨⟨k + 1, by omega, by omega, by go_num, ?_, HWW⟩, by simp [intOf]; omega⟩
            intro j hj1 hj h
            by_cases hjk : j = k
            · subst hjk; exact HF.out h.2
            · exact HN.out j hj1 (by omega) h
          · have HKY : Hid (hB S.lang t = true) := HL.out k hk0 hk HTR.out (by rw [← bytesN_drop]; exact (hB_iff _ _).1 hb2.symm)
            clear hb1 hb2
            refine w_lit (C := fun W => OneS w B S (some ⟨g, f, none⟩) cap W) (by kernel_rfl) (by kernel_rfl) (HCD.out _ HW.out) ?_
            refine w_value (.pointer (some ⟨B, 4, none⟩)) (by kernel_rfl) (fun w hw => x_fieldS4 _ _ _ _ _ _ _ B rfl w) ?_
            simp only [Act.put, List.setIfInBounds_toArray, List.set_cons_succ, List.set_cons_zero]
            refine w_value (.slice (some ⟨g, f, none⟩) N cap) (by kernel_rfl) (fun w hw => x_loadSl _ _ _ _ _ _ _ B 4 _ rfl w (hqk w hw)) ?_
            simp only [Act.put, List.setIfInBounds_toArray, List.set_cons_succ, List.set_cons_zero]
            refine w_value (.pointer (some ⟨g, f, none⟩)) (by kernel_rfl) (fun w hw => x_idxSh0 _ _ _ _ _ _ _ g f N cap rfl rfl (by omega) w) ?_
            simp only [Act.put, List.setIfInBounds_toArray, List.set_cons_succ, List.set_cons_zero]
            refine w_value (ShVal cz) (by kernel_rfl) (fun w hw => x_loadSh _ _ _ _ _ _ _ g f cz rfl w hlenz (hq1 w hw)) ?_
            simp only [Act.put, List.setIfInBounds_toArray, List.set_cons_succ, List.set_cons_zero]
            refine w_value (.string t) (by kernel_rfl) (fun w hw => x_move _ _ _ _ _ _ _ _ rfl w) ?_
            simp only [Act.put, List.setIfInBounds_toArray, List.set_cons_succ, List.set_cons_zero]
            refine w_value (.int .i64 k) (by kernel_rfl) (fun w hw => x_move _ _ _ _ _ _ _ _ rfl w) ?_
            simp only [Act.put, List.setIfInBounds_toArray, List.set_cons_succ, List.set_cons_zero]
            refine w_value (.string (t.extract 0 k)) (by kernel_rfl) (fun w hw => x_strTo _ _ _ _ _ _ _ _ t k rfl rfl hk w) ?_
            simp only [Act.put, List.setIfInBounds_toArray, List.set_cons_succ, List.set_cons_zero]
            refine w_call hG 14 #[ShVal cz, .string (t.extract 0 k)] (.bool true) (by kernel_rfl) (fun w => x_call2 _ _ _ _ _ _ _ _ _ _ _ _ _ rfl rfl rfl (enters_of Tryz.func14 (by kernel_rfl) rfl) w) (fun w hw => hq2 w hw) ?_
            simp only [Act.put, List.setIfInBounds_toArray, List.set_cons_succ, List.set_cons_zero]
            refine w_value (.bool true) (by kernel_rfl) (fun w hw => x_move _ _ _ _ _ _ _ _ rfl w) ?_
            simp only [Act.put, List.setIfInBounds_toArray, List.set_cons_succ, List.set_cons_zero]
            refine w_value (ShVal cs) (by kernel_rfl) (fun w hw => x_loadSh _ _ _ _ _ _ _ B 0 cs rfl w hlen (hqS w hw)) ?_
            simp only [Act.put, List.setIfInBounds_toArray, List.set_cons_succ, List.set_cons_zero]
            refine w_value (.string t) (by kernel_rfl) (fun w hw => x_move _ _ _ _ _ _ _ _ rfl w) ?_
            simp only [Act.put, List.setIfInBounds_toArray, List.set_cons_succ, List.set_cons_zero]
            refine w_value (.int .i64 k) (by kernel_rfl) (fun w hw => x_move _ _ _ _ _ _ _ _ rfl w) ?_
            simp only [Act.put, List.setIfInBounds_toArray, List.set_cons_succ, List.set_cons_zero]
            refine w_value (.string (t.extract k t.size)) (by kernel_rfl) (fun w hw => x_strFrom _ _ _ _ _ _ _ _ t k rfl rfl hk w) ?_
            simp only [Act.put, List.setIfInBounds_toArray, List.set_cons_succ, List.set_cons_zero]
            refine w_call hG 14 #[ShVal cs, .string (t.extract k t.size)] (.bool true) (by kernel_rfl) (fun w => x_call2 _ _ _ _ _ _ _ _ _ _ _ _ _ rfl rfl rfl (enters_of Tryz.func14 (by kernel_rfl) rfl) w) (fun w hw => hq3 w hw) ?_
            simp only [Act.put, List.setIfInBounds_toArray, List.set_cons_succ, List.set_cons_zero]
            refine w_value (.bool true) (by kernel_rfl) (fun w hw => x_pick _ _ _ _ _ _ _ _ _ true (.bool true) (.bool false) rfl rfl rfl w) ?_
            simp only [Act.put, List.setIfInBounds_toArray, List.set_cons_succ, List.set_cons_zero]
            refine w_nil ?_
            intro W hW
            have HWW := hide hW
            clear hW hG hq2 hq3 hq1 HQ2 hqk hqS hlen hlenz
            go_wp2
            go_ret
            refine ⟨?_, HB0.out ▸ HWW.out.below⟩
            rw [← hSS.out, HKY.out]; rfl
      · have hkd : decide ((k : Int) ≤ t.size) = false := by simp; omega
        have hkd2 : decide (k ≤ t.size) = false := by simp; omega
        have HKY : Hid (hB S.lang t = false) := HL2.out fun j h1 h2 => HN.out j h1 (by omega)
        go_wp2
        go_ret
        refine ⟨?_, HB0.out ▸ HW.out.below⟩
        rw [← hSS.out, HKY.out]; rfl

theorem hB7 {o : Int} {l u : Nat} {tx : ByteArray} {ks : List SHP} (h : (SHP.mk o l u tx ks).k = 7) (t : ByteArray) (p q : Lg) (h0 : (ks.map SHP.lang)[0]? = some p) (h1 : (∃ m, (ks.map SHP.lang)[1]? = some m ∧ m (bytesN t)) ↔ q (bytesN t)) :
    hB (SHP.mk o l u tx ks).lang t = (hB p t && !hB q t) := by
  have hl := sl7 h (bytesN t)
  rw [h0, h1] at hl
  cases h2 : hB p t with
  | false =>
    refine hB_false fun h => ?_
    obtain ⟨⟨m, e, h3⟩, -⟩ := hl.1 h
    injection e with e
    subst e
    rw [hB_true h3] at h2; cases h2
  | true =>
    cases h3 : hB q t with
    | false => exact hB_true (hl.2 ⟨⟨p, rfl, (hB_iff _ _).1 h2⟩, fun h => by rw [hB_true h] at h3; cases h3⟩)
    | true => exact hB_false fun h => (hl.1 h).2 ((hB_iff _ _).1 h3)
set_option maxHeartbeats 1000000 in
theorem in7 (o : Int) (l u : Nat) (tx : ByteArray) (ks : List SHP) (t : ByteArray) (hK : (SHP.mk o l u tx ks).k = 7) (ih : ∀ k ∈ ks, InAt k t) : InAt (.mk o l u tx ks) t := by
  intro cs w h
  have HS := hide h
  obtain ⟨v, rfl, hrow, ho, hlo, hhi, htx⟩ := h.open
  obtain ⟨hn, a, cap, rfl, -⟩ := hrow.at
  have HROW := hide hrow
  obtain ⟨B, hB0⟩ : ∃ B, B = w.heap.size := ⟨_, rfl⟩
  have h1 : OneS w B (SHP.mk o l u tx ks) a cap (w.alloc (.cells #[.int .i64 o, .int .u8 l, .int .u8 u, .string tx, .slice a ks.length cap] 24)) := ⟨(Below.refl _ _).alloc (Nat.le_of_eq hB0) _, Blk.newAt hB0 _ _⟩
  have hop := op_any _ _ _ (h.keep (hB0 ▸ h1.below))
  rw [hK] at hop
  have HOP := hide hop
  have HB0 := hide hB0
  have H0 := hide h1
  clear hop h hrow h1
  simp only [SHP.op, SHP.lo, SHP.hi, SHP.text, SHP.kids] at hn ho hlo hhi htx HROW HOP ⊢
  unfold ShVal at HOP ⊢
  go_enter Tryz.func14, Tryz.ntmps14
  go_wp2_with fail
  rw [← hB0]
  refine HOP.out.mono ?_
  rintro e w1 ⟨rfl, hb1⟩
  have H1 := hide (H0.out.step hb1)
  clear hb1 HOP H0 hB0
  have hx := H1.out.x
  have x0 := hx.cell 0; have x1 := hx.cell 1; have x2 := hx.cell 2; have x3 := hx.cell 3; have x4 := hx.cell 4
  simp only [inC, SHP.op, SHP.lo, SHP.hi, SHP.text, SHP.kids, List.getElem?_toArray, List.getElem?_cons_zero, List.getElem?_cons_succ] at x0 x1 x2 x3 x4
  clear hx
  cases ks with
  | nil =>
    have HR : Hid (hB (SHP.mk o l u tx []).lang t = false) := hB_false fun h => by
      obtain ⟨⟨m, e, -⟩, -⟩ := (sl7 hK _).1 h
      simp at e
    simp only [List.length_nil] at x4
    go_wp2
    go_ret
    refine ⟨?_, HB0.out ▸ H1.out.below⟩
    rw [HR.out]; rfl
  | cons x ks =>
    obtain ⟨g, f, c, e1⟩ := HROW.out.first
    obtain ⟨rfl, rfl⟩ : a = some ⟨g, f, none⟩ ∧ cap = c := by cases e1; exact ⟨rfl, rfl⟩
    clear e1
    simp only [List.length_cons] at x4 hn
    obtain ⟨-, a', cap', e1, g1⟩ := (HROW.out.keep (show Below w.heap.size w w1 from HB0.out ▸ H1.out.below)).at
    obtain ⟨rfl, rfl⟩ : some ⟨g, f, none⟩ = a' ∧ cap = cap' := by cases e1; exact ⟨rfl, rfl⟩
    obtain ⟨b, off, kv, e2, -, ⟨c0, c1, c2, c3, c4⟩, hC⟩ := g1 0 (by simp)
    obtain ⟨rfl, rfl⟩ : g = b ∧ f = off := by cases e2; exact ⟨rfl, rfl⟩
    simp only [List.getElem_cons_zero, Nat.zero_mul, Nat.add_zero] at c0 c1 c2 c3 c4 hC
    have hd0 : decide (0 < ks.length + 1) = true := by simp
    have hd1 : decide ((0 : Int) < (ks.length : Int) + 1) = true := by simp only [decide_eq_true_eq]; omega
    have he := ih x (by simp) _ w1 hC
    obtain ⟨q1, hq1⟩ : ∃ q1, q1 = hB x.lang t := ⟨_, rfl⟩
    rw [← hq1] at he
    have HE := hide he
    clear he
    have HQ1 := hide hq1
    have HIH := hide ih
    clear hC g1 e1 e2 ih hq1
    unfold ShVal at HE
    go_wp2_with fail
    refine HE.out.mono ?_
    rintro e w2 ⟨rfl, hb2⟩
    have H2 := hide (H1.out.step hb2)
    clear hb2 HE H1 x0 x1 x2 x3 x4 c0 c1 c2 c3 c4
    have y4 := H2.out.x.cell 4
    simp only [inC, SHP.op, SHP.lo, SHP.hi, SHP.text, SHP.kids, List.getElem?_toArray, List.getElem?_cons_zero, List.getElem?_cons_succ, List.length_cons] at y4
    cases q1
    · have HR : Hid (hB (SHP.mk o l u tx (x :: ks)).lang t = false) := hB_false fun h => by
        obtain ⟨⟨m, e, h3⟩, -⟩ := (sl7 hK _).1 h
        have e : some x.lang = some m := e
        injection e with e
        rw [← e] at h3
        have := HQ1.out
        rw [hB_true h3] at this; cases this
      go_wp2
      go_ret
      refine ⟨?_, HB0.out ▸ H2.out.below⟩
      rw [HR.out]; rfl
    · cases ks with
      | nil =>
        have HR : Hid (hB (SHP.mk o l u tx [x]).lang t = true) := by
          show _ = _
          rw [hB7 hK t x.lang (fun _ => False) rfl (by simp), ← HQ1.out, hB_false (l := fun _ => False) id]; rfl
        simp only [List.length_nil, Nat.zero_add] at y4
        go_wp2
        go_ret
        refine ⟨?_, HB0.out ▸ H2.out.below⟩
        rw [HR.out]; rfl
      | cons y ks =>
        obtain ⟨-, a', cap', e1, g1⟩ := (HROW.out.keep (show Below w.heap.size w w2 from HB0.out ▸ H2.out.below)).at
        obtain ⟨rfl, rfl⟩ : some ⟨g, f, none⟩ = a' ∧ cap = cap' := by cases e1; exact ⟨rfl, rfl⟩
        obtain ⟨b, off, kv, e2, -, ⟨c0, c1, c2, c3, c4⟩, hC⟩ := g1 1 (by simp)
        obtain ⟨rfl, rfl⟩ : g = b ∧ f = off := by cases e2; exact ⟨rfl, rfl⟩
        simp only [List.getElem_cons_zero, List.getElem_cons_succ, Nat.one_mul, Nat.add_assoc, Nat.reduceAdd] at c0 c1 c2 c3 c4 hC
        simp only [List.length_cons] at y4 hn
        have hd2 : decide ((1 : Int) < (ks.length : Int) + 1 + 1) = true := by simp only [decide_eq_true_eq]; omega
        have hd3 : decide (1 < ks.length + 1 + 1) = true := by simp
        have he := HIH.out y (by simp) _ w2 hC
        obtain ⟨q2, hq2⟩ : ∃ q2, q2 = hB y.lang t := ⟨_, rfl⟩
        rw [← hq2] at he
        have HE := hide he
        clear he
        have HR : Hid (hB (SHP.mk o l u tx (x :: y :: ks)).lang t = !q2) := by
          show _ = _
          rw [hB7 hK t x.lang y.lang rfl (by simp), ← HQ1.out, ← hq2]; rfl
        clear hC g1 e1 e2 hq2 hd0 hd1
        unfold ShVal at HE
        go_wp2_with fail
        refine HE.out.mono ?_
        rintro e w3 ⟨rfl, hb2⟩
        have H3 := hide (H2.out.step hb2)
        clear hb2 HE H2 y4 c0 c1 c2 c3 c4
        go_wp2
        go_ret
        refine ⟨?_, HB0.out ▸ H3.out.below⟩
        rw [HR.out]; rfl
theorem shIn_any (s : SHP) : ∀ t, t.size ≤ 1000 → InAt s t := by
  refine SHP.ind (P := fun s => ∀ t, t.size ≤ 1000 → InAt s t) ?_ s
  intro o l u tx ks ih t ht
  have ho : (SHP.mk o l u tx ks).k < 9 := by unfold SHP.k; omega
  obtain h | h | h | h | h | h | h | h | h : (SHP.mk o l u tx ks).k = 0 ∨ (SHP.mk o l u tx ks).k = 1 ∨ (SHP.mk o l u tx ks).k = 2 ∨ (SHP.mk o l u tx ks).k = 3 ∨ (SHP.mk o l u tx ks).k = 4 ∨ (SHP.mk o l u tx ks).k = 5 ∨ (SHP.mk o l u tx ks).k = 6 ∨ (SHP.mk o l u tx ks).k = 7 ∨ (SHP.mk o l u tx ks).k = 8 := by omega
  · exact in0 o l u tx ks t h
  · exact in1 o l u tx ks t h
  · exact in2 o l u tx ks t h
  · exact in3 o l u tx ks t h ht fun k hk t' ht' => ih k hk t' (by omega)
  · exact in4 o l u tx ks t h fun k hk => ih k hk t ht
  · by_cases h0 : t.size = 0
    · exact in5_nil o l u tx ks t h h0
    · cases ks with
      | nil => exact in5_none o l u tx t h h0
      | cons s ks => exact in5 o l u tx s ks h (ih s (by simp)) _ t (Nat.le_refl _) ht
  · exact in6 o l u tx ks t h fun k hk => ih k hk t ht
  · exact in7 o l u tx ks t h fun k hk => ih k hk t ht
  · exact in8 o l u tx ks t h
end Go.Proofs.YthlannjipbohkaaGreatDoor
/- Shapes that came in. -/
namespace Go.Proofs.YthlannjipbohkaaGreatDoor
set_option maxRecDepth 100000
open Go.ChangeShapes Go.WideShapes Go.ChangeAt Go.WideMaps Go.WideElems Go.RowKit

theorem open_shape {H : Type} {enc : TypeId × Value → H} {w : World} {r : Reach} {b0 base : Nat} {sp : Nat → Bool} {held : Bool} {v : Value} {d : DataW H} {p : List MemPlace}
    (hv : Value.okWide Tryz.prog w r b0 24 v) (h : DataW.Trod enc Tryz.prog w base sp held 24 v d p) : ∃ s cs, v = ShVal cs ∧ ShC w cs s := by
  obtain ⟨cs, rfl, -⟩ := okWide_struct Tryz.underlying24 hv
  obtain ⟨fuel, hf⟩ := h
  obtain ⟨s, hs⟩ := open_shapeF fuel _ _ hf
  exact ⟨s, cs.toList, by simp [ShVal], hs⟩
theorem open_shapes {H : Type} {enc : TypeId × Value → H} {w : World} {r : Reach} {b0 base : Nat} {sp : Nat → Bool} {held : Bool} {v : Value} {d : DataW H} {p : List MemPlace}
    (hv : Value.okWide Tryz.prog w r b0 22 v) (h : DataW.Trod enc Tryz.prog w base sp held 22 v d p) : ∃ ks, ShsRow w v ks := by
  obtain ⟨a, len, cap, rfl⟩ := okWide_slice Tryz.underlying22 hv
  obtain ⟨fuel, hf⟩ := h
  exact open_shapesF (fun n _ cs y hy => open_shapeF n cs y hy) hf
end Go.Proofs.YthlannjipbohkaaGreatDoor
/- A slice of ints that came in; the text of few letters. -/
namespace Go.Proofs.YthlannjipbohkaaGreatDoor
set_option maxRecDepth 100000
set_option linter.unusedSimpArgs false
set_option linter.unusedVariables false
open Go.RowKit

theorem x_eqBoolB (ρ : Operand → Value) (d : Option Tmp) (x y : Operand) (t : TypeId) (pos : String) (af : Array Edge) (g : Option (Nat × Bool)) (u v : Bool) (h : (u == v) = true) (hx : ρ x = .bool u) (hy : ρ y = .bool v) (w : World) :
    (execOp ρ { dst := d, op := .binOp .eql 4 x y 4, type := t, pos := pos, after := af, guard := g }).run Tryz.prog w = .ok (.value (.bool true)) w := by
  rw [← h]; exact x_eqBool ρ d x y t pos af g u v hx hy w
/-- A slice of ints that came in. -/
def IntRow (w : World) (v : Value) (n : Nat) : Prop := n ≤ 9223372036854775807 ∧ ∃ a cap, v = .slice a n cap ∧ ∀ k, k < n → ∃ b off z, a = some ⟨b, off, none⟩ ∧ b < w.heap.size ∧ w.cell? ⟨b, off + k, none⟩ = some (.int .i64 z)
theorem IntRow.keep {w w' : World} {v : Value} {n : Nat} (h : IntRow w v n) (hb : Below w.heap.size w w') : IntRow w' v n := by
  obtain ⟨h0, a, cap, rfl, h1⟩ := h
  refine ⟨h0, a, cap, rfl, fun k hk => ?_⟩
  obtain ⟨b, off, z, e, hlt, hc⟩ := h1 k hk
  exact ⟨b, off, z, e, Nat.lt_of_lt_of_le hlt hb.size, (World.cell?_of_block (w := w) (hb.block b hlt)).trans hc⟩
section
open Go.ChangeShapes Go.WideShapes Go.ChangeAt Go.WideMaps Go.WideElems
theorem open_introw {H : Type} {enc : TypeId × Value → H} {w : World} {r : Reach} {b0 base : Nat} {sp : Nat → Bool} {held : Bool} {v : Value} {d : DataW H} {p : List MemPlace}
    (hv : Value.okWide Tryz.prog w r b0 25 v) (h : DataW.Trod enc Tryz.prog w base sp held 25 v d p) : ∃ n, IntRow w v n := by
  obtain ⟨a, len, cap, rfl⟩ := okWide_slice Tryz.underlying25 hv
  obtain ⟨fuel, hf⟩ := h
  rcases open_ints Tryz.underlying25 Tryz.underlying3 cellsI hf with ⟨hcs, _⟩ | ⟨x, l, c, zs, hcs, _, hl, hm, hz, _, hcell, hwz⟩
  · simp [Value.cells] at hcs
    obtain ⟨rfl, rfl, rfl⟩ := hcs
    exact ⟨0, by omega, none, 0, rfl, fun k hk => by omega⟩
  · simp [Value.cells] at hcs
    obtain ⟨rfl, rfl, rfl⟩ := hcs
    have hlen : len ≤ zs.length := by rw [hz]; split <;> omega
    unfold maxLen at hm
    refine ⟨len, by omega, some x, cap, rfl, fun k hk => ?_⟩
    obtain ⟨b, off, rfl, hc⟩ := ints_at hcell (show 0 < zs.length by omega)
    exact ⟨b, off, _, rfl, World.block_lt_of_cell? _ _ (hc k (by omega)), hc k (by omega)⟩
end
theorem i64_and3 (n : Int) : bits .and .i64 n 3 = n % 4 := by
  have h3 : (BitVec.ofInt 64 3).toNat = 2 ^ 2 - 1 := by decide
  have key : (BitVec.ofInt 64 n &&& BitVec.ofInt 64 3).toNat = (n % ((2 ^ 64 : Nat) : Int)).toNat % 2 ^ 2 := by
    rw [BitVec.toNat_and, BitVec.toNat_ofInt, h3, Nat.and_two_pow_sub_one_eq_mod]
  show IntKind.i64.wrap ((BitVec.ofInt 64 n &&& BitVec.ofInt 64 3).toNat : Nat) = n % 4
  rw [key, IntKind.wrap_i64]
  omega
theorem one_byte (W : World) (a : Int) : (convert 77 9 (.slice (some ⟨W.heap.size, 0, none⟩) 1 1)).run Tryz.prog (W.alloc (.cells #[.int .u8 a] 5)) = .ok (.string (strOfNums [a])) (W.alloc (.cells #[.int .u8 a] 5)) := by
  refine run_convert_bytes_arg _ 77 5 Tryz.underlying77 Tryz.underlying5 _ 0 1 1 [a] rfl ?_ 9 Tryz.underlying9
  intro i hi
  rw [(Blk.new W _ _).cell]
  match i, hi with
  | 0, _ => rfl

set_option maxHeartbeats 1000000 in
theorem some_any (n : Nat) (v : Value) (w : World) (hn : n ≤ 6) (h : IntRow w v n) : Calls Tryz.prog 10 #[v] w fun e w' => ∃ t : ByteArray, e = .returned (.string t) ∧ t.size = n ∧ Below w.heap.size w w' := by
  have HI := hide h
  obtain ⟨-, a, cap, rfl, -⟩ := h
  obtain ⟨B, hB⟩ : ∃ B, B = w.heap.size := ⟨_, rfl⟩
  have HB := hide hB
  rw [← hB]
  clear hB
  go_enter Tryz.func10, Tryz.ntmps10
  go_wp2
  go_loopw [3, 8] (fun q i wr => ∃ (k : Nat) (t : ByteArray), k ≤ n ∧ i = .int .i64 k ∧ q = .string t ∧ t.size = k ∧ Hid (Below B w wr)) (fun _ i _ => n - (intOf i).toNat)
  case atStart => exact ⟨0, ⟨#[]⟩, by omega, rfl, rfl, rfl, Below.refl _ _⟩
  case round =>
    obtain ⟨k, t, hk, rfl, rfl, ht, HW⟩ := hrel
    have hBW : B ≤ wr.heap.size := by rw [HB.out]; exact (HB.out ▸ HW.out).size
    by_cases hlt : k < n
    · have hkd : decide (k < n) = true := by simp [hlt]
      obtain ⟨-, a', cap', e1, g1⟩ := HI.out.keep (show Below w.heap.size w wr from HB.out ▸ HW.out)
      obtain ⟨rfl, rfl⟩ : a = a' ∧ cap = cap' := by cases e1; exact ⟨rfl, rfl⟩
      obtain ⟨b, off, z, rfl, -, hc⟩ := g1 k hlt
      clear g1 e1
      obtain ⟨m, hm, hz⟩ : ∃ m : Nat, m < 4 ∧ bits .and .i64 z 3 = (m : Int) := ⟨(z % 4).toNat, by omega, by rw [i64_and3]; omega⟩
      have e8 : IntKind.u8.wrap (m : Int) = (m : Int) := by simp [IntKind.wrap, IntKind.signed, IntKind.bits]; omega
      have e9 : IntKind.u8.wrap (97 + (m : Int)) = ((97 + m : Nat) : Int) := by simp [IntKind.wrap, IntKind.signed, IntKind.bits]; omega
      obtain ⟨d, hd⟩ : ∃ d : Nat, d = 97 + m := ⟨_, rfl⟩
      rw [← hd] at e9
      have hcv := one_byte wr (d : Int)
      have hst : (strOfNums [(d : Int)]).size = 1 := by rw [strOfNums_size]; rfl
      generalize strOfNums [(d : Int)] = tt at *
      have HT : Hid ((t ++ tt).size = k + 1) := by show _ = _; rw [ByteArray.size_append, hst, ht]
      have ht6 : t.size ≤ 6 := by omega
      have htt : tt.size ≤ 1 := by omega
      clear ht hst hd
      go_wp2
      refine ⟨⟨k + 1, t ++ tt, by omega, by go_num, rfl, HT.out, HW.out.alloc hBW _⟩, by simp [intOf]; omega⟩
    · obtain rfl : k = n := by omega
      have HT := hide ht
      clear ht
      go_wp2
      go_ret
      exact ⟨t, rfl, HT.out, HW.out⟩

end Go.Proofs.YthlannjipbohkaaGreatDoor
