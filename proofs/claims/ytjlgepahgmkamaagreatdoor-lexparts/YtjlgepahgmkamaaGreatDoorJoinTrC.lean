/- Texts of this claim put together: LxA, TrC. -/
import Derived.Test.YtjlgepahgmkamaaGreatDoorJoinStrL
import Derived.Test.YtjlgepahgmkamaaGreatDoorJoinTwB
import Derived.Test.YtjlgepahgmkamaaGreatDoorJoinMathOrd
/- Letter, reserved, Name. -/
namespace Go.Proofs.YtjlgepahgmkamaaGreatDoor
set_option maxRecDepth 100000
set_option linter.unusedSimpArgs false
set_option linter.unusedVariables false
open Go.RowKit Go.Shelf

/-- May a byte stand in a name: ahead of all others, or behind? -/
def letB (c : Nat) (f : Bool) : Bool := (decide (97 ≤ c) && decide (c ≤ 122)) || decide (c = 95) || (!f && decide (48 ≤ c) && decide (c ≤ 57))
set_option maxHeartbeats 4000000 in
theorem lexLetter_any (c : Nat) (hc : c < 256) (f : Bool) (w : World) :
    Calls Tryz.prog 13 #[.int .u8 c, .bool f] w fun e w' => e = .returned (.bool (letB c f)) ∧ w' = w := by
  obtain ⟨p1, h1⟩ : ∃ p, decide ((97 : Int) ≤ c) = p := ⟨_, rfl⟩
  obtain ⟨p2, h2⟩ : ∃ p, decide ((c : Int) ≤ 122) = p := ⟨_, rfl⟩
  obtain ⟨p3, h3⟩ : ∃ p, ((c : Int) == 95) = p := ⟨_, rfl⟩
  obtain ⟨p4, h4⟩ : ∃ p, decide ((48 : Int) ≤ c) = p := ⟨_, rfl⟩
  obtain ⟨p5, h5⟩ : ∃ p, decide ((c : Int) ≤ 57) = p := ⟨_, rfl⟩
  have e : letB c f = ((p1 && p2) || p3 || (!f && p4 && p5)) := by
    rw [← h1, ← h2, ← h3, ← h4, ← h5]
    unfold letB
    have k1 : decide ((97 : Int) ≤ c) = decide (97 ≤ c) := by simp; omega
    have k2 : decide ((c : Int) ≤ 122) = decide (c ≤ 122) := by simp; omega
    have k3 : ((c : Int) == 95) = decide (c = 95) := by by_cases h : c = 95 <;> simp [h] <;> omega
    have k4 : decide ((48 : Int) ≤ c) = decide (48 ≤ c) := by simp; omega
    have k5 : decide ((c : Int) ≤ 57) = decide (c ≤ 57) := by simp; omega
    rw [k1, k2, k3, k4, k5]
  rw [e]
  have k1 : decide (97 ≤ c) = p1 := by rw [← h1]; simp; omega
  have k2 : decide (c ≤ 122) = p2 := by rw [← h2]; simp; omega
  have k4 : decide (48 ≤ c) = p4 := by rw [← h4]; simp; omega
  have k5 : decide (c ≤ 57) = p5 := by rw [← h5]; simp; omega
  clear e
  go_enter Tryz.func13, Tryz.ntmps13
  cases p1 with
  | true =>
    cases p2 with
    | true => go_wp2; go_ret; exact ⟨rfl, rfl⟩
    | false =>
      cases p3 with
      | true => go_wp2; go_ret; exact ⟨rfl, rfl⟩
      | false =>
        cases f with
        | true => go_wp2; go_ret; exact ⟨rfl, rfl⟩
        | false =>
          cases p4 with
          | false => go_wp2; go_ret; exact ⟨rfl, rfl⟩
          | true => cases p5 <;> (go_wp2; go_ret; exact ⟨rfl, rfl⟩)
  | false =>
    cases p3 with
    | true => go_wp2; go_ret; exact ⟨by cases p2 <;> rfl, rfl⟩
    | false =>
      cases f with
      | true => go_wp2; go_ret; exact ⟨by cases p2 <;> rfl, rfl⟩
      | false =>
        cases p4 with
        | false => go_wp2; go_ret; exact ⟨by cases p2 <;> rfl, rfl⟩
        | true => cases p5 <;> (go_wp2; go_ret; exact ⟨by cases p2 <;> rfl, rfl⟩)
/-- The words of the language. -/
def wordsN : List (List Nat) := [[108, 101, 116], [105, 110], [99, 111, 112, 121], [107, 101, 121], [99, 111, 110, 115, 116], [100, 101, 108], [105, 110, 115], [115, 119, 97, 112], [105, 110, 118], [100, 105, 99, 116], [108, 101, 102, 116], [114, 105, 103, 104, 116], [107, 101, 101, 112], [110, 111, 114, 109]]
/-- May a text be a name? (its bytes) -/
def nameB (l : List Nat) : Bool := decide (l ≠ []) && decide (l.length ≤ 30) && !decide (l ∈ wordsN) && letB (l.headD 0) true && l.tail.all fun c => letB c false
/-- The first k bytes. -/
def okK (l : List Nat) (k : Nat) : Prop := ∀ j, j < k → ∀ c, l[j]? = some c → letB c (decide (j = 0)) = true
end Go.Proofs.YtjlgepahgmkamaaGreatDoor
/- The reader in memory: fail, end, here, sign, byte, counted. -/
namespace Go.Proofs.YtjlgepahgmkamaaGreatDoor
set_option maxRecDepth 100000
set_option linter.unusedSimpArgs false
set_option linter.unusedVariables false
open Go.RowKit

/-- All but one block is as it was. -/
structure Aside (p : Nat) (W W' : World) : Prop where
  os : W'.os = W.os
  tape : W'.tape = W.tape
  output : W'.output = W.output
  size : W.heap.size ≤ W'.heap.size
  block : ∀ k, k < W.heap.size → k ≠ p → W'.heap[k]? = W.heap[k]?
theorem Aside.refl (p : Nat) (W : World) : Aside p W W := ⟨rfl, rfl, rfl, Nat.le_refl _, fun _ _ _ => rfl⟩
theorem Aside.trans {p : Nat} {A B C : World} (h : Aside p A B) (k : Aside p B C) : Aside p A C :=
  ⟨k.os.trans h.os, k.tape.trans h.tape, k.output.trans h.output, Nat.le_trans h.size k.size, fun i hi hp => (k.block i (Nat.lt_of_lt_of_le hi h.size) hp).trans (h.block i hi hp)⟩
theorem Aside.of_below {p : Nat} {A B : World} (h : Below A.heap.size A B) : Aside p A B := ⟨h.os, h.tape, h.output, h.size, fun k hk _ => h.block k hk⟩
theorem Aside.set {p : Nat} (W : World) (i : Nat) (v : Value) : Aside p W (W.setCell ⟨p, i, none⟩ v) :=
  ⟨rfl, rfl, rfl, by simp [World.setCell], fun k _ hk => Below.heap_setCell _ _ _ _ hk⟩
theorem Aside.below {p B : Nat} {W W' : World} (h : Aside p W W') (hB : B ≤ W.heap.size) (hp : B ≤ p) : Below B W W' := ⟨h.os, h.tape, h.output, h.size, fun k hk => h.block k (by omega) (by omega)⟩

/-- The reader's cells. -/
def rdC (s : ByteArray) (a d c e h : Nat) : Array Value := #[.string s, .int .i64 a, .int .i64 d, .int .i64 c, .int .i64 e, .int .i64 h]
structure RdAt (w : World) (p : Nat) (s : ByteArray) (st : St) : Prop where
  blk : Blk w p (rdC s (s.size - st.rest.length) st.deep st.cnt st.err st.wh) 119
  suf : st.rest = (bytesN s).drop (s.size - st.rest.length)
  len : st.rest.length ≤ s.size
  big : s.size ≤ 65536
theorem RdAt.keep {w w' : World} {p : Nat} {s : ByteArray} {st : St} (h : RdAt w p s st) (hb : Below w.heap.size w w') : RdAt w' p s st := ⟨h.blk.below hb h.blk.lt, h.suf, h.len, h.big⟩
/-- What an expression reads is no reader. -/
theorem ReAt.aside {w w' : World} {p b : Nat} {s : ByteArray} {st : St} {r : RE} (h : ReAt w b r) (hp : RdAt w p s st) (ha : Aside p w w') : ReAt w' b r := by
  induction h with
  | mk b o s0 ks v bs blk row kid ih =>
    have hbp : b ≠ p := fun e => by
      subst e
      have := blk.of_cells.symm.trans hp.blk.of_cells
      injection this with this
      injection this with h1 h2
      simp [reC, rdC] at h1
    refine .mk b o s0 ks v bs ((ha.block b blk.lt hbp).trans blk) ?_ ih
    obtain ⟨h1, a, cap, rfl, h2⟩ := row
    refine ⟨⟨h1.1, h1.2.keep ha.size⟩, a, cap, rfl, fun k hk => ?_⟩
    obtain ⟨b', off, e, hlt, hcell⟩ := h2 k hk
    refine ⟨b', off, e, Nat.lt_of_lt_of_le hlt ha.size, ?_⟩
    rw [← hcell]
    refine World.cell?_of_block (w := w) (ha.block b' hlt fun e => ?_)
    subst e
    rw [hp.blk.cell] at hcell
    have hmem := Array.mem_of_getElem? hcell
    simp [rdC, PT] at hmem
theorem TabAt.aside {w w' : World} {p : Nat} {s : ByteArray} {st : St} (h : TabAt w) (hp : RdAt w p s st) (ha : Aside p w w') : TabAt w' := fun j hj => by
  have hc := h j hj
  rw [← hc]
  refine World.cell?_of_block (w := w) (ha.block _ (World.block_lt_of_cell? _ _ hc) fun e => ?_)
  have e : 1 = p := e
  rw [e, hp.blk.cell] at hc
  have hmem := Array.mem_of_getElem? hc
  simp [rdC] at hmem
theorem x_fieldR0 (ρ : Operand → Value) (d : Option Tmp) (x : Operand) (t : TypeId) (pos : String) (af : Array Edge) (g : Option (Nat × Bool)) (b : Nat) (hx : ρ x = PT b) (w : World) :
    (execOp ρ { dst := d, op := .fieldAddr 119 x 0, type := t, pos := pos, after := af, guard := g }).run Tryz.prog w = .ok (.value (.pointer (some ⟨b, 0, none⟩))) w := by
  simp [go_sem, hx, PT]
theorem x_fieldR1 (ρ : Operand → Value) (d : Option Tmp) (x : Operand) (t : TypeId) (pos : String) (af : Array Edge) (g : Option (Nat × Bool)) (b : Nat) (hx : ρ x = PT b) (w : World) :
    (execOp ρ { dst := d, op := .fieldAddr 119 x 1, type := t, pos := pos, after := af, guard := g }).run Tryz.prog w = .ok (.value (.pointer (some ⟨b, 1, none⟩))) w := by
  simp [go_sem, hx, PT]
theorem x_fieldR4 (ρ : Operand → Value) (d : Option Tmp) (x : Operand) (t : TypeId) (pos : String) (af : Array Edge) (g : Option (Nat × Bool)) (b : Nat) (hx : ρ x = PT b) (w : World) :
    (execOp ρ { dst := d, op := .fieldAddr 119 x 4, type := t, pos := pos, after := af, guard := g }).run Tryz.prog w = .ok (.value (.pointer (some ⟨b, 4, none⟩))) w := by
  simp [go_sem, hx, PT]
theorem x_fieldR5 (ρ : Operand → Value) (d : Option Tmp) (x : Operand) (t : TypeId) (pos : String) (af : Array Edge) (g : Option (Nat × Bool)) (b : Nat) (hx : ρ x = PT b) (w : World) :
    (execOp ρ { dst := d, op := .fieldAddr 119 x 5, type := t, pos := pos, after := af, guard := g }).run Tryz.prog w = .ok (.value (.pointer (some ⟨b, 5, none⟩))) w := by
  simp [go_sem, hx, PT]
theorem x_loadStr (ρ : Operand → Value) (d : Option Tmp) (x : Operand) (t : TypeId) (pos : String) (af : Array Edge) (g : Option (Nat × Bool)) (b n : Nat) (v : ByteArray) (hx : ρ x = .pointer (some ⟨b, n, none⟩)) (w : World) (hc : w.cell? ⟨b, n, none⟩ = some (.string v)) :
    (execOp ρ { dst := d, op := .load 9 x, type := t, pos := pos, after := af, guard := g }).run Tryz.prog w = .ok (.value (.string v)) w := by
  simp [go_sem, hx, hc]
theorem x_loadErr (ρ : Operand → Value) (d : Option Tmp) (x : Operand) (t : TypeId) (pos : String) (af : Array Edge) (g : Option (Nat × Bool)) (b n : Nat) (v : Int) (hx : ρ x = .pointer (some ⟨b, n, none⟩)) (w : World) (hc : w.cell? ⟨b, n, none⟩ = some (.int .i64 v)) :
    (execOp ρ { dst := d, op := .load 39 x, type := t, pos := pos, after := af, guard := g }).run Tryz.prog w = .ok (.value (.int .i64 v)) w := by
  simp [go_sem, hx, hc]
theorem x_lssB (ρ : Operand → Value) (d : Option Tmp) (x y : Operand) (t : TypeId) (pos : String) (af : Array Edge) (g : Option (Nat × Bool)) (u v : Int) (c : Bool) (h : decide (u < v) = c) (hx : ρ x = .int .i64 u) (hy : ρ y = .int .i64 v) (w : World) :
    (execOp ρ { dst := d, op := .binOp .lss 3 x y 3, type := t, pos := pos, after := af, guard := g }).run Tryz.prog w = .ok (.value (.bool c)) w := by
  rw [← h]; simp [go_sem, hx, hy]
theorem x_geqB (ρ : Operand → Value) (d : Option Tmp) (x y : Operand) (t : TypeId) (pos : String) (af : Array Edge) (g : Option (Nat × Bool)) (u v : Int) (c : Bool) (h : decide (v ≤ u) = c) (hx : ρ x = .int .i64 u) (hy : ρ y = .int .i64 v) (w : World) :
    (execOp ρ { dst := d, op := .binOp .geq 3 x y 3, type := t, pos := pos, after := af, guard := g }).run Tryz.prog w = .ok (.value (.bool c)) w := by
  rw [← h]; simp [go_sem, hx, hy]
theorem x_eqU8B (ρ : Operand → Value) (d : Option Tmp) (x y : Operand) (t : TypeId) (pos : String) (af : Array Edge) (g : Option (Nat × Bool)) (u v : Int) (c : Bool) (h : (u == v) = c) (hx : ρ x = .int .u8 u) (hy : ρ y = .int .u8 v) (w : World) :
    (execOp ρ { dst := d, op := .binOp .eql 5 x y 5, type := t, pos := pos, after := af, guard := g }).run Tryz.prog w = .ok (.value (.bool c)) w := by
  rw [← h]; simp [go_sem, hx, hy]
theorem x_lenS (ρ : Operand → Value) (d : Option Tmp) (x : Operand) (ty : TypeId) (pos : String) (af : Array Edge) (g : Option (Nat × Bool)) (t : ByteArray) (hx : ρ x = .string t) (w : World) :
    (execOp ρ { dst := d, op := .call { callee := .builtin .len, args := #[x], argTypes := #[9] }, type := ty, pos := pos, after := af, guard := g }).run Tryz.prog w = .ok (.value (.int .i64 t.size)) w := by
  simp [go_sem, hx]
theorem x_strFrom (ρ : Operand → Value) (d : Option Tmp) (x y : Operand) (ty : TypeId) (pos : String) (af : Array Edge) (g : Option (Nat × Bool)) (t : ByteArray) (i : Nat) (hx : ρ x = .string t) (hy : ρ y = .int .i64 i) (h1 : i ≤ t.size) (w : World) :
    (execOp ρ { dst := d, op := .slice 9 x (some y) none none, type := ty, pos := pos, after := af, guard := g }).run Tryz.prog w = .ok (.value (.string (t.extract i t.size))) w := by
  simp [go_sem, hx, hy, h1]
theorem x_ext0 (ρ : Operand → Value) (d : Option Tmp) (x : Operand) (ty : TypeId) (pos : String) (af : Array Edge) (g : Option (Nat × Bool)) (u v : Value) (hx : ρ x = .tuple #[u, v]) (w : World) :
    (execOp ρ { dst := d, op := .extract x 0, type := ty, pos := pos, after := af, guard := g }).run Tryz.prog w = .ok (.value u) w := by
  simp [go_sem, hx]
theorem x_ext1 (ρ : Operand → Value) (d : Option Tmp) (x : Operand) (ty : TypeId) (pos : String) (af : Array Edge) (g : Option (Nat × Bool)) (u v : Value) (hx : ρ x = .tuple #[u, v]) (w : World) :
    (execOp ρ { dst := d, op := .extract x 1, type := ty, pos := pos, after := af, guard := g }).run Tryz.prog w = .ok (.value v) w := by
  simp [go_sem, hx]

theorem RdAt.cells {w : World} {p : Nat} {s : ByteArray} {st : St} (h : RdAt w p s st) :
    w.cell? ⟨p, 0, none⟩ = some (.string s) ∧ w.cell? ⟨p, 1, none⟩ = some (.int .i64 (s.size - st.rest.length : Nat)) ∧ w.cell? ⟨p, 2, none⟩ = some (.int .i64 st.deep) ∧ w.cell? ⟨p, 3, none⟩ = some (.int .i64 st.cnt) ∧ w.cell? ⟨p, 4, none⟩ = some (.int .i64 st.err) ∧ w.cell? ⟨p, 5, none⟩ = some (.int .i64 st.wh) ∧ ∀ i, w.frozen? ⟨p, i, none⟩ = false :=
  ⟨h.blk.cell 0, h.blk.cell 1, h.blk.cell 2, h.blk.cell 3, h.blk.cell 4, h.blk.cell 5, fun i => h.blk.frozen i⟩


theorem Blk.rd1 {w : World} {p : Nat} {s : ByteArray} {a d c e h : Nat} (hb : Blk w p (rdC s a d c e h) 119) (n : Nat) : Blk (w.setCell ⟨p, 1, none⟩ (.int .i64 n)) p (rdC s n d c e h) 119 := hb.set 1 (.int .i64 n)
theorem Blk.rd2 {w : World} {p : Nat} {s : ByteArray} {a d c e h : Nat} (hb : Blk w p (rdC s a d c e h) 119) (n : Nat) : Blk (w.setCell ⟨p, 2, none⟩ (.int .i64 n)) p (rdC s a n c e h) 119 := hb.set 2 (.int .i64 n)
theorem Blk.rd3 {w : World} {p : Nat} {s : ByteArray} {a d c e h : Nat} (hb : Blk w p (rdC s a d c e h) 119) (n : Nat) : Blk (w.setCell ⟨p, 3, none⟩ (.int .i64 n)) p (rdC s a d n e h) 119 := hb.set 3 (.int .i64 n)
theorem Blk.rd4 {w : World} {p : Nat} {s : ByteArray} {a d c e h : Nat} (hb : Blk w p (rdC s a d c e h) 119) (n : Nat) : Blk (w.setCell ⟨p, 4, none⟩ (.int .i64 n)) p (rdC s a d c n h) 119 := hb.set 4 (.int .i64 n)
theorem Blk.rd5 {w : World} {p : Nat} {s : ByteArray} {a d c e h : Nat} (hb : Blk w p (rdC s a d c e h) 119) (n : Nat) : Blk (w.setCell ⟨p, 5, none⟩ (.int .i64 n)) p (rdC s a d c e n) 119 := hb.set 5 (.int .i64 n)
theorem RdAt.end_suf (s : ByteArray) : ([] : List Nat) = (bytesN s).drop (s.size - ([] : List Nat).length) := by
  rw [List.length_nil, Nat.sub_zero, List.drop_of_length_le (by rw [bN_len]; exact Nat.le_refl _)]

set_option maxHeartbeats 1000000 in
theorem fail_any (p e x : Nat) (s : ByteArray) (st : St) (w : World) (h : RdAt w p s st) :
    Calls Tryz.prog 87 #[PT p, .int .i64 e, .int .i64 x] w fun r w' => r = .returned (.tuple #[]) ∧ RdAt w' p s (st.fail e x) ∧ Aside p w w' := by
  obtain ⟨c0, c1, c2, c3, c4, c5, cf⟩ := h.cells
  have f1 := cf 1; have f4 := cf 4; have f5 := cf 5
  have HB := hide h.blk
  have hl0 := h.big
  obtain ⟨at1, hat⟩ : ∃ a, a = s.size - st.rest.length := ⟨_, rfl⟩
  rw [← hat] at c1 HB
  clear h cf hat
  unfold PT
  go_enter Tryz.func87, Tryz.ntmps87
  by_cases he : st.err = 0
  · have HE := hide he
    rw [he] at c4
    clear he
    go_wp2
    refine bodyPost_end (v := .tuple #[]) (by simp [results, Tryz.results87, go_sem]) rfl ?_
    refine ⟨rfl, ⟨?_, RdAt.end_suf s, by simp [St.fail], hl0⟩, ((Aside.set _ _ _).trans (Aside.set _ _ _)).trans (Aside.set _ _ _)⟩
    have hb := ((HB.out.rd4 e).rd5 x).rd1 s.size
    unfold St.fail
    rw [if_pos HE.out, if_pos HE.out]
    exact hb
  · have hne : ((st.err : Int) == 0) = false := beq_eq_false_iff_ne.2 (by omega)
    have HE := hide he
    clear he
    go_wp2
    refine bodyPost_end (v := .tuple #[]) (by simp [results, Tryz.results87, go_sem]) rfl ?_
    refine ⟨rfl, ⟨?_, RdAt.end_suf s, by simp [St.fail], hl0⟩, Aside.set _ _ _⟩
    have hb := HB.out.rd1 s.size
    unfold St.fail
    rw [if_neg HE.out, if_neg HE.out]
    exact hb

/-- Where the reader is. -/
def atOf (W : World) (p : Nat) : Nat := match W.cell? ⟨p, 1, none⟩ with | some v => (intOf v).toNat | none => 0
theorem RdAt.atOf {w : World} {p : Nat} {s : ByteArray} {st : St} (h : RdAt w p s st) : atOf w p = s.size - st.rest.length := by
  unfold Go.Proofs.YtjlgepahgmkamaaGreatDoor.atOf
  rw [h.cells.2.1]
  simp [intOf]
/-- One byte further. -/
theorem RdAt.next {w : World} {p : Nat} {s : ByteArray} {st : St} {c : Nat} {r : List Nat} (h : RdAt w p s st) (hr : st.rest = c :: r) :
    RdAt (w.setCell ⟨p, 1, none⟩ (.int .i64 (s.size - st.rest.length + 1 : Nat))) p s (st.to r) ∧ (bytesN s)[s.size - st.rest.length]? = some c ∧ s.size - st.rest.length < s.size := by
  have hl := h.len
  have hsf := h.suf
  rw [hr, List.length_cons] at hl
  have e1 : s.size - st.rest.length + 1 = s.size - r.length := by rw [hr, List.length_cons]; omega
  refine ⟨⟨?_, ?_, ?_, h.big⟩, ?_, by rw [hr, List.length_cons]; omega⟩
  · rw [e1]; exact h.blk.rd1 _
  · have := congrArg List.tail hsf
    rw [hr, List.tail_cons, List.tail_drop, List.length_cons] at this
    show r = (bytesN s).drop (s.size - r.length)
    rw [this]
    congr 1
    have : (List.drop (s.size - (r.length + 1) + 1) (bytesN s)).length = r.length := by rw [List.length_drop, bN_len]; omega
    omega
  · show r.length ≤ s.size; omega
  · have h0 : (List.drop (s.size - st.rest.length) (bytesN s))[0]? = st.rest[0]? := by rw [← hsf]
    rw [List.getElem?_drop, Nat.add_zero] at h0
    rw [h0, hr]; rfl

set_option maxHeartbeats 2000000 in
theorem end_any (p : Nat) (s : ByteArray) (st : St) (w : World) (h : RdAt w p s st) :
    Calls Tryz.prog 86 #[PT p] w fun r w' => r = .returned (.bool (st.skip.rest.isEmpty)) ∧ RdAt w' p s st.skip ∧ Aside p w w' := by
  have H := hide h
  clear h
  go_enter Tryz.func86, Tryz.ntmps86
  unfold PT
  go_wp2
  go_loopw [26] (fun _ wr => Hid (∃ st1, st1.skip = st.skip ∧ RdAt wr p s st1 ∧ Aside p w wr)) (fun _ wr => s.size - atOf wr p)
  case atStart => exact ⟨st, rfl, H.out, Aside.refl _ _⟩
  case round =>
    obtain ⟨st1, hsk, hR, hA⟩ := hrel
    obtain ⟨c0, c1, c2, c3, c4, c5, cf⟩ := hR.cells
    have HR := hide hR
    have HA := hide hA
    have HSK := hide hsk
    clear hR hA hsk
    obtain ⟨at1, hat⟩ : ∃ a, a = s.size - st1.rest.length := ⟨_, rfl⟩
    have HAT := hide hat
    rw [← hat] at c1
    have hs0 := HR.out.big
    have hal : at1 ≤ s.size := by omega
    obtain ⟨C, hC⟩ : ∃ C : World → Prop, C = fun W => Below wr.heap.size wr W := ⟨_, rfl⟩
    have HG : Hid (Grows C) := by rw [hC]; exact fun W W' h1 h2 => h1.trans (h2.mono h1.size)
    have HCD : Hid (C { wr with drawn := wr.drawn + 1 }) := by rw [hC]; exact ⟨rfl, rfl, rfl, Nat.le_refl _, fun _ _ => rfl⟩
    have HCB : Hid (∀ W, C W → Below wr.heap.size wr W) := by rw [hC]; exact fun W h => h
    have HCS : Hid (∀ W, C W → C { W with drawn := W.drawn + 1 }) := by rw [hC]; exact fun W h => h.trans ⟨rfl, rfl, rfl, Nat.le_refl _, fun _ _ => rfl⟩
    have HC0 : Hid (∀ W, C W → W.cell? ⟨p, 0, none⟩ = some (.string s)) := fun W hW => (HR.out.keep (HCB.out W hW)).cells.1
    have HC1 : Hid (∀ W, C W → W.cell? ⟨p, 1, none⟩ = some (.int .i64 at1)) := fun W hW => by rw [hat]; exact (HR.out.keep (HCB.out W hW)).cells.2.1
    clear hC hat cf
    match hr : st1.rest with
    | [] =>
      have hlt : decide ((at1 : Int) < s.size) = false := by
        have := HAT.out
        rw [hr] at this
        simp at this
        simp; omega
      have heq : ((at1 : Int) == s.size) = true := by
        have := HAT.out
        rw [hr] at this
        simp at this
        simp; omega
      have HE : Hid (st.skip.rest.isEmpty = true) := by
        show _ = _
        rw [← HSK.out]
        unfold St.skip St.to
        rw [hr]; rfl
      have HX : Hid (st1.rest = []) := hr
      clear hr
      go_wp2
      have hG := HG.out
      have hc0 := HC0.out
      have hc1 := HC1.out
      refine w_lit (C := C) (by kernel_rfl) (by kernel_rfl) HCD.out ?_
      refine w_value (PT p) (by kernel_rfl) (fun w hw => x_move _ _ _ _ _ _ _ _ rfl w) ?_
      simp only [Act.put, List.setIfInBounds_toArray, List.set_cons_succ, List.set_cons_zero]
      refine w_value (PT p) (by kernel_rfl) (fun w hw => x_nilCheck _ _ _ _ _ _ _ _ rfl w) ?_
      simp only [Act.put, List.setIfInBounds_toArray, List.set_cons_succ, List.set_cons_zero]
      refine w_value (.pointer (some ⟨p, 1, none⟩)) (by kernel_rfl) (fun w hw => x_fieldR1 _ _ _ _ _ _ _ p rfl w) ?_
      simp only [Act.put, List.setIfInBounds_toArray, List.set_cons_succ, List.set_cons_zero]
      refine w_value (.int .i64 at1) (by kernel_rfl) (fun w hw => x_loadInt _ _ _ _ _ _ _ p 1 _ rfl w (hc1 w hw)) ?_
      simp only [Act.put, List.setIfInBounds_toArray, List.set_cons_succ, List.set_cons_zero]
      refine w_value (PT p) (by kernel_rfl) (fun w hw => x_move _ _ _ _ _ _ _ _ rfl w) ?_
      simp only [Act.put, List.setIfInBounds_toArray, List.set_cons_succ, List.set_cons_zero]
      refine w_value (PT p) (by kernel_rfl) (fun w hw => x_nilCheck _ _ _ _ _ _ _ _ rfl w) ?_
      simp only [Act.put, List.setIfInBounds_toArray, List.set_cons_succ, List.set_cons_zero]
      refine w_value (PT p) (by kernel_rfl) (fun w hw => x_fieldR0 _ _ _ _ _ _ _ p rfl w) ?_
      simp only [Act.put, List.setIfInBounds_toArray, List.set_cons_succ, List.set_cons_zero]
      refine w_value (.string s) (by kernel_rfl) (fun w hw => x_loadStr _ _ _ _ _ _ _ p 0 _ rfl w (hc0 w hw)) ?_
      simp only [Act.put, List.setIfInBounds_toArray, List.set_cons_succ, List.set_cons_zero]
      refine w_value (.int .i64 s.size) (by kernel_rfl) (fun w hw => x_lenS _ _ _ _ _ _ _ s rfl w) ?_
      simp only [Act.put, List.setIfInBounds_toArray, List.set_cons_succ, List.set_cons_zero]
      refine w_value (.bool false) (by kernel_rfl) (fun w hw => x_lssB _ _ _ _ _ _ _ _ at1 s.size _ hlt rfl rfl w) ?_
      simp only [Act.put, List.setIfInBounds_toArray, List.set_cons_succ, List.set_cons_zero]
      refine w_value (.bool false) (by kernel_rfl) (fun w hw => x_move _ _ _ _ _ _ _ _ rfl w) ?_
      simp only [Act.put, List.setIfInBounds_toArray, List.set_cons_succ, List.set_cons_zero]
      refine w_skip (by kernel_rfl) ?_
      simp only [Act.put, List.setIfInBounds_toArray, List.set_cons_succ, List.set_cons_zero]
      refine w_skip (by kernel_rfl) ?_
      simp only [Act.put, List.setIfInBounds_toArray, List.set_cons_succ, List.set_cons_zero]
      refine w_skip (by kernel_rfl) ?_
      simp only [Act.put, List.setIfInBounds_toArray, List.set_cons_succ, List.set_cons_zero]
      refine w_skip (by kernel_rfl) ?_
      simp only [Act.put, List.setIfInBounds_toArray, List.set_cons_succ, List.set_cons_zero]
      refine w_skip (by kernel_rfl) ?_
      simp only [Act.put, List.setIfInBounds_toArray, List.set_cons_succ, List.set_cons_zero]
      refine w_skip (by kernel_rfl) ?_
      simp only [Act.put, List.setIfInBounds_toArray, List.set_cons_succ, List.set_cons_zero]
      refine w_skip (by kernel_rfl) ?_
      simp only [Act.put, List.setIfInBounds_toArray, List.set_cons_succ, List.set_cons_zero]
      refine w_skip (by kernel_rfl) ?_
      simp only [Act.put, List.setIfInBounds_toArray, List.set_cons_succ, List.set_cons_zero]
      refine w_skip (by kernel_rfl) ?_
      simp only [Act.put, List.setIfInBounds_toArray, List.set_cons_succ, List.set_cons_zero]
      refine w_skip (by kernel_rfl) ?_
      simp only [Act.put, List.setIfInBounds_toArray, List.set_cons_succ, List.set_cons_zero]
      refine w_skip (by kernel_rfl) ?_
      simp only [Act.put, List.setIfInBounds_toArray, List.set_cons_succ, List.set_cons_zero]
      refine w_value (.bool false) (by kernel_rfl) (fun w hw => x_pick _ _ _ _ _ _ _ _ _ false undef (.bool false) rfl rfl rfl w) ?_
      simp only [Act.put, List.setIfInBounds_toArray, List.set_cons_succ, List.set_cons_zero]
      refine w_nil ?_
      intro W hW
      have HW := hide hW
      clear hW hG hc0 hc1
      go_wp2
      have hG := HG.out
      have hc0 := HC0.out
      have hc1 := HC1.out
      refine w_lit (C := C) (by kernel_rfl) (by kernel_rfl) (HCS.out W HW.out) ?_
      refine w_value (PT p) (by kernel_rfl) (fun w hw => x_move _ _ _ _ _ _ _ _ rfl w) ?_
      simp only [Act.put, List.setIfInBounds_toArray, List.set_cons_succ, List.set_cons_zero]
      refine w_value (PT p) (by kernel_rfl) (fun w hw => x_nilCheck _ _ _ _ _ _ _ _ rfl w) ?_
      simp only [Act.put, List.setIfInBounds_toArray, List.set_cons_succ, List.set_cons_zero]
      refine w_value (.pointer (some ⟨p, 1, none⟩)) (by kernel_rfl) (fun w hw => x_fieldR1 _ _ _ _ _ _ _ p rfl w) ?_
      simp only [Act.put, List.setIfInBounds_toArray, List.set_cons_succ, List.set_cons_zero]
      refine w_value (.int .i64 at1) (by kernel_rfl) (fun w hw => x_loadInt _ _ _ _ _ _ _ p 1 _ rfl w (hc1 w hw)) ?_
      simp only [Act.put, List.setIfInBounds_toArray, List.set_cons_succ, List.set_cons_zero]
      refine w_value (PT p) (by kernel_rfl) (fun w hw => x_move _ _ _ _ _ _ _ _ rfl w) ?_
      simp only [Act.put, List.setIfInBounds_toArray, List.set_cons_succ, List.set_cons_zero]
      refine w_value (PT p) (by kernel_rfl) (fun w hw => x_nilCheck _ _ _ _ _ _ _ _ rfl w) ?_
      simp only [Act.put, List.setIfInBounds_toArray, List.set_cons_succ, List.set_cons_zero]
      refine w_value (PT p) (by kernel_rfl) (fun w hw => x_fieldR0 _ _ _ _ _ _ _ p rfl w) ?_
      simp only [Act.put, List.setIfInBounds_toArray, List.set_cons_succ, List.set_cons_zero]
      refine w_value (.string s) (by kernel_rfl) (fun w hw => x_loadStr _ _ _ _ _ _ _ p 0 _ rfl w (hc0 w hw)) ?_
      simp only [Act.put, List.setIfInBounds_toArray, List.set_cons_succ, List.set_cons_zero]
      refine w_value (.int .i64 s.size) (by kernel_rfl) (fun w hw => x_lenS _ _ _ _ _ _ _ s rfl w) ?_
      simp only [Act.put, List.setIfInBounds_toArray, List.set_cons_succ, List.set_cons_zero]
      refine w_value (.bool true) (by kernel_rfl) (fun w hw => x_eqIntB _ _ _ _ _ _ _ _ at1 s.size _ heq rfl rfl w) ?_
      simp only [Act.put, List.setIfInBounds_toArray, List.set_cons_succ, List.set_cons_zero]
      refine w_value (.bool true) (by kernel_rfl) (fun w hw => x_assign _ _ _ _ _ _ _ _ rfl w) ?_
      simp only [Act.put, List.setIfInBounds_toArray, List.set_cons_succ, List.set_cons_zero]
      refine w_nil ?_
      intro W2 hW2
      have HW2 := hide hW2
      clear hW2 hG hc0 hc1
      go_wp2
      go_ret
      refine ⟨?_, ?_, HA.out.trans (Aside.of_below (HCB.out W2 HW2.out))⟩
      · rw [HE.out]; rfl
      · have e : st.skip = st1 := by
          rw [← HSK.out]
          unfold St.skip St.to
          rw [HX.out]
          cases st1
          have : _ = [] := HX.out
          subst this; rfl
        rw [e]
        exact HR.out.keep (HCB.out W2 HW2.out)
    | c :: r =>
      have hrl : r.length + 1 ≤ s.size := by have := HR.out.len; rw [hr] at this; simpa using this
      have hlt : decide ((at1 : Int) < s.size) = true := by
        have := HAT.out
        rw [hr] at this
        simp at this
        simp; omega
      have heq : ((at1 : Int) == s.size) = false := by
        have := HAT.out
        rw [hr] at this
        simp at this
        exact beq_eq_false_iff_ne.2 (by omega)
      obtain ⟨hnx, hcc, hl1⟩ := HR.out.next hr
      rw [← HAT.out] at hcc hnx
      have hc256 : c < 256 := bN_lt s c (List.mem_of_getElem? hcc)
      have HCC := hide hcc
      have HNX := hide hnx
      have ews : bytesN ⟨#[32, 9, 10, 13]⟩ = [32, 9, 10, 13] := by decide +kernel
      obtain ⟨z, hz0⟩ : ∃ z, z = idxI [32, 9, 10, 13] c := ⟨_, rfl⟩
      have HQI : Hid (∀ W, C W → Calls Tryz.prog 38 #[.string ⟨#[32, 9, 10, 13]⟩, .int .u8 c] W fun e w' => e = .returned (.int .i64 z) ∧ Below W.heap.size W w') := fun W _ => by
        rw [hz0, ← ews]; exact (indexByte_any _ c hc256 W).mono fun e w' ⟨h1, h2⟩ => ⟨h1, h2 ▸ Below.refl _ _⟩
      have HZ : Hid (decide (0 ≤ z) = isWs c) := by
        show _ = _
        rw [hz0, idxI_pos]
        unfold isWs
        simp [Bool.or_assoc, Bool.beq_eq_decide_eq]
      have HX : Hid (st1.rest = c :: r) := hr
      clear hr hcc hnx ews hz0
      cases hw : isWs c with
      | true =>
        have hz : decide (0 ≤ z) = true := by rw [HZ.out, hw]
        go_wp2
        have hG := HG.out
        have hc0 := HC0.out
        have hc1 := HC1.out
        have hqi := HQI.out
        have hcc := HCC.out
        refine w_lit (C := C) (by kernel_rfl) (by kernel_rfl) HCD.out ?_
        refine w_value (PT p) (by kernel_rfl) (fun w hw => x_move _ _ _ _ _ _ _ _ rfl w) ?_
        simp only [Act.put, List.setIfInBounds_toArray, List.set_cons_succ, List.set_cons_zero]
        refine w_value (PT p) (by kernel_rfl) (fun w hw => x_nilCheck _ _ _ _ _ _ _ _ rfl w) ?_
        simp only [Act.put, List.setIfInBounds_toArray, List.set_cons_succ, List.set_cons_zero]
        refine w_value (.pointer (some ⟨p, 1, none⟩)) (by kernel_rfl) (fun w hw => x_fieldR1 _ _ _ _ _ _ _ p rfl w) ?_
        simp only [Act.put, List.setIfInBounds_toArray, List.set_cons_succ, List.set_cons_zero]
        refine w_value (.int .i64 at1) (by kernel_rfl) (fun w hw => x_loadInt _ _ _ _ _ _ _ p 1 _ rfl w (hc1 w hw)) ?_
        simp only [Act.put, List.setIfInBounds_toArray, List.set_cons_succ, List.set_cons_zero]
        refine w_value (PT p) (by kernel_rfl) (fun w hw => x_move _ _ _ _ _ _ _ _ rfl w) ?_
        simp only [Act.put, List.setIfInBounds_toArray, List.set_cons_succ, List.set_cons_zero]
        refine w_value (PT p) (by kernel_rfl) (fun w hw => x_nilCheck _ _ _ _ _ _ _ _ rfl w) ?_
        simp only [Act.put, List.setIfInBounds_toArray, List.set_cons_succ, List.set_cons_zero]
        refine w_value (PT p) (by kernel_rfl) (fun w hw => x_fieldR0 _ _ _ _ _ _ _ p rfl w) ?_
        simp only [Act.put, List.setIfInBounds_toArray, List.set_cons_succ, List.set_cons_zero]
        refine w_value (.string s) (by kernel_rfl) (fun w hw => x_loadStr _ _ _ _ _ _ _ p 0 _ rfl w (hc0 w hw)) ?_
        simp only [Act.put, List.setIfInBounds_toArray, List.set_cons_succ, List.set_cons_zero]
        refine w_value (.int .i64 s.size) (by kernel_rfl) (fun w hw => x_lenS _ _ _ _ _ _ _ s rfl w) ?_
        simp only [Act.put, List.setIfInBounds_toArray, List.set_cons_succ, List.set_cons_zero]
        refine w_value (.bool true) (by kernel_rfl) (fun w hw => x_lssB _ _ _ _ _ _ _ _ at1 s.size _ hlt rfl rfl w) ?_
        simp only [Act.put, List.setIfInBounds_toArray, List.set_cons_succ, List.set_cons_zero]
        refine w_value (.bool true) (by kernel_rfl) (fun w hw => x_move _ _ _ _ _ _ _ _ rfl w) ?_
        simp only [Act.put, List.setIfInBounds_toArray, List.set_cons_succ, List.set_cons_zero]
        refine w_value (PT p) (by kernel_rfl) (fun w hw => x_move _ _ _ _ _ _ _ _ rfl w) ?_
        simp only [Act.put, List.setIfInBounds_toArray, List.set_cons_succ, List.set_cons_zero]
        refine w_value (PT p) (by kernel_rfl) (fun w hw => x_nilCheck _ _ _ _ _ _ _ _ rfl w) ?_
        simp only [Act.put, List.setIfInBounds_toArray, List.set_cons_succ, List.set_cons_zero]
        refine w_value (PT p) (by kernel_rfl) (fun w hw => x_fieldR0 _ _ _ _ _ _ _ p rfl w) ?_
        simp only [Act.put, List.setIfInBounds_toArray, List.set_cons_succ, List.set_cons_zero]
        refine w_value (.string s) (by kernel_rfl) (fun w hw => x_loadStr _ _ _ _ _ _ _ p 0 _ rfl w (hc0 w hw)) ?_
        simp only [Act.put, List.setIfInBounds_toArray, List.set_cons_succ, List.set_cons_zero]
        refine w_value (PT p) (by kernel_rfl) (fun w hw => x_move _ _ _ _ _ _ _ _ rfl w) ?_
        simp only [Act.put, List.setIfInBounds_toArray, List.set_cons_succ, List.set_cons_zero]
        refine w_value (PT p) (by kernel_rfl) (fun w hw => x_nilCheck _ _ _ _ _ _ _ _ rfl w) ?_
        simp only [Act.put, List.setIfInBounds_toArray, List.set_cons_succ, List.set_cons_zero]
        refine w_value (.pointer (some ⟨p, 1, none⟩)) (by kernel_rfl) (fun w hw => x_fieldR1 _ _ _ _ _ _ _ p rfl w) ?_
        simp only [Act.put, List.setIfInBounds_toArray, List.set_cons_succ, List.set_cons_zero]
        refine w_value (.int .i64 at1) (by kernel_rfl) (fun w hw => x_loadInt _ _ _ _ _ _ _ p 1 _ rfl w (hc1 w hw)) ?_
        simp only [Act.put, List.setIfInBounds_toArray, List.set_cons_succ, List.set_cons_zero]
        refine w_value (.int .u8 c) (by kernel_rfl) (fun w hw => x_strIdx _ _ _ _ _ _ _ _ s at1 c hcc rfl rfl w) ?_
        simp only [Act.put, List.setIfInBounds_toArray, List.set_cons_succ, List.set_cons_zero]
        refine w_call hG 38 #[.string ⟨#[32, 9, 10, 13]⟩, .int .u8 c] (.int .i64 z) (by kernel_rfl) (fun w => x_call2 _ _ _ _ _ _ _ _ _ _ _ _ _ rfl rfl rfl (enters_of Tryz.func38 (by kernel_rfl) rfl) w) (fun w hw => hqi w hw) ?_
        simp only [Act.put, List.setIfInBounds_toArray, List.set_cons_succ, List.set_cons_zero]
        refine w_value (.bool true) (by kernel_rfl) (fun w hw => x_geqB _ _ _ _ _ _ _ _ z 0 _ hz rfl rfl w) ?_
        simp only [Act.put, List.setIfInBounds_toArray, List.set_cons_succ, List.set_cons_zero]
        refine w_value (.bool true) (by kernel_rfl) (fun w hw => x_pick _ _ _ _ _ _ _ _ _ true (.bool true) (.bool false) rfl rfl rfl w) ?_
        simp only [Act.put, List.setIfInBounds_toArray, List.set_cons_succ, List.set_cons_zero]
        refine w_nil ?_
        intro W hW
        have HW := hide hW
        have d1 := hc1 W hW
        have df := (HR.out.keep (HCB.out W hW)).cells.2.2.2.2.2.2 1
        clear hW hG hc0 hc1 hqi hcc
        have hRW := HR.out.keep (HCB.out W HW.out)
        have hnx := (hRW.next HX.out).1
        rw [← HAT.out] at hnx
        have HNX2 := hide hnx
        have HAW := hide (HA.out.trans (Aside.of_below (HCB.out W HW.out)))
        clear hRW hnx HW
        go_wp2
        refine ⟨⟨st1.to r, ?_, HNX2.out, HAW.out.trans (Aside.set _ _ _)⟩, ?_⟩
        · rw [← HSK.out]
          unfold St.skip St.to
          rw [HX.out, List.dropWhile_cons, hw]; rfl
        · have e1 := HNX2.out.atOf
          have e2 := HR.out.atOf
          rw [HX.out, List.length_cons] at e2
          have e3 : (st1.to r).rest = r := rfl
          rw [e3] at e1
          rw [e2]
          show s.size - atOf (W.setCell ⟨p, 1, none⟩ (.int .i64 ((at1 + 1 : Nat) : Int))) p < s.size - (s.size - (r.length + 1))
          rw [e1]
          omega
      | false =>
        have hz : decide (0 ≤ z) = false := by rw [HZ.out, hw]
        go_wp2
        have hG := HG.out
        have hc0 := HC0.out
        have hc1 := HC1.out
        have hqi := HQI.out
        have hcc := HCC.out
        refine w_lit (C := C) (by kernel_rfl) (by kernel_rfl) HCD.out ?_
        refine w_value (PT p) (by kernel_rfl) (fun w hw => x_move _ _ _ _ _ _ _ _ rfl w) ?_
        simp only [Act.put, List.setIfInBounds_toArray, List.set_cons_succ, List.set_cons_zero]
        refine w_value (PT p) (by kernel_rfl) (fun w hw => x_nilCheck _ _ _ _ _ _ _ _ rfl w) ?_
        simp only [Act.put, List.setIfInBounds_toArray, List.set_cons_succ, List.set_cons_zero]
        refine w_value (.pointer (some ⟨p, 1, none⟩)) (by kernel_rfl) (fun w hw => x_fieldR1 _ _ _ _ _ _ _ p rfl w) ?_
        simp only [Act.put, List.setIfInBounds_toArray, List.set_cons_succ, List.set_cons_zero]
        refine w_value (.int .i64 at1) (by kernel_rfl) (fun w hw => x_loadInt _ _ _ _ _ _ _ p 1 _ rfl w (hc1 w hw)) ?_
        simp only [Act.put, List.setIfInBounds_toArray, List.set_cons_succ, List.set_cons_zero]
        refine w_value (PT p) (by kernel_rfl) (fun w hw => x_move _ _ _ _ _ _ _ _ rfl w) ?_
        simp only [Act.put, List.setIfInBounds_toArray, List.set_cons_succ, List.set_cons_zero]
        refine w_value (PT p) (by kernel_rfl) (fun w hw => x_nilCheck _ _ _ _ _ _ _ _ rfl w) ?_
        simp only [Act.put, List.setIfInBounds_toArray, List.set_cons_succ, List.set_cons_zero]
        refine w_value (PT p) (by kernel_rfl) (fun w hw => x_fieldR0 _ _ _ _ _ _ _ p rfl w) ?_
        simp only [Act.put, List.setIfInBounds_toArray, List.set_cons_succ, List.set_cons_zero]
        refine w_value (.string s) (by kernel_rfl) (fun w hw => x_loadStr _ _ _ _ _ _ _ p 0 _ rfl w (hc0 w hw)) ?_
        simp only [Act.put, List.setIfInBounds_toArray, List.set_cons_succ, List.set_cons_zero]
        refine w_value (.int .i64 s.size) (by kernel_rfl) (fun w hw => x_lenS _ _ _ _ _ _ _ s rfl w) ?_
        simp only [Act.put, List.setIfInBounds_toArray, List.set_cons_succ, List.set_cons_zero]
        refine w_value (.bool true) (by kernel_rfl) (fun w hw => x_lssB _ _ _ _ _ _ _ _ at1 s.size _ hlt rfl rfl w) ?_
        simp only [Act.put, List.setIfInBounds_toArray, List.set_cons_succ, List.set_cons_zero]
        refine w_value (.bool true) (by kernel_rfl) (fun w hw => x_move _ _ _ _ _ _ _ _ rfl w) ?_
        simp only [Act.put, List.setIfInBounds_toArray, List.set_cons_succ, List.set_cons_zero]
        refine w_value (PT p) (by kernel_rfl) (fun w hw => x_move _ _ _ _ _ _ _ _ rfl w) ?_
        simp only [Act.put, List.setIfInBounds_toArray, List.set_cons_succ, List.set_cons_zero]
        refine w_value (PT p) (by kernel_rfl) (fun w hw => x_nilCheck _ _ _ _ _ _ _ _ rfl w) ?_
        simp only [Act.put, List.setIfInBounds_toArray, List.set_cons_succ, List.set_cons_zero]
        refine w_value (PT p) (by kernel_rfl) (fun w hw => x_fieldR0 _ _ _ _ _ _ _ p rfl w) ?_
        simp only [Act.put, List.setIfInBounds_toArray, List.set_cons_succ, List.set_cons_zero]
        refine w_value (.string s) (by kernel_rfl) (fun w hw => x_loadStr _ _ _ _ _ _ _ p 0 _ rfl w (hc0 w hw)) ?_
        simp only [Act.put, List.setIfInBounds_toArray, List.set_cons_succ, List.set_cons_zero]
        refine w_value (PT p) (by kernel_rfl) (fun w hw => x_move _ _ _ _ _ _ _ _ rfl w) ?_
        simp only [Act.put, List.setIfInBounds_toArray, List.set_cons_succ, List.set_cons_zero]
        refine w_value (PT p) (by kernel_rfl) (fun w hw => x_nilCheck _ _ _ _ _ _ _ _ rfl w) ?_
        simp only [Act.put, List.setIfInBounds_toArray, List.set_cons_succ, List.set_cons_zero]
        refine w_value (.pointer (some ⟨p, 1, none⟩)) (by kernel_rfl) (fun w hw => x_fieldR1 _ _ _ _ _ _ _ p rfl w) ?_
        simp only [Act.put, List.setIfInBounds_toArray, List.set_cons_succ, List.set_cons_zero]
        refine w_value (.int .i64 at1) (by kernel_rfl) (fun w hw => x_loadInt _ _ _ _ _ _ _ p 1 _ rfl w (hc1 w hw)) ?_
        simp only [Act.put, List.setIfInBounds_toArray, List.set_cons_succ, List.set_cons_zero]
        refine w_value (.int .u8 c) (by kernel_rfl) (fun w hw => x_strIdx _ _ _ _ _ _ _ _ s at1 c hcc rfl rfl w) ?_
        simp only [Act.put, List.setIfInBounds_toArray, List.set_cons_succ, List.set_cons_zero]
        refine w_call hG 38 #[.string ⟨#[32, 9, 10, 13]⟩, .int .u8 c] (.int .i64 z) (by kernel_rfl) (fun w => x_call2 _ _ _ _ _ _ _ _ _ _ _ _ _ rfl rfl rfl (enters_of Tryz.func38 (by kernel_rfl) rfl) w) (fun w hw => hqi w hw) ?_
        simp only [Act.put, List.setIfInBounds_toArray, List.set_cons_succ, List.set_cons_zero]
        refine w_value (.bool false) (by kernel_rfl) (fun w hw => x_geqB _ _ _ _ _ _ _ _ z 0 _ hz rfl rfl w) ?_
        simp only [Act.put, List.setIfInBounds_toArray, List.set_cons_succ, List.set_cons_zero]
        refine w_value (.bool false) (by kernel_rfl) (fun w hw => x_pick _ _ _ _ _ _ _ _ _ true (.bool false) (.bool false) rfl rfl rfl w) ?_
        simp only [Act.put, List.setIfInBounds_toArray, List.set_cons_succ, List.set_cons_zero]
        refine w_nil ?_
        intro W hW
        have HW := hide hW
        clear hW hG hc0 hc1 hqi hcc
        go_wp2
        have hG := HG.out
        have hc0 := HC0.out
        have hc1 := HC1.out
        refine w_lit (C := C) (by kernel_rfl) (by kernel_rfl) (HCS.out W HW.out) ?_
        refine w_value (PT p) (by kernel_rfl) (fun w hw => x_move _ _ _ _ _ _ _ _ rfl w) ?_
        simp only [Act.put, List.setIfInBounds_toArray, List.set_cons_succ, List.set_cons_zero]
        refine w_value (PT p) (by kernel_rfl) (fun w hw => x_nilCheck _ _ _ _ _ _ _ _ rfl w) ?_
        simp only [Act.put, List.setIfInBounds_toArray, List.set_cons_succ, List.set_cons_zero]
        refine w_value (.pointer (some ⟨p, 1, none⟩)) (by kernel_rfl) (fun w hw => x_fieldR1 _ _ _ _ _ _ _ p rfl w) ?_
        simp only [Act.put, List.setIfInBounds_toArray, List.set_cons_succ, List.set_cons_zero]
        refine w_value (.int .i64 at1) (by kernel_rfl) (fun w hw => x_loadInt _ _ _ _ _ _ _ p 1 _ rfl w (hc1 w hw)) ?_
        simp only [Act.put, List.setIfInBounds_toArray, List.set_cons_succ, List.set_cons_zero]
        refine w_value (PT p) (by kernel_rfl) (fun w hw => x_move _ _ _ _ _ _ _ _ rfl w) ?_
        simp only [Act.put, List.setIfInBounds_toArray, List.set_cons_succ, List.set_cons_zero]
        refine w_value (PT p) (by kernel_rfl) (fun w hw => x_nilCheck _ _ _ _ _ _ _ _ rfl w) ?_
        simp only [Act.put, List.setIfInBounds_toArray, List.set_cons_succ, List.set_cons_zero]
        refine w_value (PT p) (by kernel_rfl) (fun w hw => x_fieldR0 _ _ _ _ _ _ _ p rfl w) ?_
        simp only [Act.put, List.setIfInBounds_toArray, List.set_cons_succ, List.set_cons_zero]
        refine w_value (.string s) (by kernel_rfl) (fun w hw => x_loadStr _ _ _ _ _ _ _ p 0 _ rfl w (hc0 w hw)) ?_
        simp only [Act.put, List.setIfInBounds_toArray, List.set_cons_succ, List.set_cons_zero]
        refine w_value (.int .i64 s.size) (by kernel_rfl) (fun w hw => x_lenS _ _ _ _ _ _ _ s rfl w) ?_
        simp only [Act.put, List.setIfInBounds_toArray, List.set_cons_succ, List.set_cons_zero]
        refine w_value (.bool false) (by kernel_rfl) (fun w hw => x_eqIntB _ _ _ _ _ _ _ _ at1 s.size _ heq rfl rfl w) ?_
        simp only [Act.put, List.setIfInBounds_toArray, List.set_cons_succ, List.set_cons_zero]
        refine w_value (.bool false) (by kernel_rfl) (fun w hw => x_assign _ _ _ _ _ _ _ _ rfl w) ?_
        simp only [Act.put, List.setIfInBounds_toArray, List.set_cons_succ, List.set_cons_zero]
        refine w_nil ?_
        intro W2 hW2
        have HW2 := hide hW2
        clear hW2 hG hc0 hc1
        go_wp2
        go_ret
        have e : st.skip = st1 := by
          rw [← HSK.out]
          unfold St.skip St.to
          rw [HX.out, List.dropWhile_cons, hw]
          cases st1
          have : _ = c :: r := HX.out
          subst this; rfl
        refine ⟨?_, ?_, HA.out.trans (Aside.of_below (HCB.out W2 HW2.out))⟩
        · rw [e, HX.out]; rfl
        · rw [e]
          exact HR.out.keep (HCB.out W2 HW2.out)

set_option maxHeartbeats 2000000 in
theorem here_any (p b : Nat) (s : ByteArray) (st : St) (w : World) (h : RdAt w p s st) :
    Calls Tryz.prog 121 #[PT p, .int .u8 b] w fun r w' => r = .returned (.bool (st.isAt b)) ∧ RdAt w' p s (st.here b) ∧ Aside p w w' := by
  have HR := hide h
  obtain ⟨at1, hat⟩ : ∃ a, a = s.size - st.rest.length := ⟨_, rfl⟩
  have HAT := hide hat
  have hs0 := h.big
  have hal : at1 ≤ s.size := by omega
  obtain ⟨C, hC⟩ : ∃ C : World → Prop, C = fun W => Below w.heap.size w W := ⟨_, rfl⟩
  have HG : Hid (Grows C) := by rw [hC]; exact fun W W' h1 h2 => h1.trans (h2.mono h1.size)
  have HCD : Hid (C { w with drawn := w.drawn + 1 }) := by rw [hC]; exact ⟨rfl, rfl, rfl, Nat.le_refl _, fun _ _ => rfl⟩
  have HCB : Hid (∀ W, C W → Below w.heap.size w W) := by rw [hC]; exact fun W h => h
  have HC0 : Hid (∀ W, C W → W.cell? ⟨p, 0, none⟩ = some (.string s)) := fun W hW => (HR.out.keep (HCB.out W hW)).cells.1
  have HC1 : Hid (∀ W, C W → W.cell? ⟨p, 1, none⟩ = some (.int .i64 at1)) := fun W hW => by rw [hat]; exact (HR.out.keep (HCB.out W hW)).cells.2.1
  clear hC hat h
  unfold PT
  match hr : st.rest with
  | [] =>
    have hlt : decide ((at1 : Int) < s.size) = false := by
      have := HAT.out
      rw [hr] at this
      simp at this
      simp; omega
    have HI : Hid (st.isAt b = false) := by show _ = _; unfold St.isAt; rw [hr]; rfl
    have HH : Hid (st.here b = st) := by show _ = _; unfold St.here; rw [HI.out]; rfl
    clear hr
    go_enter Tryz.func121, Tryz.ntmps121
    go_wp2
    have hG := HG.out
    have hc0 := HC0.out
    have hc1 := HC1.out
    refine w_lit (C := C) (by kernel_rfl) (by kernel_rfl) HCD.out ?_
    refine w_value (PT p) (by kernel_rfl) (fun w hw => x_move _ _ _ _ _ _ _ _ rfl w) ?_
    simp only [Act.put, List.setIfInBounds_toArray, List.set_cons_succ, List.set_cons_zero]
    refine w_value (PT p) (by kernel_rfl) (fun w hw => x_nilCheck _ _ _ _ _ _ _ _ rfl w) ?_
    simp only [Act.put, List.setIfInBounds_toArray, List.set_cons_succ, List.set_cons_zero]
    refine w_value (.pointer (some ⟨p, 1, none⟩)) (by kernel_rfl) (fun w hw => x_fieldR1 _ _ _ _ _ _ _ p rfl w) ?_
    simp only [Act.put, List.setIfInBounds_toArray, List.set_cons_succ, List.set_cons_zero]
    refine w_value (.int .i64 at1) (by kernel_rfl) (fun w hw => x_loadInt _ _ _ _ _ _ _ p 1 _ rfl w (hc1 w hw)) ?_
    simp only [Act.put, List.setIfInBounds_toArray, List.set_cons_succ, List.set_cons_zero]
    refine w_value (PT p) (by kernel_rfl) (fun w hw => x_move _ _ _ _ _ _ _ _ rfl w) ?_
    simp only [Act.put, List.setIfInBounds_toArray, List.set_cons_succ, List.set_cons_zero]
    refine w_value (PT p) (by kernel_rfl) (fun w hw => x_nilCheck _ _ _ _ _ _ _ _ rfl w) ?_
    simp only [Act.put, List.setIfInBounds_toArray, List.set_cons_succ, List.set_cons_zero]
    refine w_value (PT p) (by kernel_rfl) (fun w hw => x_fieldR0 _ _ _ _ _ _ _ p rfl w) ?_
    simp only [Act.put, List.setIfInBounds_toArray, List.set_cons_succ, List.set_cons_zero]
    refine w_value (.string s) (by kernel_rfl) (fun w hw => x_loadStr _ _ _ _ _ _ _ p 0 _ rfl w (hc0 w hw)) ?_
    simp only [Act.put, List.setIfInBounds_toArray, List.set_cons_succ, List.set_cons_zero]
    refine w_value (.int .i64 s.size) (by kernel_rfl) (fun w hw => x_lenS _ _ _ _ _ _ _ s rfl w) ?_
    simp only [Act.put, List.setIfInBounds_toArray, List.set_cons_succ, List.set_cons_zero]
    refine w_value (.bool false) (by kernel_rfl) (fun w hw => x_lssB _ _ _ _ _ _ _ _ at1 s.size _ hlt rfl rfl w) ?_
    simp only [Act.put, List.setIfInBounds_toArray, List.set_cons_succ, List.set_cons_zero]
    refine w_value (.bool false) (by kernel_rfl) (fun w hw => x_move _ _ _ _ _ _ _ _ rfl w) ?_
    simp only [Act.put, List.setIfInBounds_toArray, List.set_cons_succ, List.set_cons_zero]
    refine w_skip (by kernel_rfl) ?_
    simp only [Act.put, List.setIfInBounds_toArray, List.set_cons_succ, List.set_cons_zero]
    refine w_skip (by kernel_rfl) ?_
    simp only [Act.put, List.setIfInBounds_toArray, List.set_cons_succ, List.set_cons_zero]
    refine w_skip (by kernel_rfl) ?_
    simp only [Act.put, List.setIfInBounds_toArray, List.set_cons_succ, List.set_cons_zero]
    refine w_skip (by kernel_rfl) ?_
    simp only [Act.put, List.setIfInBounds_toArray, List.set_cons_succ, List.set_cons_zero]
    refine w_skip (by kernel_rfl) ?_
    simp only [Act.put, List.setIfInBounds_toArray, List.set_cons_succ, List.set_cons_zero]
    refine w_skip (by kernel_rfl) ?_
    simp only [Act.put, List.setIfInBounds_toArray, List.set_cons_succ, List.set_cons_zero]
    refine w_skip (by kernel_rfl) ?_
    simp only [Act.put, List.setIfInBounds_toArray, List.set_cons_succ, List.set_cons_zero]
    refine w_skip (by kernel_rfl) ?_
    simp only [Act.put, List.setIfInBounds_toArray, List.set_cons_succ, List.set_cons_zero]
    refine w_skip (by kernel_rfl) ?_
    simp only [Act.put, List.setIfInBounds_toArray, List.set_cons_succ, List.set_cons_zero]
    refine w_skip (by kernel_rfl) ?_
    simp only [Act.put, List.setIfInBounds_toArray, List.set_cons_succ, List.set_cons_zero]
    refine w_skip (by kernel_rfl) ?_
    simp only [Act.put, List.setIfInBounds_toArray, List.set_cons_succ, List.set_cons_zero]
    refine w_value (.bool false) (by kernel_rfl) (fun w hw => x_pick _ _ _ _ _ _ _ _ _ false undef (.bool false) rfl rfl rfl w) ?_
    simp only [Act.put, List.setIfInBounds_toArray, List.set_cons_succ, List.set_cons_zero]
    refine w_nil ?_
    intro W hW
    have HW := hide hW
    clear hW hG hc0 hc1
    go_wp2
    go_ret
    refine ⟨?_, ?_, Aside.of_below (HCB.out W HW.out)⟩
    · rw [HI.out]; rfl
    · rw [HH.out]; exact HR.out.keep (HCB.out W HW.out)
  | c :: r =>
    have hrl : r.length + 1 ≤ s.size := by have := HR.out.len; rw [hr] at this; simpa using this
    have hlt : decide ((at1 : Int) < s.size) = true := by
      have := HAT.out
      rw [hr] at this
      simp at this
      simp; omega
    obtain ⟨-, hcc, hl1⟩ := HR.out.next hr
    rw [← HAT.out] at hcc
    have HCC := hide hcc
    have HX : Hid (st.rest = c :: r) := hr
    clear hr hcc
    by_cases hcb : c = b
    · have hz : ((c : Int) == b) = true := by simp [hcb]
      have HI : Hid (st.isAt b = true) := by show _ = _; unfold St.isAt; rw [HX.out, hcb]; simp
      have HH : Hid (st.here b = st.to r) := by show _ = _; unfold St.here; rw [HI.out, HX.out]; rfl
      clear hcb
      go_enter Tryz.func121, Tryz.ntmps121
      go_wp2
      have hG := HG.out
      have hc0 := HC0.out
      have hc1 := HC1.out
      have hcc := HCC.out
      refine w_lit (C := C) (by kernel_rfl) (by kernel_rfl) HCD.out ?_
      refine w_value (PT p) (by kernel_rfl) (fun w hw => x_move _ _ _ _ _ _ _ _ rfl w) ?_
      simp only [Act.put, List.setIfInBounds_toArray, List.set_cons_succ, List.set_cons_zero]
      refine w_value (PT p) (by kernel_rfl) (fun w hw => x_nilCheck _ _ _ _ _ _ _ _ rfl w) ?_
      simp only [Act.put, List.setIfInBounds_toArray, List.set_cons_succ, List.set_cons_zero]
      refine w_value (.pointer (some ⟨p, 1, none⟩)) (by kernel_rfl) (fun w hw => x_fieldR1 _ _ _ _ _ _ _ p rfl w) ?_
      simp only [Act.put, List.setIfInBounds_toArray, List.set_cons_succ, List.set_cons_zero]
      refine w_value (.int .i64 at1) (by kernel_rfl) (fun w hw => x_loadInt _ _ _ _ _ _ _ p 1 _ rfl w (hc1 w hw)) ?_
      simp only [Act.put, List.setIfInBounds_toArray, List.set_cons_succ, List.set_cons_zero]
      refine w_value (PT p) (by kernel_rfl) (fun w hw => x_move _ _ _ _ _ _ _ _ rfl w) ?_
      simp only [Act.put, List.setIfInBounds_toArray, List.set_cons_succ, List.set_cons_zero]
      refine w_value (PT p) (by kernel_rfl) (fun w hw => x_nilCheck _ _ _ _ _ _ _ _ rfl w) ?_
      simp only [Act.put, List.setIfInBounds_toArray, List.set_cons_succ, List.set_cons_zero]
      refine w_value (PT p) (by kernel_rfl) (fun w hw => x_fieldR0 _ _ _ _ _ _ _ p rfl w) ?_
      simp only [Act.put, List.setIfInBounds_toArray, List.set_cons_succ, List.set_cons_zero]
      refine w_value (.string s) (by kernel_rfl) (fun w hw => x_loadStr _ _ _ _ _ _ _ p 0 _ rfl w (hc0 w hw)) ?_
      simp only [Act.put, List.setIfInBounds_toArray, List.set_cons_succ, List.set_cons_zero]
      refine w_value (.int .i64 s.size) (by kernel_rfl) (fun w hw => x_lenS _ _ _ _ _ _ _ s rfl w) ?_
      simp only [Act.put, List.setIfInBounds_toArray, List.set_cons_succ, List.set_cons_zero]
      refine w_value (.bool true) (by kernel_rfl) (fun w hw => x_lssB _ _ _ _ _ _ _ _ at1 s.size _ hlt rfl rfl w) ?_
      simp only [Act.put, List.setIfInBounds_toArray, List.set_cons_succ, List.set_cons_zero]
      refine w_value (.bool true) (by kernel_rfl) (fun w hw => x_move _ _ _ _ _ _ _ _ rfl w) ?_
      simp only [Act.put, List.setIfInBounds_toArray, List.set_cons_succ, List.set_cons_zero]
      refine w_value (PT p) (by kernel_rfl) (fun w hw => x_move _ _ _ _ _ _ _ _ rfl w) ?_
      simp only [Act.put, List.setIfInBounds_toArray, List.set_cons_succ, List.set_cons_zero]
      refine w_value (PT p) (by kernel_rfl) (fun w hw => x_nilCheck _ _ _ _ _ _ _ _ rfl w) ?_
      simp only [Act.put, List.setIfInBounds_toArray, List.set_cons_succ, List.set_cons_zero]
      refine w_value (PT p) (by kernel_rfl) (fun w hw => x_fieldR0 _ _ _ _ _ _ _ p rfl w) ?_
      simp only [Act.put, List.setIfInBounds_toArray, List.set_cons_succ, List.set_cons_zero]
      refine w_value (.string s) (by kernel_rfl) (fun w hw => x_loadStr _ _ _ _ _ _ _ p 0 _ rfl w (hc0 w hw)) ?_
      simp only [Act.put, List.setIfInBounds_toArray, List.set_cons_succ, List.set_cons_zero]
      refine w_value (PT p) (by kernel_rfl) (fun w hw => x_move _ _ _ _ _ _ _ _ rfl w) ?_
      simp only [Act.put, List.setIfInBounds_toArray, List.set_cons_succ, List.set_cons_zero]
      refine w_value (PT p) (by kernel_rfl) (fun w hw => x_nilCheck _ _ _ _ _ _ _ _ rfl w) ?_
      simp only [Act.put, List.setIfInBounds_toArray, List.set_cons_succ, List.set_cons_zero]
      refine w_value (.pointer (some ⟨p, 1, none⟩)) (by kernel_rfl) (fun w hw => x_fieldR1 _ _ _ _ _ _ _ p rfl w) ?_
      simp only [Act.put, List.setIfInBounds_toArray, List.set_cons_succ, List.set_cons_zero]
      refine w_value (.int .i64 at1) (by kernel_rfl) (fun w hw => x_loadInt _ _ _ _ _ _ _ p 1 _ rfl w (hc1 w hw)) ?_
      simp only [Act.put, List.setIfInBounds_toArray, List.set_cons_succ, List.set_cons_zero]
      refine w_value (.int .u8 c) (by kernel_rfl) (fun w hw => x_strIdx _ _ _ _ _ _ _ _ s at1 c hcc rfl rfl w) ?_
      simp only [Act.put, List.setIfInBounds_toArray, List.set_cons_succ, List.set_cons_zero]
      refine w_value (.int .u8 b) (by kernel_rfl) (fun w hw => x_move _ _ _ _ _ _ _ _ rfl w) ?_
      simp only [Act.put, List.setIfInBounds_toArray, List.set_cons_succ, List.set_cons_zero]
      refine w_value (.bool true) (by kernel_rfl) (fun w hw => x_eqU8B _ _ _ _ _ _ _ _ c b _ hz rfl rfl w) ?_
      simp only [Act.put, List.setIfInBounds_toArray, List.set_cons_succ, List.set_cons_zero]
      refine w_value (.bool true) (by kernel_rfl) (fun w hw => x_pick _ _ _ _ _ _ _ _ _ true (.bool true) (.bool false) rfl rfl rfl w) ?_
      simp only [Act.put, List.setIfInBounds_toArray, List.set_cons_succ, List.set_cons_zero]
      refine w_nil ?_
      intro W hW
      have HW := hide hW
      have d1 := hc1 W hW
      have df := (HR.out.keep (HCB.out W hW)).cells.2.2.2.2.2.2 1
      have hRW := HR.out.keep (HCB.out W HW.out)
      have hnx := (hRW.next HX.out).1
      rw [← HAT.out] at hnx
      have HNX2 := hide hnx
      clear hW hG hc0 hc1 hcc hRW hnx
      go_wp2
      go_ret
      refine ⟨?_, ?_, (Aside.of_below (HCB.out W HW.out)).trans (Aside.set _ _ _)⟩
      · rw [HI.out]; rfl
      · rw [HH.out]; exact HNX2.out
    · have hz : ((c : Int) == b) = false := beq_eq_false_iff_ne.2 (by omega)
      have HI : Hid (st.isAt b = false) := by show _ = _; unfold St.isAt; rw [HX.out]; simpa using hcb
      have HH : Hid (st.here b = st) := by show _ = _; unfold St.here; rw [HI.out]; rfl
      clear hcb
      go_enter Tryz.func121, Tryz.ntmps121
      go_wp2
      have hG := HG.out
      have hc0 := HC0.out
      have hc1 := HC1.out
      have hcc := HCC.out
      refine w_lit (C := C) (by kernel_rfl) (by kernel_rfl) HCD.out ?_
      refine w_value (PT p) (by kernel_rfl) (fun w hw => x_move _ _ _ _ _ _ _ _ rfl w) ?_
      simp only [Act.put, List.setIfInBounds_toArray, List.set_cons_succ, List.set_cons_zero]
      refine w_value (PT p) (by kernel_rfl) (fun w hw => x_nilCheck _ _ _ _ _ _ _ _ rfl w) ?_
      simp only [Act.put, List.setIfInBounds_toArray, List.set_cons_succ, List.set_cons_zero]
      refine w_value (.pointer (some ⟨p, 1, none⟩)) (by kernel_rfl) (fun w hw => x_fieldR1 _ _ _ _ _ _ _ p rfl w) ?_
      simp only [Act.put, List.setIfInBounds_toArray, List.set_cons_succ, List.set_cons_zero]
      refine w_value (.int .i64 at1) (by kernel_rfl) (fun w hw => x_loadInt _ _ _ _ _ _ _ p 1 _ rfl w (hc1 w hw)) ?_
      simp only [Act.put, List.setIfInBounds_toArray, List.set_cons_succ, List.set_cons_zero]
      refine w_value (PT p) (by kernel_rfl) (fun w hw => x_move _ _ _ _ _ _ _ _ rfl w) ?_
      simp only [Act.put, List.setIfInBounds_toArray, List.set_cons_succ, List.set_cons_zero]
      refine w_value (PT p) (by kernel_rfl) (fun w hw => x_nilCheck _ _ _ _ _ _ _ _ rfl w) ?_
      simp only [Act.put, List.setIfInBounds_toArray, List.set_cons_succ, List.set_cons_zero]
      refine w_value (PT p) (by kernel_rfl) (fun w hw => x_fieldR0 _ _ _ _ _ _ _ p rfl w) ?_
      simp only [Act.put, List.setIfInBounds_toArray, List.set_cons_succ, List.set_cons_zero]
      refine w_value (.string s) (by kernel_rfl) (fun w hw => x_loadStr _ _ _ _ _ _ _ p 0 _ rfl w (hc0 w hw)) ?_
      simp only [Act.put, List.setIfInBounds_toArray, List.set_cons_succ, List.set_cons_zero]
      refine w_value (.int .i64 s.size) (by kernel_rfl) (fun w hw => x_lenS _ _ _ _ _ _ _ s rfl w) ?_
      simp only [Act.put, List.setIfInBounds_toArray, List.set_cons_succ, List.set_cons_zero]
      refine w_value (.bool true) (by kernel_rfl) (fun w hw => x_lssB _ _ _ _ _ _ _ _ at1 s.size _ hlt rfl rfl w) ?_
      simp only [Act.put, List.setIfInBounds_toArray, List.set_cons_succ, List.set_cons_zero]
      refine w_value (.bool true) (by kernel_rfl) (fun w hw => x_move _ _ _ _ _ _ _ _ rfl w) ?_
      simp only [Act.put, List.setIfInBounds_toArray, List.set_cons_succ, List.set_cons_zero]
      refine w_value (PT p) (by kernel_rfl) (fun w hw => x_move _ _ _ _ _ _ _ _ rfl w) ?_
      simp only [Act.put, List.setIfInBounds_toArray, List.set_cons_succ, List.set_cons_zero]
      refine w_value (PT p) (by kernel_rfl) (fun w hw => x_nilCheck _ _ _ _ _ _ _ _ rfl w) ?_
      simp only [Act.put, List.setIfInBounds_toArray, List.set_cons_succ, List.set_cons_zero]
      refine w_value (PT p) (by kernel_rfl) (fun w hw => x_fieldR0 _ _ _ _ _ _ _ p rfl w) ?_
      simp only [Act.put, List.setIfInBounds_toArray, List.set_cons_succ, List.set_cons_zero]
      refine w_value (.string s) (by kernel_rfl) (fun w hw => x_loadStr _ _ _ _ _ _ _ p 0 _ rfl w (hc0 w hw)) ?_
      simp only [Act.put, List.setIfInBounds_toArray, List.set_cons_succ, List.set_cons_zero]
      refine w_value (PT p) (by kernel_rfl) (fun w hw => x_move _ _ _ _ _ _ _ _ rfl w) ?_
      simp only [Act.put, List.setIfInBounds_toArray, List.set_cons_succ, List.set_cons_zero]
      refine w_value (PT p) (by kernel_rfl) (fun w hw => x_nilCheck _ _ _ _ _ _ _ _ rfl w) ?_
      simp only [Act.put, List.setIfInBounds_toArray, List.set_cons_succ, List.set_cons_zero]
      refine w_value (.pointer (some ⟨p, 1, none⟩)) (by kernel_rfl) (fun w hw => x_fieldR1 _ _ _ _ _ _ _ p rfl w) ?_
      simp only [Act.put, List.setIfInBounds_toArray, List.set_cons_succ, List.set_cons_zero]
      refine w_value (.int .i64 at1) (by kernel_rfl) (fun w hw => x_loadInt _ _ _ _ _ _ _ p 1 _ rfl w (hc1 w hw)) ?_
      simp only [Act.put, List.setIfInBounds_toArray, List.set_cons_succ, List.set_cons_zero]
      refine w_value (.int .u8 c) (by kernel_rfl) (fun w hw => x_strIdx _ _ _ _ _ _ _ _ s at1 c hcc rfl rfl w) ?_
      simp only [Act.put, List.setIfInBounds_toArray, List.set_cons_succ, List.set_cons_zero]
      refine w_value (.int .u8 b) (by kernel_rfl) (fun w hw => x_move _ _ _ _ _ _ _ _ rfl w) ?_
      simp only [Act.put, List.setIfInBounds_toArray, List.set_cons_succ, List.set_cons_zero]
      refine w_value (.bool false) (by kernel_rfl) (fun w hw => x_eqU8B _ _ _ _ _ _ _ _ c b _ hz rfl rfl w) ?_
      simp only [Act.put, List.setIfInBounds_toArray, List.set_cons_succ, List.set_cons_zero]
      refine w_value (.bool false) (by kernel_rfl) (fun w hw => x_pick _ _ _ _ _ _ _ _ _ true (.bool false) (.bool false) rfl rfl rfl w) ?_
      simp only [Act.put, List.setIfInBounds_toArray, List.set_cons_succ, List.set_cons_zero]
      refine w_nil ?_
      intro W hW
      have HW := hide hW
      clear hW hG hc0 hc1 hcc
      go_wp2
      go_ret
      refine ⟨?_, ?_, Aside.of_below (HCB.out W HW.out)⟩
      · rw [HI.out]; rfl
      · rw [HH.out]; exact HR.out.keep (HCB.out W HW.out)
theorem sign_any (p b : Nat) (s : ByteArray) (st : St) (w : World) (h : RdAt w p s st) :
    Calls Tryz.prog 102 #[PT p, .int .u8 b] w fun r w' => r = .returned (.bool (st.signB b)) ∧ RdAt w' p s (st.sign b) ∧ Aside p w w' := by
  have he := end_any p s st w h
  have HH : Hid (∀ W, RdAt W p s st.skip → Calls Tryz.prog 121 #[PT p, .int .u8 b] W fun r w' => r = .returned (.bool (st.skip.isAt b)) ∧ RdAt w' p s (st.skip.here b) ∧ Aside p W w') := fun W hW => here_any p b s st.skip W hW
  obtain ⟨q, hq⟩ : ∃ q, q = st.skip.rest.isEmpty := ⟨_, rfl⟩
  obtain ⟨z, hz⟩ : ∃ z, z = st.skip.isAt b := ⟨_, rfl⟩
  have HSB : Hid (st.signB b = z) := hz.symm
  have HQ := hide hq
  have HZ := hide hz
  rw [← hq] at he
  rw [← hz] at HH
  have HE := hide he
  clear he hq hz h
  unfold PT at HE HH ⊢
  go_enter Tryz.func102, Tryz.ntmps102
  go_wp2_with fail
  refine HE.out.mono ?_
  rintro e w1 ⟨rfl, hR, hA⟩
  have HR := hide hR
  have HA := hide hA
  clear hR hA HE
  cases q
  · go_wp2_with fail
    refine (HH.out w1 HR.out).mono ?_
    rintro e w2 ⟨rfl, hR, hA⟩
    have HR2 := hide hR
    have HA2 := hide (HA.out.trans hA)
    clear hR hA HH
    go_wp2
    go_ret
    refine ⟨?_, HR2.out, HA2.out⟩
    rw [HSB.out]; rfl
  · have HZF : Hid (z = false) := by
      show _ = _
      rw [HZ.out]
      unfold St.isAt
      have : st.skip.rest = [] := by simpa using HQ.out.symm
      rw [this]; rfl
    have HHF : Hid (st.sign b = st.skip) := by
      show _ = _
      unfold St.sign St.here
      rw [← HZ.out, HZF.out]; rfl
    go_wp2
    go_ret
    refine ⟨?_, ?_, HA.out⟩
    · rw [HSB.out, HZF.out]; rfl
    · rw [HHF.out]; exact HR.out

theorem counted_any (p : Nat) (s : ByteArray) (st : St) (w : World) (h : RdAt w p s st) (hc : st.cnt ≤ 1000000) :
    Calls Tryz.prog 132 #[PT p] w fun r w' => r = .returned (.tuple #[]) ∧ RdAt w' p s (st.counted s.size) ∧ Aside p w w' := by
  obtain ⟨c0, c1, c2, c3, c4, c5, cf⟩ := h.cells
  have f3 := cf 3
  have HR := hide h
  have hl0 := h.big
  obtain ⟨at1, hat⟩ : ∃ a, a = s.size - st.rest.length := ⟨_, rfl⟩
  rw [← hat] at c1
  have HAT := hide hat
  have hn : RdAt (w.setCell ⟨p, 3, none⟩ (.int .i64 ((st.cnt + 1 : Nat) : Int))) p s ⟨st.rest, st.deep, st.cnt + 1, st.err, st.wh⟩ := ⟨h.blk.rd3 _, h.suf, h.len, h.big⟩
  obtain ⟨w1, hw1⟩ : ∃ w1, w1 = w.setCell ⟨p, 3, none⟩ (.int .i64 ((st.cnt + 1 : Nat) : Int)) := ⟨_, rfl⟩
  have hfl := fail_any p 3 at1 s ⟨st.rest, st.deep, st.cnt + 1, st.err, st.wh⟩ _ hn
  have d1 := hn.cells.2.1
  have d3 := hn.cells.2.2.2.1
  have ew : (w.setCell ⟨p, 3, none⟩ (.int .i64 ((st.cnt : Int) + 1))) = w1 := hw1.symm
  rw [← hw1] at hn hfl d1 d3
  simp only [] at d1 d3
  rw [← hat] at d1
  have HN := hide hn
  have HF := hide hfl
  have HA := hide (show Aside p w w1 by rw [hw1]; exact Aside.set _ _ _)
  have hcn : st.cnt + 1 ≤ 1000001 := by omega
  clear h cf hat hn hfl hw1
  unfold PT at HF ⊢
  go_enter Tryz.func132, Tryz.ntmps132
  by_cases hb : 1000 < st.cnt + 1
  · have hd : decide ((1000 : Int) < (st.cnt : Int) + 1) = true := by simp; omega
    have HE : Hid (st.counted s.size = St.fail 3 at1 ⟨st.rest, st.deep, st.cnt + 1, st.err, st.wh⟩) := by
      show _ = _
      unfold St.counted
      rw [if_pos hb, HAT.out]; rfl
    clear hb
    go_wp2_with fail
    refine HF.out.mono ?_
    rintro e w2 ⟨rfl, hR, hA⟩
    have HR2 := hide hR
    have HA2 := hide (HA.out.trans hA)
    clear hR hA HF
    go_wp2
    refine bodyPost_end (v := .tuple #[]) (by simp [results, Tryz.results132, go_sem]) rfl ?_
    refine ⟨rfl, ?_, HA2.out⟩
    rw [HE.out]; exact HR2.out
  · have hd : decide ((1000 : Int) < (st.cnt : Int) + 1) = false := by simp; omega
    have HE : Hid (st.counted s.size = ⟨st.rest, st.deep, st.cnt + 1, st.err, st.wh⟩) := by
      show _ = _
      unfold St.counted
      rw [if_neg hb]
    clear hb HF
    go_wp2
    refine bodyPost_end (v := .tuple #[]) (by simp [results, Tryz.results132, go_sem]) rfl ?_
    refine ⟨rfl, ?_, HA.out⟩
    rw [HE.out]; exact HN.out

theorem scan_le : ∀ l : List Nat, (scanN l).2 ≤ l.length
  | [] => Nat.le_refl _
  | a :: r => by
    unfold scanN
    repeat' split
    all_goals simp_all <;> omega
theorem scan_lt256 (l : List Nat) (h : ∀ x ∈ l, x < 256) : (scanN l).1 < 256 := by
  have hd : ∀ z, digitsL.contains z = true → digitsL.idxOf z < 16 := fun z hz => List.idxOf_lt_length_of_mem (List.contains_iff_mem.1 hz)
  match l with
  | [] => simp [scanN]
  | a :: r =>
    by_cases ha : a = 92
    · subst ha
      rw [scan_marked]
      match r with
      | [] => simp [scanM]
      | b :: r2 =>
        have hb := h b (by simp)
        unfold scanM
        simp only
        split
        · simp
        split
        · simp
        split
        · match r2 with
          | [] => simp [scanD]
          | [c] => simp [scanD]
          | c :: d :: _ =>
            unfold scanD
            simp only
            split
            · rename_i hh
              rw [Bool.and_eq_true] at hh
              have := hd _ hh.1
              have := hd _ hh.2
              simp only
              omega
            · simp
        split
        · simp
        · exact hb
    · have hb := h a (by simp)
      have e : scanN (a :: r) = if !plainB a || signsL.contains a then (0, 0) else (a, 1) := by
        show (if a = 92 then _ else _) = _
        rw [if_neg ha]
      rw [e]
      split
      · simp
      · exact hb
theorem RdAt.fwd {w : World} {p : Nat} {s : ByteArray} {st : St} {k : Nat} (h : RdAt w p s st) (hk : k ≤ st.rest.length) :
    RdAt (w.setCell ⟨p, 1, none⟩ (.int .i64 (s.size - st.rest.length + k : Nat))) p s (st.to (st.rest.drop k)) := by
  have hl := h.len
  have e1 : s.size - st.rest.length + k = s.size - (st.rest.drop k).length := by rw [List.length_drop]; omega
  refine ⟨?_, ?_, ?_, h.big⟩
  · rw [e1]; exact h.blk.rd1 _
  · show st.rest.drop k = (bytesN s).drop (s.size - (st.rest.drop k).length)
    rw [← e1, ← List.drop_drop, ← h.suf]
  · show (st.rest.drop k).length ≤ s.size
    rw [List.length_drop]; omega
set_option maxHeartbeats 1000000 in
theorem byte_any (p : Nat) (s : ByteArray) (st : St) (w : World) (h : RdAt w p s st) :
    Calls Tryz.prog 135 #[PT p] w fun r w' => r = .returned (.int .u8 st.byteV) ∧ RdAt w' p s (st.byte s.size) ∧ Aside p w w' := by
  have HR := hide h
  obtain ⟨at1, hat⟩ : ∃ a, a = s.size - st.rest.length := ⟨_, rfl⟩
  have HAT := hide hat
  have hs0 := h.big
  have hle : at1 ≤ s.size := by omega
  obtain ⟨u, hu⟩ : ∃ u, u = (scanN st.rest).1 := ⟨_, rfl⟩
  obtain ⟨m, hm⟩ : ∃ m, m = (scanN st.rest).2 := ⟨_, rfl⟩
  have hms : m ≤ s.size := by have h1 := scan_le st.rest; have h2 := h.len; omega
  have hmr : m ≤ st.rest.length := by have h1 := scan_le st.rest; omega
  obtain ⟨C, hC⟩ : ∃ C : World → Prop, C = fun W => Below w.heap.size w W := ⟨_, rfl⟩
  have HG : Hid (Grows C) := by rw [hC]; exact fun W W' h1 h2 => h1.trans (h2.mono h1.size)
  have HCD : Hid (C { w with drawn := w.drawn + 1 }) := by rw [hC]; exact ⟨rfl, rfl, rfl, Nat.le_refl _, fun _ _ => rfl⟩
  have HCB : Hid (∀ W, C W → Below w.heap.size w W) := by rw [hC]; exact fun W h => h
  have HC0 : Hid (∀ W, C W → W.cell? ⟨p, 0, none⟩ = some (.string s)) := fun W hW => (HR.out.keep (HCB.out W hW)).cells.1
  have HC1 : Hid (∀ W, C W → W.cell? ⟨p, 1, none⟩ = some (.int .i64 at1)) := fun W hW => by rw [hat]; exact (HR.out.keep (HCB.out W hW)).cells.2.1
  have HQS : Hid (∀ W, C W → Calls Tryz.prog 136 #[.string (s.extract at1 s.size)] W fun e w' => e = .returned (.tuple #[.int .u8 u, .int .i64 m]) ∧ Below W.heap.size W w') := fun W _ => by
    have e : bytesN (s.extract at1 s.size) = st.rest := by rw [bN_drop, hat, ← h.suf]
    have hsz : (s.extract at1 s.size).size ≤ 1000000 := by rw [← bN_len, e]; have := h.len; omega
    have := scan_any (s.extract at1 s.size) W hsz
    rw [e, ← hu, ← hm] at this
    exact this
  have HBV : Hid (st.byteV = u) := hu.symm
  have HBY : Hid (st.byte s.size = if m = 0 then st.fail 2 at1 else st.to (st.rest.drop m)) := by
    show _ = _
    unfold St.byte St.pos
    rw [← hm, ← hat]
  clear hC hat h hu hm
  unfold PT
  go_enter Tryz.func135, Tryz.ntmps135
  go_wp2
  have hG := HG.out
  have hc0 := HC0.out
  have hc1 := HC1.out
  have hqs := HQS.out
  refine w_lit (C := C) (by kernel_rfl) (by kernel_rfl) HCD.out ?_
  refine w_value (PT p) (by kernel_rfl) (fun w hw => x_move _ _ _ _ _ _ _ _ rfl w) ?_
  simp only [Act.put, List.setIfInBounds_toArray, List.set_cons_succ, List.set_cons_zero]
  refine w_value (PT p) (by kernel_rfl) (fun w hw => x_nilCheck _ _ _ _ _ _ _ _ rfl w) ?_
  simp only [Act.put, List.setIfInBounds_toArray, List.set_cons_succ, List.set_cons_zero]
  refine w_value (PT p) (by kernel_rfl) (fun w hw => x_fieldR0 _ _ _ _ _ _ _ p rfl w) ?_
  simp only [Act.put, List.setIfInBounds_toArray, List.set_cons_succ, List.set_cons_zero]
  refine w_value (.string s) (by kernel_rfl) (fun w hw => x_loadStr _ _ _ _ _ _ _ p 0 _ rfl w (hc0 w hw)) ?_
  simp only [Act.put, List.setIfInBounds_toArray, List.set_cons_succ, List.set_cons_zero]
  refine w_value (PT p) (by kernel_rfl) (fun w hw => x_move _ _ _ _ _ _ _ _ rfl w) ?_
  simp only [Act.put, List.setIfInBounds_toArray, List.set_cons_succ, List.set_cons_zero]
  refine w_value (PT p) (by kernel_rfl) (fun w hw => x_nilCheck _ _ _ _ _ _ _ _ rfl w) ?_
  simp only [Act.put, List.setIfInBounds_toArray, List.set_cons_succ, List.set_cons_zero]
  refine w_value (.pointer (some ⟨p, 1, none⟩)) (by kernel_rfl) (fun w hw => x_fieldR1 _ _ _ _ _ _ _ p rfl w) ?_
  simp only [Act.put, List.setIfInBounds_toArray, List.set_cons_succ, List.set_cons_zero]
  refine w_value (.int .i64 at1) (by kernel_rfl) (fun w hw => x_loadInt _ _ _ _ _ _ _ p 1 _ rfl w (hc1 w hw)) ?_
  simp only [Act.put, List.setIfInBounds_toArray, List.set_cons_succ, List.set_cons_zero]
  refine w_value (.string (s.extract at1 s.size)) (by kernel_rfl) (fun w hw => x_strFrom _ _ _ _ _ _ _ _ s at1 rfl rfl hle w) ?_
  simp only [Act.put, List.setIfInBounds_toArray, List.set_cons_succ, List.set_cons_zero]
  refine w_call hG 136 #[.string (s.extract at1 s.size)] (.tuple #[.int .u8 u, .int .i64 m]) (by kernel_rfl) (fun w => x_call1 _ _ _ _ _ _ _ _ _ _ rfl rfl (enters_of Tryz.func136 (by kernel_rfl) rfl) w) (fun w hw => hqs w hw) ?_
  simp only [Act.put, List.setIfInBounds_toArray, List.set_cons_succ, List.set_cons_zero]
  refine w_value (.tuple #[.int .u8 u, .int .i64 m]) (by kernel_rfl) (fun w hw => x_move _ _ _ _ _ _ _ _ rfl w) ?_
  simp only [Act.put, List.setIfInBounds_toArray, List.set_cons_succ, List.set_cons_zero]
  refine w_value (.int .u8 u) (by kernel_rfl) (fun w hw => x_ext0 _ _ _ _ _ _ _ (.int .u8 u) (.int .i64 m) rfl w) ?_
  simp only [Act.put, List.setIfInBounds_toArray, List.set_cons_succ, List.set_cons_zero]
  refine w_value (.int .i64 m) (by kernel_rfl) (fun w hw => x_ext1 _ _ _ _ _ _ _ (.int .u8 u) (.int .i64 m) rfl w) ?_
  simp only [Act.put, List.setIfInBounds_toArray, List.set_cons_succ, List.set_cons_zero]
  refine w_value (.int .u8 u) (by kernel_rfl) (fun w hw => x_assign _ _ _ _ _ _ _ _ rfl w) ?_
  simp only [Act.put, List.setIfInBounds_toArray, List.set_cons_succ, List.set_cons_zero]
  refine w_value (.int .i64 m) (by kernel_rfl) (fun w hw => x_assign _ _ _ _ _ _ _ _ rfl w) ?_
  simp only [Act.put, List.setIfInBounds_toArray, List.set_cons_succ, List.set_cons_zero]
  refine w_nil ?_
  intro W hW
  have HW := hide hW
  have d1 := hc1 W hW
  have hRW := HR.out.keep (HCB.out W hW)
  have df := hRW.cells.2.2.2.2.2.2 1
  have HRW := hide hRW
  clear hW hG hc0 hc1 hqs hRW
  by_cases hm0 : m = 0
  · have hz : ((m : Int) == 0) = true := by simp [hm0]
    have HE : Hid (st.byte s.size = st.fail 2 at1) := by show _ = _; rw [HBY.out, if_pos hm0]
    have HF := hide (fail_any p 2 at1 s st W HRW.out)
    subst hm0
    unfold PT at HF
    go_wp2_with fail
    refine HF.out.mono ?_
    rintro e w2 ⟨rfl, hR, hA⟩
    have HR2 := hide hR
    have HA2 := hide ((Aside.of_below (HCB.out W HW.out)).trans hA)
    have g1 := hR.cells.2.1
    have gf := hR.cells.2.2.2.2.2.2 1
    have e0 : s.size - (St.fail 2 at1 st).rest.length = s.size := by simp [St.fail]
    rw [e0] at g1
    clear hR hA HF d1 df e0
    go_wp2
    go_ret
    refine ⟨?_, ?_, ?_⟩
    · rw [HBV.out]; rfl
    · rw [HE.out]
      have hb : Blk w2 p (rdC s s.size (St.fail 2 at1 st).deep (St.fail 2 at1 st).cnt (St.fail 2 at1 st).err (St.fail 2 at1 st).wh) 119 := by
        have := HR2.out.blk
        simpa [St.fail] using this
      exact ⟨by have := hb.rd1 s.size; simpa [St.fail] using this, HR2.out.suf, HR2.out.len, HR2.out.big⟩
    · exact HA2.out.trans (Aside.set _ _ _)
  · have hz : ((m : Int) == 0) = false := beq_eq_false_iff_ne.2 (by omega)
    have HE : Hid (st.byte s.size = st.to (st.rest.drop m)) := by show _ = _; rw [HBY.out, if_neg hm0]
    have hfw := HRW.out.fwd hmr
    rw [← HAT.out] at hfw
    have HFW := hide hfw
    clear hfw hm0
    go_wp2
    go_ret
    refine ⟨?_, ?_, (Aside.of_below (HCB.out W HW.out)).trans (Aside.set _ _ _)⟩
    · rw [HBV.out]; rfl
    · rw [HE.out]; exact HFW.out
end Go.Proofs.YtjlgepahgmkamaaGreatDoor
