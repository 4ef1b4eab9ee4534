/- Texts of this claim put together: TrC, TrD, ShB. -/
import Derived.Test.YtdbdjjjmomociaaGreatDoorJoinTwC
import Derived.Test.YtdbdjjjmomociaaGreatDoorJoinReI
import Derived.Test.YtdbdjjjmomociaaGreatDoorJoinReO
import Derived.Deep.LoopGhost
/- The reader in memory: fail, end, here, sign, byte, counted. -/
namespace Go.Proofs.YtdbdjjjmomociaaGreatDoor
set_option maxRecDepth 100000
set_option linter.unusedSimpArgs false
set_option linter.unusedVariables false
open Go.RowKit

/-- All but one block is as it was. -/
structure Aside (p : Nat) (W W' : World) : Prop where
  os : W'.os = W.os
  tape : W'.tape = W.tape
  output : W'.output = W.output
  size : W.heap.size ≤ W'.heap.size
  block : ∀ k, k < W.heap.size → k ≠ p → W'.heap[k]? = W.heap[k]?
theorem Aside.refl (p : Nat) (W : World) : Aside p W W := ⟨rfl, rfl, rfl, Nat.le_refl _, fun _ _ _ => rfl⟩
theorem Aside.trans {p : Nat} {A B C : World} (h : Aside p A B) (k : Aside p B C) : Aside p A C :=
  ⟨k.os.trans h.os, k.tape.trans h.tape, k.output.trans h.output, Nat.le_trans h.size k.size, fun i hi hp => (k.block i (Nat.lt_of_lt_of_le hi h.size) hp).trans (h.block i hi hp)⟩
theorem Aside.of_below {p : Nat} {A B : World} (h : Below A.heap.size A B) : Aside p A B := ⟨h.os, h.tape, h.output, h.size, fun k hk _ => h.block k hk⟩
theorem Aside.set {p : Nat} (W : World) (i : Nat) (v : Value) : Aside p W (W.setCell ⟨p, i, none⟩ v) :=
  ⟨rfl, rfl, rfl, by simp [World.setCell], fun k _ hk => Below.heap_setCell _ _ _ _ hk⟩
theorem Aside.below {p B : Nat} {W W' : World} (h : Aside p W W') (hB : B ≤ W.heap.size) (hp : B ≤ p) : Below B W W' := ⟨h.os, h.tape, h.output, h.size, fun k hk => h.block k (by omega) (by omega)⟩

/-- The reader's cells. -/
def rdC (s : ByteArray) (a d c e h : Nat) : Array Value := #[.string s, .int .i64 a, .int .i64 d, .int .i64 c, .int .i64 e, .int .i64 h]
structure RdAt (w : World) (p : Nat) (s : ByteArray) (st : St) : Prop where
  blk : Blk w p (rdC s (s.size - st.rest.length) st.deep st.cnt st.err st.wh) 73
  suf : st.rest = (bytesN s).drop (s.size - st.rest.length)
  len : st.rest.length ≤ s.size
  big : s.size ≤ 65536
theorem RdAt.keep {w w' : World} {p : Nat} {s : ByteArray} {st : St} (h : RdAt w p s st) (hb : Below w.heap.size w w') : RdAt w' p s st := ⟨h.blk.below hb h.blk.lt, h.suf, h.len, h.big⟩
/-- What an expression reads is no reader. -/
theorem ReAt.aside {w w' : World} {p b : Nat} {s : ByteArray} {st : St} {r : RE} (h : ReAt w b r) (hp : RdAt w p s st) (ha : Aside p w w') : ReAt w' b r := by
  induction h with
  | mk b o s0 ks v bs blk row kid ih =>
    have hbp : b ≠ p := fun e => by
      subst e
      have := blk.of_cells.symm.trans hp.blk.of_cells
      injection this with this
      injection this with h1 h2
      simp [reC, rdC] at h1
    refine .mk b o s0 ks v bs ((ha.block b blk.lt hbp).trans blk) ?_ ih
    obtain ⟨h1, a, cap, rfl, h2⟩ := row
    refine ⟨h1, a, cap, rfl, fun k hk => ?_⟩
    obtain ⟨b', off, e, hlt, hcell⟩ := h2 k hk
    refine ⟨b', off, e, Nat.lt_of_lt_of_le hlt ha.size, ?_⟩
    rw [← hcell]
    refine World.cell?_of_block (w := w) (ha.block b' hlt fun e => ?_)
    subst e
    rw [hp.blk.cell] at hcell
    have hmem := Array.mem_of_getElem? hcell
    simp [rdC, PT] at hmem
theorem TabAt.aside {w w' : World} {p : Nat} {s : ByteArray} {st : St} (h : TabAt w) (hp : RdAt w p s st) (ha : Aside p w w') : TabAt w' := fun j hj => by
  have hc := h j hj
  rw [← hc]
  refine World.cell?_of_block (w := w) (ha.block _ (World.block_lt_of_cell? _ _ hc) fun e => ?_)
  have e : 0 = p := e
  rw [e, hp.blk.cell] at hc
  have hmem := Array.mem_of_getElem? hc
  simp [rdC] at hmem
theorem x_fieldR0 (ρ : Operand → Value) (d : Option Tmp) (x : Operand) (t : TypeId) (pos : String) (af : Array Edge) (g : Option (Nat × Bool)) (b : Nat) (hx : ρ x = PT b) (w : World) :
    (execOp ρ { dst := d, op := .fieldAddr 73 x 0, type := t, pos := pos, after := af, guard := g }).run Tryz.prog w = .ok (.value (.pointer (some ⟨b, 0, none⟩))) w := by
  simp [go_sem, hx, PT]
theorem x_fieldR1 (ρ : Operand → Value) (d : Option Tmp) (x : Operand) (t : TypeId) (pos : String) (af : Array Edge) (g : Option (Nat × Bool)) (b : Nat) (hx : ρ x = PT b) (w : World) :
    (execOp ρ { dst := d, op := .fieldAddr 73 x 1, type := t, pos := pos, after := af, guard := g }).run Tryz.prog w = .ok (.value (.pointer (some ⟨b, 1, none⟩))) w := by
  simp [go_sem, hx, PT]
theorem x_fieldR2 (ρ : Operand → Value) (d : Option Tmp) (x : Operand) (t : TypeId) (pos : String) (af : Array Edge) (g : Option (Nat × Bool)) (b : Nat) (hx : ρ x = PT b) (w : World) :
    (execOp ρ { dst := d, op := .fieldAddr 73 x 2, type := t, pos := pos, after := af, guard := g }).run Tryz.prog w = .ok (.value (.pointer (some ⟨b, 2, none⟩))) w := by
  simp [go_sem, hx, PT]
theorem x_fieldR3 (ρ : Operand → Value) (d : Option Tmp) (x : Operand) (t : TypeId) (pos : String) (af : Array Edge) (g : Option (Nat × Bool)) (b : Nat) (hx : ρ x = PT b) (w : World) :
    (execOp ρ { dst := d, op := .fieldAddr 73 x 3, type := t, pos := pos, after := af, guard := g }).run Tryz.prog w = .ok (.value (.pointer (some ⟨b, 3, none⟩))) w := by
  simp [go_sem, hx, PT]
theorem x_fieldR4 (ρ : Operand → Value) (d : Option Tmp) (x : Operand) (t : TypeId) (pos : String) (af : Array Edge) (g : Option (Nat × Bool)) (b : Nat) (hx : ρ x = PT b) (w : World) :
    (execOp ρ { dst := d, op := .fieldAddr 73 x 4, type := t, pos := pos, after := af, guard := g }).run Tryz.prog w = .ok (.value (.pointer (some ⟨b, 4, none⟩))) w := by
  simp [go_sem, hx, PT]
theorem x_fieldR5 (ρ : Operand → Value) (d : Option Tmp) (x : Operand) (t : TypeId) (pos : String) (af : Array Edge) (g : Option (Nat × Bool)) (b : Nat) (hx : ρ x = PT b) (w : World) :
    (execOp ρ { dst := d, op := .fieldAddr 73 x 5, type := t, pos := pos, after := af, guard := g }).run Tryz.prog w = .ok (.value (.pointer (some ⟨b, 5, none⟩))) w := by
  simp [go_sem, hx, PT]
theorem x_loadStr (ρ : Operand → Value) (d : Option Tmp) (x : Operand) (t : TypeId) (pos : String) (af : Array Edge) (g : Option (Nat × Bool)) (b n : Nat) (v : ByteArray) (hx : ρ x = .pointer (some ⟨b, n, none⟩)) (w : World) (hc : w.cell? ⟨b, n, none⟩ = some (.string v)) :
    (execOp ρ { dst := d, op := .load 9 x, type := t, pos := pos, after := af, guard := g }).run Tryz.prog w = .ok (.value (.string v)) w := by
  simp [go_sem, hx, hc]
theorem x_loadErr (ρ : Operand → Value) (d : Option Tmp) (x : Operand) (t : TypeId) (pos : String) (af : Array Edge) (g : Option (Nat × Bool)) (b n : Nat) (v : Int) (hx : ρ x = .pointer (some ⟨b, n, none⟩)) (w : World) (hc : w.cell? ⟨b, n, none⟩ = some (.int .i64 v)) :
    (execOp ρ { dst := d, op := .load 24 x, type := t, pos := pos, after := af, guard := g }).run Tryz.prog w = .ok (.value (.int .i64 v)) w := by
  simp [go_sem, hx, hc]
theorem x_lssB (ρ : Operand → Value) (d : Option Tmp) (x y : Operand) (t : TypeId) (pos : String) (af : Array Edge) (g : Option (Nat × Bool)) (u v : Int) (c : Bool) (h : decide (u < v) = c) (hx : ρ x = .int .i64 u) (hy : ρ y = .int .i64 v) (w : World) :
    (execOp ρ { dst := d, op := .binOp .lss 3 x y 3, type := t, pos := pos, after := af, guard := g }).run Tryz.prog w = .ok (.value (.bool c)) w := by
  rw [← h]; simp [go_sem, hx, hy]
theorem x_geqB (ρ : Operand → Value) (d : Option Tmp) (x y : Operand) (t : TypeId) (pos : String) (af : Array Edge) (g : Option (Nat × Bool)) (u v : Int) (c : Bool) (h : decide (v ≤ u) = c) (hx : ρ x = .int .i64 u) (hy : ρ y = .int .i64 v) (w : World) :
    (execOp ρ { dst := d, op := .binOp .geq 3 x y 3, type := t, pos := pos, after := af, guard := g }).run Tryz.prog w = .ok (.value (.bool c)) w := by
  rw [← h]; simp [go_sem, hx, hy]
theorem x_eqU8B (ρ : Operand → Value) (d : Option Tmp) (x y : Operand) (t : TypeId) (pos : String) (af : Array Edge) (g : Option (Nat × Bool)) (u v : Int) (c : Bool) (h : (u == v) = c) (hx : ρ x = .int .u8 u) (hy : ρ y = .int .u8 v) (w : World) :
    (execOp ρ { dst := d, op := .binOp .eql 5 x y 5, type := t, pos := pos, after := af, guard := g }).run Tryz.prog w = .ok (.value (.bool c)) w := by
  rw [← h]; simp [go_sem, hx, hy]
theorem x_lenS (ρ : Operand → Value) (d : Option Tmp) (x : Operand) (ty : TypeId) (pos : String) (af : Array Edge) (g : Option (Nat × Bool)) (t : ByteArray) (hx : ρ x = .string t) (w : World) :
    (execOp ρ { dst := d, op := .call { callee := .builtin .len, args := #[x], argTypes := #[9] }, type := ty, pos := pos, after := af, guard := g }).run Tryz.prog w = .ok (.value (.int .i64 t.size)) w := by
  simp [go_sem, hx]
theorem x_strFrom (ρ : Operand → Value) (d : Option Tmp) (x y : Operand) (ty : TypeId) (pos : String) (af : Array Edge) (g : Option (Nat × Bool)) (t : ByteArray) (i : Nat) (hx : ρ x = .string t) (hy : ρ y = .int .i64 i) (h1 : i ≤ t.size) (w : World) :
    (execOp ρ { dst := d, op := .slice 9 x (some y) none none, type := ty, pos := pos, after := af, guard := g }).run Tryz.prog w = .ok (.value (.string (t.extract i t.size))) w := by
  simp [go_sem, hx, hy, h1]
theorem x_ext0 (ρ : Operand → Value) (d : Option Tmp) (x : Operand) (ty : TypeId) (pos : String) (af : Array Edge) (g : Option (Nat × Bool)) (u v : Value) (hx : ρ x = .tuple #[u, v]) (w : World) :
    (execOp ρ { dst := d, op := .extract x 0, type := ty, pos := pos, after := af, guard := g }).run Tryz.prog w = .ok (.value u) w := by
  simp [go_sem, hx]
theorem x_ext1 (ρ : Operand → Value) (d : Option Tmp) (x : Operand) (ty : TypeId) (pos : String) (af : Array Edge) (g : Option (Nat × Bool)) (u v : Value) (hx : ρ x = .tuple #[u, v]) (w : World) :
    (execOp ρ { dst := d, op := .extract x 1, type := ty, pos := pos, after := af, guard := g }).run Tryz.prog w = .ok (.value v) w := by
  simp [go_sem, hx]

theorem RdAt.cells {w : World} {p : Nat} {s : ByteArray} {st : St} (h : RdAt w p s st) :
    w.cell? ⟨p, 0, none⟩ = some (.string s) ∧ w.cell? ⟨p, 1, none⟩ = some (.int .i64 (s.size - st.rest.length : Nat)) ∧ w.cell? ⟨p, 2, none⟩ = some (.int .i64 st.deep) ∧ w.cell? ⟨p, 3, none⟩ = some (.int .i64 st.cnt) ∧ w.cell? ⟨p, 4, none⟩ = some (.int .i64 st.err) ∧ w.cell? ⟨p, 5, none⟩ = some (.int .i64 st.wh) ∧ ∀ i, w.frozen? ⟨p, i, none⟩ = false :=
  ⟨h.blk.cell 0, h.blk.cell 1, h.blk.cell 2, h.blk.cell 3, h.blk.cell 4, h.blk.cell 5, fun i => h.blk.frozen i⟩


theorem rdC_set1 (s : ByteArray) (a d c e h n : Nat) : (rdC s a d c e h).setIfInBounds 1 (.int .i64 n) = rdC s n d c e h := rfl
theorem rdC_set2 (s : ByteArray) (a d c e h n : Nat) : (rdC s a d c e h).setIfInBounds 2 (.int .i64 n) = rdC s a n c e h := rfl
theorem rdC_set3 (s : ByteArray) (a d c e h n : Nat) : (rdC s a d c e h).setIfInBounds 3 (.int .i64 n) = rdC s a d n e h := rfl
theorem rdC_set4 (s : ByteArray) (a d c e h n : Nat) : (rdC s a d c e h).setIfInBounds 4 (.int .i64 n) = rdC s a d c n h := rfl
theorem rdC_set5 (s : ByteArray) (a d c e h n : Nat) : (rdC s a d c e h).setIfInBounds 5 (.int .i64 n) = rdC s a d c e n := rfl
theorem Blk.rd1 {w : World} {p : Nat} {s : ByteArray} {a d c e h : Nat} (hb : Blk w p (rdC s a d c e h) 73) (n : Nat) : Blk (w.setCell ⟨p, 1, none⟩ (.int .i64 n)) p (rdC s n d c e h) 73 := hb.set 1 (.int .i64 n)
theorem Blk.rd2 {w : World} {p : Nat} {s : ByteArray} {a d c e h : Nat} (hb : Blk w p (rdC s a d c e h) 73) (n : Nat) : Blk (w.setCell ⟨p, 2, none⟩ (.int .i64 n)) p (rdC s a n c e h) 73 := hb.set 2 (.int .i64 n)
theorem Blk.rd3 {w : World} {p : Nat} {s : ByteArray} {a d c e h : Nat} (hb : Blk w p (rdC s a d c e h) 73) (n : Nat) : Blk (w.setCell ⟨p, 3, none⟩ (.int .i64 n)) p (rdC s a d n e h) 73 := hb.set 3 (.int .i64 n)
theorem Blk.rd4 {w : World} {p : Nat} {s : ByteArray} {a d c e h : Nat} (hb : Blk w p (rdC s a d c e h) 73) (n : Nat) : Blk (w.setCell ⟨p, 4, none⟩ (.int .i64 n)) p (rdC s a d c n h) 73 := hb.set 4 (.int .i64 n)
theorem Blk.rd5 {w : World} {p : Nat} {s : ByteArray} {a d c e h : Nat} (hb : Blk w p (rdC s a d c e h) 73) (n : Nat) : Blk (w.setCell ⟨p, 5, none⟩ (.int .i64 n)) p (rdC s a d c e n) 73 := hb.set 5 (.int .i64 n)
theorem RdAt.end_suf (s : ByteArray) : ([] : List Nat) = (bytesN s).drop (s.size - ([] : List Nat).length) := by
  rw [List.length_nil, Nat.sub_zero, List.drop_of_length_le (by rw [bN_len]; exact Nat.le_refl _)]

set_option maxHeartbeats 1000000 in
theorem fail_any (p e x : Nat) (s : ByteArray) (st : St) (w : World) (h : RdAt w p s st) :
    Calls Tryz.prog 37 #[PT p, .int .i64 e, .int .i64 x] w fun r w' => r = .returned (.tuple #[]) ∧ RdAt w' p s (st.fail e x) ∧ Aside p w w' := by
  obtain ⟨c0, c1, c2, c3, c4, c5, cf⟩ := h.cells
  have f1 := cf 1; have f4 := cf 4; have f5 := cf 5
  have HB := hide h.blk
  have hl0 := h.big
  obtain ⟨at1, hat⟩ : ∃ a, a = s.size - st.rest.length := ⟨_, rfl⟩
  rw [← hat] at c1 HB
  clear h cf hat
  unfold PT
  go_enter Tryz.func37, Tryz.ntmps37
  by_cases he : st.err = 0
  · have HE := hide he
    rw [he] at c4
    clear he
    go_wp2
    refine bodyPost_end (v := .tuple #[]) (by simp [results, Tryz.results37, go_sem]) rfl ?_
    refine ⟨rfl, ⟨?_, RdAt.end_suf s, by simp [St.fail], hl0⟩, ((Aside.set _ _ _).trans (Aside.set _ _ _)).trans (Aside.set _ _ _)⟩
    have hb := ((HB.out.rd4 e).rd5 x).rd1 s.size
    unfold St.fail
    rw [if_pos HE.out, if_pos HE.out]
    exact hb
  · have hne : ((st.err : Int) == 0) = false := beq_eq_false_iff_ne.2 (by omega)
    have HE := hide he
    clear he
    go_wp2
    refine bodyPost_end (v := .tuple #[]) (by simp [results, Tryz.results37, go_sem]) rfl ?_
    refine ⟨rfl, ⟨?_, RdAt.end_suf s, by simp [St.fail], hl0⟩, Aside.set _ _ _⟩
    have hb := HB.out.rd1 s.size
    unfold St.fail
    rw [if_neg HE.out, if_neg HE.out]
    exact hb

/-- Where the reader is. -/
def atOf (W : World) (p : Nat) : Nat := match W.cell? ⟨p, 1, none⟩ with | some v => (intOf v).toNat | none => 0
theorem RdAt.atOf {w : World} {p : Nat} {s : ByteArray} {st : St} (h : RdAt w p s st) : atOf w p = s.size - st.rest.length := by
  unfold Go.Proofs.YtdbdjjjmomociaaGreatDoor.atOf
  rw [h.cells.2.1]
  simp [intOf]
/-- One byte further. -/
theorem RdAt.next {w : World} {p : Nat} {s : ByteArray} {st : St} {c : Nat} {r : List Nat} (h : RdAt w p s st) (hr : st.rest = c :: r) :
    RdAt (w.setCell ⟨p, 1, none⟩ (.int .i64 (s.size - st.rest.length + 1 : Nat))) p s (st.to r) ∧ (bytesN s)[s.size - st.rest.length]? = some c ∧ s.size - st.rest.length < s.size := by
  have hl := h.len
  have hsf := h.suf
  rw [hr, List.length_cons] at hl
  have e1 : s.size - st.rest.length + 1 = s.size - r.length := by rw [hr, List.length_cons]; omega
  refine ⟨⟨?_, ?_, ?_, h.big⟩, ?_, by rw [hr, List.length_cons]; omega⟩
  · rw [e1]; exact h.blk.rd1 _
  · have := congrArg List.tail hsf
    rw [hr, List.tail_cons, List.tail_drop, List.length_cons] at this
    show r = (bytesN s).drop (s.size - r.length)
    rw [this]
    congr 1
    have : (List.drop (s.size - (r.length + 1) + 1) (bytesN s)).length = r.length := by rw [List.length_drop, bN_len]; omega
    omega
  · show r.length ≤ s.size; omega
  · have h0 : (List.drop (s.size - st.rest.length) (bytesN s))[0]? = st.rest[0]? := by rw [← hsf]
    rw [List.getElem?_drop, Nat.add_zero] at h0
    rw [h0, hr]; rfl

set_option maxHeartbeats 2000000 in
theorem end_any (p : Nat) (s : ByteArray) (st : St) (w : World) (h : RdAt w p s st) :
    Calls Tryz.prog 36 #[PT p] w fun r w' => r = .returned (.bool (st.skip.rest.isEmpty)) ∧ RdAt w' p s st.skip ∧ Aside p w w' := by
  have H := hide h
  clear h
  go_enter Tryz.func36, Tryz.ntmps36
  unfold PT
  go_wp2
  go_loopw [26] (fun _ wr => Hid (∃ st1, st1.skip = st.skip ∧ RdAt wr p s st1 ∧ Aside p w wr)) (fun _ wr => s.size - atOf wr p)
  case atStart => exact ⟨st, rfl, H.out, Aside.refl _ _⟩
  case round =>
    obtain ⟨st1, hsk, hR, hA⟩ := hrel
    obtain ⟨c0, c1, c2, c3, c4, c5, cf⟩ := hR.cells
    have HR := hide hR
    have HA := hide hA
    have HSK := hide hsk
    clear hR hA hsk
    obtain ⟨at1, hat⟩ : ∃ a, a = s.size - st1.rest.length := ⟨_, rfl⟩
    have HAT := hide hat
    rw [← hat] at c1
    have hs0 := HR.out.big
    have hal : at1 ≤ s.size := by omega
    obtain ⟨C, hC⟩ : ∃ C : World → Prop, C = fun W => Below wr.heap.size wr W := ⟨_, rfl⟩
    have HG : Hid (Grows C) := by rw [hC]; exact fun W W' h1 h2 => h1.trans (h2.mono h1.size)
    have HCD : Hid (C { wr with drawn := wr.drawn + 1 }) := by rw [hC]; exact ⟨rfl, rfl, rfl, Nat.le_refl _, fun _ _ => rfl⟩
    have HCB : Hid (∀ W, C W → Below wr.heap.size wr W) := by rw [hC]; exact fun W h => h
    have HCS : Hid (∀ W, C W → C { W with drawn := W.drawn + 1 }) := by rw [hC]; exact fun W h => h.trans ⟨rfl, rfl, rfl, Nat.le_refl _, fun _ _ => rfl⟩
    have HC0 : Hid (∀ W, C W → W.cell? ⟨p, 0, none⟩ = some (.string s)) := fun W hW => (HR.out.keep (HCB.out W hW)).cells.1
    have HC1 : Hid (∀ W, C W → W.cell? ⟨p, 1, none⟩ = some (.int .i64 at1)) := fun W hW => by rw [hat]; exact (HR.out.keep (HCB.out W hW)).cells.2.1
    clear hC hat cf
    match hr : st1.rest with
    | [] =>
      have hlt : decide ((at1 : Int) < s.size) = false := by
        have := HAT.out
        rw [hr] at this
        simp at this
        simp; omega
      have heq : ((at1 : Int) == s.size) = true := by
        have := HAT.out
        rw [hr] at this
        simp at this
        simp; omega
      have HE : Hid (st.skip.rest.isEmpty = true) := by
        show _ = _
        rw [← HSK.out]
        unfold St.skip St.to
        rw [hr]; rfl
      have HX : Hid (st1.rest = []) := hr
      clear hr
      go_wp2
      have hG := HG.out
      have hc0 := HC0.out
      have hc1 := HC1.out
      refine w_lit (C := C) (by kernel_rfl) (by kernel_rfl) HCD.out ?_
      refine w_value (PT p) (by kernel_rfl) (fun w hw => x_move _ _ _ _ _ _ _ _ rfl w) ?_
      simp only [Act.put, List.setIfInBounds_toArray, List.set_cons_succ, List.set_cons_zero]
      refine w_value (PT p) (by kernel_rfl) (fun w hw => x_nilCheck _ _ _ _ _ _ _ _ rfl w) ?_
      simp only [Act.put, List.setIfInBounds_toArray, List.set_cons_succ, List.set_cons_zero]
      refine w_value (.pointer (some ⟨p, 1, none⟩)) (by kernel_rfl) (fun w hw => x_fieldR1 _ _ _ _ _ _ _ p rfl w) ?_
      simp only [Act.put, List.setIfInBounds_toArray, List.set_cons_succ, List.set_cons_zero]
      refine w_value (.int .i64 at1) (by kernel_rfl) (fun w hw => x_loadInt _ _ _ _ _ _ _ p 1 _ rfl w (hc1 w hw)) ?_
      simp only [Act.put, List.setIfInBounds_toArray, List.set_cons_succ, List.set_cons_zero]
      refine w_value (PT p) (by kernel_rfl) (fun w hw => x_move _ _ _ _ _ _ _ _ rfl w) ?_
      simp only [Act.put, List.setIfInBounds_toArray, List.set_cons_succ, List.set_cons_zero]
      refine w_value (PT p) (by kernel_rfl) (fun w hw => x_nilCheck _ _ _ _ _ _ _ _ rfl w) ?_
      simp only [Act.put, List.setIfInBounds_toArray, List.set_cons_succ, List.set_cons_zero]
      refine w_value (PT p) (by kernel_rfl) (fun w hw => x_fieldR0 _ _ _ _ _ _ _ p rfl w) ?_
      simp only [Act.put, List.setIfInBounds_toArray, List.set_cons_succ, List.set_cons_zero]
      refine w_value (.string s) (by kernel_rfl) (fun w hw => x_loadStr _ _ _ _ _ _ _ p 0 _ rfl w (hc0 w hw)) ?_
      simp only [Act.put, List.setIfInBounds_toArray, List.set_cons_succ, List.set_cons_zero]
      refine w_value (.int .i64 s.size) (by kernel_rfl) (fun w hw => x_lenS _ _ _ _ _ _ _ s rfl w) ?_
      simp only [Act.put, List.setIfInBounds_toArray, List.set_cons_succ, List.set_cons_zero]
      refine w_value (.bool false) (by kernel_rfl) (fun w hw => x_lssB _ _ _ _ _ _ _ _ at1 s.size _ hlt rfl rfl w) ?_
      simp only [Act.put, List.setIfInBounds_toArray, List.set_cons_succ, List.set_cons_zero]
      refine w_value (.bool false) (by kernel_rfl) (fun w hw => x_move _ _ _ _ _ _ _ _ rfl w) ?_
      simp only [Act.put, List.setIfInBounds_toArray, List.set_cons_succ, List.set_cons_zero]
      refine w_skip (by kernel_rfl) ?_
      simp only [Act.put, List.setIfInBounds_toArray, List.set_cons_succ, List.set_cons_zero]
      refine w_skip (by kernel_rfl) ?_
      simp only [Act.put, List.setIfInBounds_toArray, List.set_cons_succ, List.set_cons_zero]
      refine w_skip (by kernel_rfl) ?_
      simp only [Act.put, List.setIfInBounds_toArray, List.set_cons_succ, List.set_cons_zero]
      refine w_skip (by kernel_rfl) ?_
      simp only [Act.put, List.setIfInBounds_toArray, List.set_cons_succ, List.set_cons_zero]
      refine w_skip (by kernel_rfl) ?_
      simp only [Act.put, List.setIfInBounds_toArray, List.set_cons_succ, List.set_cons_zero]
      refine w_skip (by kernel_rfl) ?_
      simp only [Act.put, List.setIfInBounds_toArray, List.set_cons_succ, List.set_cons_zero]
      refine w_skip (by kernel_rfl) ?_
      simp only [Act.put, List.setIfInBounds_toArray, List.set_cons_succ, List.set_cons_zero]
      refine w_skip (by kernel_rfl) ?_
      simp only [Act.put, List.setIfInBounds_toArray, List.set_cons_succ, List.set_cons_zero]
      refine w_skip (by kernel_rfl) ?_
      simp only [Act.put, List.setIfInBounds_toArray, List.set_cons_succ, List.set_cons_zero]
      refine w_skip (by kernel_rfl) ?_
      simp only [Act.put, List.setIfInBounds_toArray, List.set_cons_succ, List.set_cons_zero]
      refine w_skip (by kernel_rfl) ?_
      simp only [Act.put, List.setIfInBounds_toArray, List.set_cons_succ, List.set_cons_zero]
      refine w_value (.bool false) (by kernel_rfl) (fun w hw => x_pick _ _ _ _ _ _ _ _ _ false undef (.bool false) rfl rfl rfl w) ?_
      simp only [Act.put, List.setIfInBounds_toArray, List.set_cons_succ, List.set_cons_zero]
      refine w_nil ?_
      intro W hW
      have HW := hide hW
      clear hW hG hc0 hc1
      go_wp2
      have hG := HG.out
      have hc0 := HC0.out
      have hc1 := HC1.out
      refine w_lit (C := C) (by kernel_rfl) (by kernel_rfl) (HCS.out W HW.out) ?_
      refine w_value (PT p) (by kernel_rfl) (fun w hw => x_move _ _ _ _ _ _ _ _ rfl w) ?_
      simp only [Act.put, List.setIfInBounds_toArray, List.set_cons_succ, List.set_cons_zero]
      refine w_value (PT p) (by kernel_rfl) (fun w hw => x_nilCheck _ _ _ _ _ _ _ _ rfl w) ?_
      simp only [Act.put, List.setIfInBounds_toArray, List.set_cons_succ, List.set_cons_zero]
      refine w_value (.pointer (some ⟨p, 1, none⟩)) (by kernel_rfl) (fun w hw => x_fieldR1 _ _ _ _ _ _ _ p rfl w) ?_
      simp only [Act.put, List.setIfInBounds_toArray, List.set_cons_succ, List.set_cons_zero]
      refine w_value (.int .i64 at1) (by kernel_rfl) (fun w hw => x_loadInt _ _ _ _ _ _ _ p 1 _ rfl w (hc1 w hw)) ?_
      simp only [Act.put, List.setIfInBounds_toArray, List.set_cons_succ, List.set_cons_zero]
      refine w_value (PT p) (by kernel_rfl) (fun w hw => x_move _ _ _ _ _ _ _ _ rfl w) ?_
      simp only [Act.put, List.setIfInBounds_toArray, List.set_cons_succ, List.set_cons_zero]
      refine w_value (PT p) (by kernel_rfl) (fun w hw => x_nilCheck _ _ _ _ _ _ _ _ rfl w) ?_
      simp only [Act.put, List.setIfInBounds_toArray, List.set_cons_succ, List.set_cons_zero]
      refine w_value (PT p) (by kernel_rfl) (fun w hw => x_fieldR0 _ _ _ _ _ _ _ p rfl w) ?_
      simp only [Act.put, List.setIfInBounds_toArray, List.set_cons_succ, List.set_cons_zero]
      refine w_value (.string s) (by kernel_rfl) (fun w hw => x_loadStr _ _ _ _ _ _ _ p 0 _ rfl w (hc0 w hw)) ?_
      simp only [Act.put, List.setIfInBounds_toArray, List.set_cons_succ, List.set_cons_zero]
      refine w_value (.int .i64 s.size) (by kernel_rfl) (fun w hw => x_lenS _ _ _ _ _ _ _ s rfl w) ?_
      simp only [Act.put, List.setIfInBounds_toArray, List.set_cons_succ, List.set_cons_zero]
      refine w_value (.bool true) (by kernel_rfl) (fun w hw => x_eqIntB _ _ _ _ _ _ _ _ at1 s.size _ heq rfl rfl w) ?_
      simp only [Act.put, List.setIfInBounds_toArray, List.set_cons_succ, List.set_cons_zero]
      refine w_value (.bool true) (by kernel_rfl) (fun w hw => x_assign _ _ _ _ _ _ _ _ rfl w) ?_
      simp only [Act.put, List.setIfInBounds_toArray, List.set_cons_succ, List.set_cons_zero]
      refine w_nil ?_
      intro W2 hW2
      have HW2 := hide hW2
      clear hW2 hG hc0 hc1
      go_wp2
      go_ret
      refine ⟨?_, ?_, HA.out.trans (Aside.of_below (HCB.out W2 HW2.out))⟩
      · rw [HE.out]; rfl
      · have e : st.skip = st1 := by
          rw [← HSK.out]
          unfold St.skip St.to
          rw [HX.out]
          cases st1
          have : _ = [] := HX.out
          subst this; rfl
        rw [e]
        exact HR.out.keep (HCB.out W2 HW2.out)
    | c :: r =>
      have hrl : r.length + 1 ≤ s.size := by have := HR.out.len; rw [hr] at this; simpa using this
      have hlt : decide ((at1 : Int) < s.size) = true := by
        have := HAT.out
        rw [hr] at this
        simp at this
        simp; omega
      have heq : ((at1 : Int) == s.size) = false := by
        have := HAT.out
        rw [hr] at this
        simp at this
        exact beq_eq_false_iff_ne.2 (by omega)
      obtain ⟨hnx, hcc, hl1⟩ := HR.out.next hr
      rw [← HAT.out] at hcc hnx
      have hc256 : c < 256 := bN_lt s c (List.mem_of_getElem? hcc)
      have HCC := hide hcc
      have HNX := hide hnx
      have ews : bytesN ⟨#[32, 9, 10, 13]⟩ = [32, 9, 10, 13] := by decide +kernel
      obtain ⟨z, hz0⟩ : ∃ z, z = idxI [32, 9, 10, 13] c := ⟨_, rfl⟩
      have HQI : Hid (∀ W, C W → Calls Tryz.prog 73 #[.string ⟨#[32, 9, 10, 13]⟩, .int .u8 c] W fun e w' => e = .returned (.int .i64 z) ∧ Below W.heap.size W w') := fun W _ => by
        rw [hz0, ← ews]; exact (indexByte_any _ c hc256 W).mono fun e w' ⟨h1, h2⟩ => ⟨h1, h2 ▸ Below.refl _ _⟩
      have HZ : Hid (decide (0 ≤ z) = isWs c) := by
        show _ = _
        rw [hz0, idxI_pos]
        unfold isWs
        simp [Bool.or_assoc, Bool.beq_eq_decide_eq]
      have HX : Hid (st1.rest = c :: r) := hr
      clear hr hcc hnx ews hz0
      cases hw : isWs c with
      | true =>
        have hz : decide (0 ≤ z) = true := by rw [HZ.out, hw]
        go_wp2
        have hG := HG.out
        have hc0 := HC0.out
        have hc1 := HC1.out
        have hqi := HQI.out
        have hcc := HCC.out
        refine w_lit (C := C) (by kernel_rfl) (by kernel_rfl) HCD.out ?_
        refine w_value (PT p) (by kernel_rfl) (fun w hw => x_move _ _ _ _ _ _ _ _ rfl w) ?_
        simp only [Act.put, List.setIfInBounds_toArray, List.set_cons_succ, List.set_cons_zero]
        refine w_value (PT p) (by kernel_rfl) (fun w hw => x_nilCheck _ _ _ _ _ _ _ _ rfl w) ?_
        simp only [Act.put, List.setIfInBounds_toArray, List.set_cons_succ, List.set_cons_zero]
        refine w_value (.pointer (some ⟨p, 1, none⟩)) (by kernel_rfl) (fun w hw => x_fieldR1 _ _ _ _ _ _ _ p rfl w) ?_
        simp only [Act.put, List.setIfInBounds_toArray, List.set_cons_succ, List.set_cons_zero]
        refine w_value (.int .i64 at1) (by kernel_rfl) (fun w hw => x_loadInt _ _ _ _ _ _ _ p 1 _ rfl w (hc1 w hw)) ?_
        simp only [Act.put, List.setIfInBounds_toArray, List.set_cons_succ, List.set_cons_zero]
        refine w_value (PT p) (by kernel_rfl) (fun w hw => x_move _ _ _ _ _ _ _ _ rfl w) ?_
        simp only [Act.put, List.setIfInBounds_toArray, List.set_cons_succ, List.set_cons_zero]
        refine w_value (PT p) (by kernel_rfl) (fun w hw => x_nilCheck _ _ _ _ _ _ _ _ rfl w) ?_
        simp only [Act.put, List.setIfInBounds_toArray, List.set_cons_succ, List.set_cons_zero]
        refine w_value (PT p) (by kernel_rfl) (fun w hw => x_fieldR0 _ _ _ _ _ _ _ p rfl w) ?_
        simp only [Act.put, List.setIfInBounds_toArray, List.set_cons_succ, List.set_cons_zero]
        refine w_value (.string s) (by kernel_rfl) (fun w hw => x_loadStr _ _ _ _ _ _ _ p 0 _ rfl w (hc0 w hw)) ?_
        simp only [Act.put, List.setIfInBounds_toArray, List.set_cons_succ, List.set_cons_zero]
        refine w_value (.int .i64 s.size) (by kernel_rfl) (fun w hw => x_lenS _ _ _ _ _ _ _ s rfl w) ?_
        simp only [Act.put, List.setIfInBounds_toArray, List.set_cons_succ, List.set_cons_zero]
        refine w_value (.bool true) (by kernel_rfl) (fun w hw => x_lssB _ _ _ _ _ _ _ _ at1 s.size _ hlt rfl rfl w) ?_
        simp only [Act.put, List.setIfInBounds_toArray, List.set_cons_succ, List.set_cons_zero]
        refine w_value (.bool true) (by kernel_rfl) (fun w hw => x_move _ _ _ _ _ _ _ _ rfl w) ?_
        simp only [Act.put, List.setIfInBounds_toArray, List.set_cons_succ, List.set_cons_zero]
        refine w_value (PT p) (by kernel_rfl) (fun w hw => x_move _ _ _ _ _ _ _ _ rfl w) ?_
        simp only [Act.put, List.setIfInBounds_toArray, List.set_cons_succ, List.set_cons_zero]
        refine w_value (PT p) (by kernel_rfl) (fun w hw => x_nilCheck _ _ _ _ _ _ _ _ rfl w) ?_
        simp only [Act.put, List.setIfInBounds_toArray, List.set_cons_succ, List.set_cons_zero]
        refine w_value (PT p) (by kernel_rfl) (fun w hw => x_fieldR0 _ _ _ _ _ _ _ p rfl w) ?_
        simp only [Act.put, List.setIfInBounds_toArray, List.set_cons_succ, List.set_cons_zero]
        refine w_value (.string s) (by kernel_rfl) (fun w hw => x_loadStr _ _ _ _ _ _ _ p 0 _ rfl w (hc0 w hw)) ?_
        simp only [Act.put, List.setIfInBounds_toArray, List.set_cons_succ, List.set_cons_zero]
        refine w_value (PT p) (by kernel_rfl) (fun w hw => x_move _ _ _ _ _ _ _ _ rfl w) ?_
        simp only [Act.put, List.setIfInBounds_toArray, List.set_cons_succ, List.set_cons_zero]
        refine w_value (PT p) (by kernel_rfl) (fun w hw => x_nilCheck _ _ _ _ _ _ _ _ rfl w) ?_
        simp only [Act.put, List.setIfInBounds_toArray, List.set_cons_succ, List.set_cons_zero]
        refine w_value (.pointer (some ⟨p, 1, none⟩)) (by kernel_rfl) (fun w hw => x_fieldR1 _ _ _ _ _ _ _ p rfl w) ?_
        simp only [Act.put, List.setIfInBounds_toArray, List.set_cons_succ, List.set_cons_zero]
        refine w_value (.int .i64 at1) (by kernel_rfl) (fun w hw => x_loadInt _ _ _ _ _ _ _ p 1 _ rfl w (hc1 w hw)) ?_
        simp only [Act.put, List.setIfInBounds_toArray, List.set_cons_succ, List.set_cons_zero]
        refine w_value (.int .u8 c) (by kernel_rfl) (fun w hw => x_strIdx _ _ _ _ _ _ _ _ s at1 c hcc rfl rfl w) ?_
        simp only [Act.put, List.setIfInBounds_toArray, List.set_cons_succ, List.set_cons_zero]
        refine w_call hG 73 #[.string ⟨#[32, 9, 10, 13]⟩, .int .u8 c] (.int .i64 z) (by kernel_rfl) (fun w => x_call2 _ _ _ _ _ _ _ _ _ _ _ _ _ rfl rfl rfl (enters_of Tryz.func73 (by kernel_rfl) rfl) w) (fun w hw => hqi w hw) ?_
        simp only [Act.put, List.setIfInBounds_toArray, List.set_cons_succ, List.set_cons_zero]
        refine w_value (.bool true) (by kernel_rfl) (fun w hw => x_geqB _ _ _ _ _ _ _ _ z 0 _ hz rfl rfl w) ?_
        simp only [Act.put, List.setIfInBounds_toArray, List.set_cons_succ, List.set_cons_zero]
        refine w_value (.bool true) (by kernel_rfl) (fun w hw => x_pick _ _ _ _ _ _ _ _ _ true (.bool true) (.bool false) rfl rfl rfl w) ?_
        simp only [Act.put, List.setIfInBounds_toArray, List.set_cons_succ, List.set_cons_zero]
        refine w_nil ?_
        intro W hW
        have HW := hide hW
        have d1 := hc1 W hW
        have df := (HR.out.keep (HCB.out W hW)).cells.2.2.2.2.2.2 1
        clear hW hG hc0 hc1 hqi hcc
        have hRW := HR.out.keep (HCB.out W HW.out)
        have hnx := (hRW.next HX.out).1
        rw [← HAT.out] at hnx
        have HNX2 := hide hnx
        have HAW := hide (HA.out.trans (Aside.of_below (HCB.out W HW.out)))
        clear hRW hnx HW
        go_wp2
        refine ⟨⟨st1.to r, ?_, HNX2.out, HAW.out.trans (Aside.set _ _ _)⟩, ?_⟩
        · rw [← HSK.out]
          unfold St.skip St.to
          rw [HX.out, List.dropWhile_cons, hw]; rfl
        · have e1 := HNX2.out.atOf
          have e2 := HR.out.atOf
          rw [HX.out, List.length_cons] at e2
          have e3 : (st1.to r).rest = r := rfl
          rw [e3] at e1
          rw [e2]
          show s.size - atOf (W.setCell ⟨p, 1, none⟩ (.int .i64 ((at1 + 1 : Nat) : Int))) p < s.size - (s.size - (r.length + 1))
          rw [e1]
          omega
      | false =>
        have hz : decide (0 ≤ z) = false := by rw [HZ.out, hw]
        go_wp2
        have hG := HG.out
        have hc0 := HC0.out
        have hc1 := HC1.out
        have hqi := HQI.out
        have hcc := HCC.out
        refine w_lit (C := C) (by kernel_rfl) (by kernel_rfl) HCD.out ?_
        refine w_value (PT p) (by kernel_rfl) (fun w hw => x_move _ _ _ _ _ _ _ _ rfl w) ?_
        simp only [Act.put, List.setIfInBounds_toArray, List.set_cons_succ, List.set_cons_zero]
        refine w_value (PT p) (by kernel_rfl) (fun w hw => x_nilCheck _ _ _ _ _ _ _ _ rfl w) ?_
        simp only [Act.put, List.setIfInBounds_toArray, List.set_cons_succ, List.set_cons_zero]
        refine w_value (.pointer (some ⟨p, 1, none⟩)) (by kernel_rfl) (fun w hw => x_fieldR1 _ _ _ _ _ _ _ p rfl w) ?_
        simp only [Act.put, List.setIfInBounds_toArray, List.set_cons_succ, List.set_cons_zero]
        refine w_value (.int .i64 at1) (by kernel_rfl) (fun w hw => x_loadInt _ _ _ _ _ _ _ p 1 _ rfl w (hc1 w hw)) ?_
        simp only [Act.put, List.setIfInBounds_toArray, List.set_cons_succ, List.set_cons_zero]
        refine w_value (PT p) (by kernel_rfl) (fun w hw => x_move _ _ _ _ _ _ _ _ rfl w) ?_
        simp only [Act.put, List.setIfInBounds_toArray, List.set_cons_succ, List.set_cons_zero]
        refine w_value (PT p) (by kernel_rfl) (fun w hw => x_nilCheck _ _ _ _ _ _ _ _ rfl w) ?_
        simp only [Act.put, List.setIfInBounds_toArray, List.set_cons_succ, List.set_cons_zero]
        refine w_value (PT p) (by kernel_rfl) (fun w hw => x_fieldR0 _ _ _ _ _ _ _ p rfl w) ?_
        simp only [Act.put, List.setIfInBounds_toArray, List.set_cons_succ, List.set_cons_zero]
        refine w_value (.string s) (by kernel_rfl) (fun w hw => x_loadStr _ _ _ _ _ _ _ p 0 _ rfl w (hc0 w hw)) ?_
        simp only [Act.put, List.setIfInBounds_toArray, List.set_cons_succ, List.set_cons_zero]
        refine w_value (.int .i64 s.size) (by kernel_rfl) (fun w hw => x_lenS _ _ _ _ _ _ _ s rfl w) ?_
        simp only [Act.put, List.setIfInBounds_toArray, List.set_cons_succ, List.set_cons_zero]
        refine w_value (.bool true) (by kernel_rfl) (fun w hw => x_lssB _ _ _ _ _ _ _ _ at1 s.size _ hlt rfl rfl w) ?_
        simp only [Act.put, List.setIfInBounds_toArray, List.set_cons_succ, List.set_cons_zero]
        refine w_value (.bool true) (by kernel_rfl) (fun w hw => x_move _ _ _ _ _ _ _ _ rfl w) ?_
        simp only [Act.put, List.setIfInBounds_toArray, List.set_cons_succ, List.set_cons_zero]
        refine w_value (PT p) (by kernel_rfl) (fun w hw => x_move _ _ _ _ _ _ _ _ rfl w) ?_
        simp only [Act.put, List.setIfInBounds_toArray, List.set_cons_succ, List.set_cons_zero]
        refine w_value (PT p) (by kernel_rfl) (fun w hw => x_nilCheck _ _ _ _ _ _ _ _ rfl w) ?_
        simp only [Act.put, List.setIfInBounds_toArray, List.set_cons_succ, List.set_cons_zero]
        refine w_value (PT p) (by kernel_rfl) (fun w hw => x_fieldR0 _ _ _ _ _ _ _ p rfl w) ?_
        simp only [Act.put, List.setIfInBounds_toArray, List.set_cons_succ, List.set_cons_zero]
        refine w_value (.string s) (by kernel_rfl) (fun w hw => x_loadStr _ _ _ _ _ _ _ p 0 _ rfl w (hc0 w hw)) ?_
        simp only [Act.put, List.setIfInBounds_toArray, List.set_cons_succ, List.set_cons_zero]
        refine w_value (PT p) (by kernel_rfl) (fun w hw => x_move _ _ _ _ _ _ _ _ rfl w) ?_
        simp only [Act.put, List.setIfInBounds_toArray, List.set_cons_succ, List.set_cons_zero]
        refine w_value (PT p) (by kernel_rfl) (fun w hw => x_nilCheck _ _ _ _ _ _ _ _ rfl w) ?_
        simp only [Act.put, List.setIfInBounds_toArray, List.set_cons_succ, List.set_cons_zero]
        refine w_value (.pointer (some ⟨p, 1, none⟩)) (by kernel_rfl) (fun w hw => x_fieldR1 _ _ _ _ _ _ _ p rfl w) ?_
        simp only [Act.put, List.setIfInBounds_toArray, List.set_cons_succ, List.set_cons_zero]
        refine w_value (.int .i64 at1) (by kernel_rfl) (fun w hw => x_loadInt _ _ _ _ _ _ _ p 1 _ rfl w (hc1 w hw)) ?_
        simp only [Act.put, List.setIfInBounds_toArray, List.set_cons_succ, List.set_cons_zero]
        refine w_value (.int .u8 c) (by kernel_rfl) (fun w hw => x_strIdx _ _ _ _ _ _ _ _ s at1 c hcc rfl rfl w) ?_
        simp only [Act.put, List.setIfInBounds_toArray, List.set_cons_succ, List.set_cons_zero]
        refine w_call hG 73 #[.string ⟨#[32, 9, 10, 13]⟩, .int .u8 c] (.int .i64 z) (by kernel_rfl) (fun w => x_call2 _ _ _ _ _ _ _ _ _ _ _ _ _ rfl rfl rfl (enters_of Tryz.func73 (by kernel_rfl) rfl) w) (fun w hw => hqi w hw) ?_
        simp only [Act.put, List.setIfInBounds_toArray, List.set_cons_succ, List.set_cons_zero]
        refine w_value (.bool false) (by kernel_rfl) (fun w hw => x_geqB _ _ _ _ _ _ _ _ z 0 _ hz rfl rfl w) ?_
        simp only [Act.put, List.setIfInBounds_toArray, List.set_cons_succ, List.set_cons_zero]
        refine w_value (.bool false) (by kernel_rfl) (fun w hw => x_pick _ _ _ _ _ _ _ _ _ true (.bool false) (.bool false) rfl rfl rfl w) ?_
        simp only [Act.put, List.setIfInBounds_toArray, List.set_cons_succ, List.set_cons_zero]
        refine w_nil ?_
        intro W hW
        have HW := hide hW
        clear hW hG hc0 hc1 hqi hcc
        go_wp2
        have hG := HG.out
        have hc0 := HC0.out
        have hc1 := HC1.out
        refine w_lit (C := C) (by kernel_rfl) (by kernel_rfl) (HCS.out W HW.out) ?_
        refine w_value (PT p) (by kernel_rfl) (fun w hw => x_move _ _ _ _ _ _ _ _ rfl w) ?_
        simp only [Act.put, List.setIfInBounds_toArray, List.set_cons_succ, List.set_cons_zero]
        refine w_value (PT p) (by kernel_rfl) (fun w hw => x_nilCheck _ _ _ _ _ _ _ _ rfl w) ?_
        simp only [Act.put, List.setIfInBounds_toArray, List.set_cons_succ, List.set_cons_zero]
        refine w_value (.pointer (some ⟨p, 1, none⟩)) (by kernel_rfl) (fun w hw => x_fieldR1 _ _ _ _ _ _ _ p rfl w) ?_
        simp only [Act.put, List.setIfInBounds_toArray, List.set_cons_succ, List.set_cons_zero]
        refine w_value (.int .i64 at1) (by kernel_rfl) (fun w hw => x_loadInt _ _ _ _ _ _ _ p 1 _ rfl w (hc1 w hw)) ?_
        simp only [Act.put, List.setIfInBounds_toArray, List.set_cons_succ, List.set_cons_zero]
        refine w_value (PT p) (by kernel_rfl) (fun w hw => x_move _ _ _ _ _ _ _ _ rfl w) ?_
        simp only [Act.put, List.setIfInBounds_toArray, List.set_cons_succ, List.set_cons_zero]
        refine w_value (PT p) (by kernel_rfl) (fun w hw => x_nilCheck _ _ _ _ _ _ _ _ rfl w) ?_
        simp only [Act.put, List.setIfInBounds_toArray, List.set_cons_succ, List.set_cons_zero]
        refine w_value (PT p) (by kernel_rfl) (fun w hw => x_fieldR0 _ _ _ _ _ _ _ p rfl w) ?_
        simp only [Act.put, List.setIfInBounds_toArray, List.set_cons_succ, List.set_cons_zero]
        refine w_value (.string s) (by kernel_rfl) (fun w hw => x_loadStr _ _ _ _ _ _ _ p 0 _ rfl w (hc0 w hw)) ?_
        simp only [Act.put, List.setIfInBounds_toArray, List.set_cons_succ, List.set_cons_zero]
        refine w_value (.int .i64 s.size) (by kernel_rfl) (fun w hw => x_lenS _ _ _ _ _ _ _ s rfl w) ?_
        simp only [Act.put, List.setIfInBounds_toArray, List.set_cons_succ, List.set_cons_zero]
        refine w_value (.bool false) (by kernel_rfl) (fun w hw => x_eqIntB _ _ _ _ _ _ _ _ at1 s.size _ heq rfl rfl w) ?_
        simp only [Act.put, List.setIfInBounds_toArray, List.set_cons_succ, List.set_cons_zero]
        refine w_value (.bool false) (by kernel_rfl) (fun w hw => x_assign _ _ _ _ _ _ _ _ rfl w) ?_
        simp only [Act.put, List.setIfInBounds_toArray, List.set_cons_succ, List.set_cons_zero]
        refine w_nil ?_
        intro W2 hW2
        have HW2 := hide hW2
        clear hW2 hG hc0 hc1
        go_wp2
        go_ret
        have e : st.skip = st1 := by
          rw [← HSK.out]
          unfold St.skip St.to
          rw [HX.out, List.dropWhile_cons, hw]
          cases st1
          have : _ = c :: r := HX.out
          subst this; rfl
        refine ⟨?_, ?_, HA.out.trans (Aside.of_below (HCB.out W2 HW2.out))⟩
        · rw [e, HX.out]; rfl
        · rw [e]
          exact HR.out.keep (HCB.out W2 HW2.out)

set_option maxHeartbeats 2000000 in
theorem here_any (p b : Nat) (s : ByteArray) (st : St) (w : World) (h : RdAt w p s st) :
    Calls Tryz.prog 98 #[PT p, .int .u8 b] w fun r w' => r = .returned (.bool (st.isAt b)) ∧ RdAt w' p s (st.here b) ∧ Aside p w w' := by
  have HR := hide h
  obtain ⟨at1, hat⟩ : ∃ a, a = s.size - st.rest.length := ⟨_, rfl⟩
  have HAT := hide hat
  have hs0 := h.big
  have hal : at1 ≤ s.size := by omega
  obtain ⟨C, hC⟩ : ∃ C : World → Prop, C = fun W => Below w.heap.size w W := ⟨_, rfl⟩
  have HG : Hid (Grows C) := by rw [hC]; exact fun W W' h1 h2 => h1.trans (h2.mono h1.size)
  have HCD : Hid (C { w with drawn := w.drawn + 1 }) := by rw [hC]; exact ⟨rfl, rfl, rfl, Nat.le_refl _, fun _ _ => rfl⟩
  have HCB : Hid (∀ W, C W → Below w.heap.size w W) := by rw [hC]; exact fun W h => h
  have HC0 : Hid (∀ W, C W → W.cell? ⟨p, 0, none⟩ = some (.string s)) := fun W hW => (HR.out.keep (HCB.out W hW)).cells.1
  have HC1 : Hid (∀ W, C W → W.cell? ⟨p, 1, none⟩ = some (.int .i64 at1)) := fun W hW => by rw [hat]; exact (HR.out.keep (HCB.out W hW)).cells.2.1
  clear hC hat h
  unfold PT
  match hr : st.rest with
  | [] =>
    have hlt : decide ((at1 : Int) < s.size) = false := by
      have := HAT.out
      rw [hr] at this
      simp at this
      simp; omega
    have HI : Hid (st.isAt b = false) := by show _ = _; unfold St.isAt; rw [hr]; rfl
    have HH : Hid (st.here b = st) := by show _ = _; unfold St.here; rw [HI.out]; rfl
    clear hr
    go_enter Tryz.func98, Tryz.ntmps98
    go_wp2
    have hG := HG.out
    have hc0 := HC0.out
    have hc1 := HC1.out
    refine w_lit (C := C) (by kernel_rfl) (by kernel_rfl) HCD.out ?_
    refine w_value (PT p) (by kernel_rfl) (fun w hw => x_move _ _ _ _ _ _ _ _ rfl w) ?_
    simp only [Act.put, List.setIfInBounds_toArray, List.set_cons_succ, List.set_cons_zero]
    refine w_value (PT p) (by kernel_rfl) (fun w hw => x_nilCheck _ _ _ _ _ _ _ _ rfl w) ?_
    simp only [Act.put, List.setIfInBounds_toArray, List.set_cons_succ, List.set_cons_zero]
    refine w_value (.pointer (some ⟨p, 1, none⟩)) (by kernel_rfl) (fun w hw => x_fieldR1 _ _ _ _ _ _ _ p rfl w) ?_
    simp only [Act.put, List.setIfInBounds_toArray, List.set_cons_succ, List.set_cons_zero]
    refine w_value (.int .i64 at1) (by kernel_rfl) (fun w hw => x_loadInt _ _ _ _ _ _ _ p 1 _ rfl w (hc1 w hw)) ?_
    simp only [Act.put, List.setIfInBounds_toArray, List.set_cons_succ, List.set_cons_zero]
    refine w_value (PT p) (by kernel_rfl) (fun w hw => x_move _ _ _ _ _ _ _ _ rfl w) ?_
    simp only [Act.put, List.setIfInBounds_toArray, List.set_cons_succ, List.set_cons_zero]
    refine w_value (PT p) (by kernel_rfl) (fun w hw => x_nilCheck _ _ _ _ _ _ _ _ rfl w) ?_
    simp only [Act.put, List.setIfInBounds_toArray, List.set_cons_succ, List.set_cons_zero]
    refine w_value (PT p) (by kernel_rfl) (fun w hw => x_fieldR0 _ _ _ _ _ _ _ p rfl w) ?_
    simp only [Act.put, List.setIfInBounds_toArray, List.set_cons_succ, List.set_cons_zero]
    refine w_value (.string s) (by kernel_rfl) (fun w hw => x_loadStr _ _ _ _ _ _ _ p 0 _ rfl w (hc0 w hw)) ?_
    simp only [Act.put, List.setIfInBounds_toArray, List.set_cons_succ, List.set_cons_zero]
    refine w_value (.int .i64 s.size) (by kernel_rfl) (fun w hw => x_lenS _ _ _ _ _ _ _ s rfl w) ?_
    simp only [Act.put, List.setIfInBounds_toArray, List.set_cons_succ, List.set_cons_zero]
    refine w_value (.bool false) (by kernel_rfl) (fun w hw => x_lssB _ _ _ _ _ _ _ _ at1 s.size _ hlt rfl rfl w) ?_
    simp only [Act.put, List.setIfInBounds_toArray, List.set_cons_succ, List.set_cons_zero]
    refine w_value (.bool false) (by kernel_rfl) (fun w hw => x_move _ _ _ _ _ _ _ _ rfl w) ?_
    simp only [Act.put, List.setIfInBounds_toArray, List.set_cons_succ, List.set_cons_zero]
    refine w_skip (by kernel_rfl) ?_
    simp only [Act.put, List.setIfInBounds_toArray, List.set_cons_succ, List.set_cons_zero]
    refine w_skip (by kernel_rfl) ?_
    simp only [Act.put, List.setIfInBounds_toArray, List.set_cons_succ, List.set_cons_zero]
    refine w_skip (by kernel_rfl) ?_
    simp only [Act.put, List.setIfInBounds_toArray, List.set_cons_succ, List.set_cons_zero]
    refine w_skip (by kernel_rfl) ?_
    simp only [Act.put, List.setIfInBounds_toArray, List.set_cons_succ, List.set_cons_zero]
    refine w_skip (by kernel_rfl) ?_
    simp only [Act.put, List.setIfInBounds_toArray, List.set_cons_succ, List.set_cons_zero]
    refine w_skip (by kernel_rfl) ?_
    simp only [Act.put, List.setIfInBounds_toArray, List.set_cons_succ, List.set_cons_zero]
    refine w_skip (by kernel_rfl) ?_
    simp only [Act.put, List.setIfInBounds_toArray, List.set_cons_succ, List.set_cons_zero]
    refine w_skip (by kernel_rfl) ?_
    simp only [Act.put, List.setIfInBounds_toArray, List.set_cons_succ, List.set_cons_zero]
    refine w_skip (by kernel_rfl) ?_
    simp only [Act.put, List.setIfInBounds_toArray, List.set_cons_succ, List.set_cons_zero]
    refine w_skip (by kernel_rfl) ?_
    simp only [Act.put, List.setIfInBounds_toArray, List.set_cons_succ, List.set_cons_zero]
    refine w_skip (by kernel_rfl) ?_
    simp only [Act.put, List.setIfInBounds_toArray, List.set_cons_succ, List.set_cons_zero]
    refine w_value (.bool false) (by kernel_rfl) (fun w hw => x_pick _ _ _ _ _ _ _ _ _ false undef (.bool false) rfl rfl rfl w) ?_
    simp only [Act.put, List.setIfInBounds_toArray, List.set_cons_succ, List.set_cons_zero]
    refine w_nil ?_
    intro W hW
    have HW := hide hW
    clear hW hG hc0 hc1
    go_wp2
    go_ret
    refine ⟨?_, ?_, Aside.of_below (HCB.out W HW.out)⟩
    · rw [HI.out]; rfl
    · rw [HH.out]; exact HR.out.keep (HCB.out W HW.out)
  | c :: r =>
    have hrl : r.length + 1 ≤ s.size := by have := HR.out.len; rw [hr] at this; simpa using this
    have hlt : decide ((at1 : Int) < s.size) = true := by
      have := HAT.out
      rw [hr] at this
      simp at this
      simp; omega
    obtain ⟨-, hcc, hl1⟩ := HR.out.next hr
    rw [← HAT.out] at hcc
    have HCC := hide hcc
    have HX : Hid (st.rest = c :: r) := hr
    clear hr hcc
    by_cases hcb : c = b
    · have hz : ((c : Int) == b) = true := by simp [hcb]
      have HI : Hid (st.isAt b = true) := by show _ = _; unfold St.isAt; rw [HX.out, hcb]; simp
      have HH : Hid (st.here b = st.to r) := by show _ = _; unfold St.here; rw [HI.out, HX.out]; rfl
      clear hcb
      go_enter Tryz.func98, Tryz.ntmps98
      go_wp2
      have hG := HG.out
      have hc0 := HC0.out
      have hc1 := HC1.out
      have hcc := HCC.out
      refine w_lit (C := C) (by kernel_rfl) (by kernel_rfl) HCD.out ?_
      refine w_value (PT p) (by kernel_rfl) (fun w hw => x_move _ _ _ _ _ _ _ _ rfl w) ?_
      simp only [Act.put, List.setIfInBounds_toArray, List.set_cons_succ, List.set_cons_zero]
      refine w_value (PT p) (by kernel_rfl) (fun w hw => x_nilCheck _ _ _ _ _ _ _ _ rfl w) ?_
      simp only [Act.put, List.setIfInBounds_toArray, List.set_cons_succ, List.set_cons_zero]
      refine w_value (.pointer (some ⟨p, 1, none⟩)) (by kernel_rfl) (fun w hw => x_fieldR1 _ _ _ _ _ _ _ p rfl w) ?_
      simp only [Act.put, List.setIfInBounds_toArray, List.set_cons_succ, List.set_cons_zero]
      refine w_value (.int .i64 at1) (by kernel_rfl) (fun w hw => x_loadInt _ _ _ _ _ _ _ p 1 _ rfl w (hc1 w hw)) ?_
      simp only [Act.put, List.setIfInBounds_toArray, List.set_cons_succ, List.set_cons_zero]
      refine w_value (PT p) (by kernel_rfl) (fun w hw => x_move _ _ _ _ _ _ _ _ rfl w) ?_
      simp only [Act.put, List.setIfInBounds_toArray, List.set_cons_succ, List.set_cons_zero]
      refine w_value (PT p) (by kernel_rfl) (fun w hw => x_nilCheck _ _ _ _ _ _ _ _ rfl w) ?_
      simp only [Act.put, List.setIfInBounds_toArray, List.set_cons_succ, List.set_cons_zero]
      refine w_value (PT p) (by kernel_rfl) (fun w hw => x_fieldR0 _ _ _ _ _ _ _ p rfl w) ?_
      simp only [Act.put, List.setIfInBounds_toArray, List.set_cons_succ, List.set_cons_zero]
      refine w_value (.string s) (by kernel_rfl) (fun w hw => x_loadStr _ _ _ _ _ _ _ p 0 _ rfl w (hc0 w hw)) ?_
      simp only [Act.put, List.setIfInBounds_toArray, List.set_cons_succ, List.set_cons_zero]
      refine w_value (.int .i64 s.size) (by kernel_rfl) (fun w hw => x_lenS _ _ _ _ _ _ _ s rfl w) ?_
      simp only [Act.put, List.setIfInBounds_toArray, List.set_cons_succ, List.set_cons_zero]
      refine w_value (.bool true) (by kernel_rfl) (fun w hw => x_lssB _ _ _ _ _ _ _ _ at1 s.size _ hlt rfl rfl w) ?_
      simp only [Act.put, List.setIfInBounds_toArray, List.set_cons_succ, List.set_cons_zero]
      refine w_value (.bool true) (by kernel_rfl) (fun w hw => x_move _ _ _ _ _ _ _ _ rfl w) ?_
      simp only [Act.put, List.setIfInBounds_toArray, List.set_cons_succ, List.set_cons_zero]
      refine w_value (PT p) (by kernel_rfl) (fun w hw => x_move _ _ _ _ _ _ _ _ rfl w) ?_
      simp only [Act.put, List.setIfInBounds_toArray, List.set_cons_succ, List.set_cons_zero]
      refine w_value (PT p) (by kernel_rfl) (fun w hw => x_nilCheck _ _ _ _ _ _ _ _ rfl w) ?_
      simp only [Act.put, List.setIfInBounds_toArray, List.set_cons_succ, List.set_cons_zero]
      refine w_value (PT p) (by kernel_rfl) (fun w hw => x_fieldR0 _ _ _ _ _ _ _ p rfl w) ?_
      simp only [Act.put, List.setIfInBounds_toArray, List.set_cons_succ, List.set_cons_zero]
      refine w_value (.string s) (by kernel_rfl) (fun w hw => x_loadStr _ _ _ _ _ _ _ p 0 _ rfl w (hc0 w hw)) ?_
      simp only [Act.put, List.setIfInBounds_toArray, List.set_cons_succ, List.set_cons_zero]
      refine w_value (PT p) (by kernel_rfl) (fun w hw => x_move _ _ _ _ _ _ _ _ rfl w) ?_
      simp only [Act.put, List.setIfInBounds_toArray, List.set_cons_succ, List.set_cons_zero]
      refine w_value (PT p) (by kernel_rfl) (fun w hw => x_nilCheck _ _ _ _ _ _ _ _ rfl w) ?_
      simp only [Act.put, List.setIfInBounds_toArray, List.set_cons_succ, List.set_cons_zero]
      refine w_value (.pointer (some ⟨p, 1, none⟩)) (by kernel_rfl) (fun w hw => x_fieldR1 _ _ _ _ _ _ _ p rfl w) ?_
      simp only [Act.put, List.setIfInBounds_toArray, List.set_cons_succ, List.set_cons_zero]
      refine w_value (.int .i64 at1) (by kernel_rfl) (fun w hw => x_loadInt _ _ _ _ _ _ _ p 1 _ rfl w (hc1 w hw)) ?_
      simp only [Act.put, List.setIfInBounds_toArray, List.set_cons_succ, List.set_cons_zero]
      refine w_value (.int .u8 c) (by kernel_rfl) (fun w hw => x_strIdx _ _ _ _ _ _ _ _ s at1 c hcc rfl rfl w) ?_
      simp only [Act.put, List.setIfInBounds_toArray, List.set_cons_succ, List.set_cons_zero]
      refine w_value (.int .u8 b) (by kernel_rfl) (fun w hw => x_move _ _ _ _ _ _ _ _ rfl w) ?_
      simp only [Act.put, List.setIfInBounds_toArray, List.set_cons_succ, List.set_cons_zero]
      refine w_value (.bool true) (by kernel_rfl) (fun w hw => x_eqU8B _ _ _ _ _ _ _ _ c b _ hz rfl rfl w) ?_
      simp only [Act.put, List.setIfInBounds_toArray, List.set_cons_succ, List.set_cons_zero]
      refine w_value (.bool true) (by kernel_rfl) (fun w hw => x_pick _ _ _ _ _ _ _ _ _ true (.bool true) (.bool false) rfl rfl rfl w) ?_
      simp only [Act.put, List.setIfInBounds_toArray, List.set_cons_succ, List.set_cons_zero]
      refine w_nil ?_
      intro W hW
      have HW := hide hW
      have d1 := hc1 W hW
      have df := (HR.out.keep (HCB.out W hW)).cells.2.2.2.2.2.2 1
      have hRW := HR.out.keep (HCB.out W HW.out)
      have hnx := (hRW.next HX.out).1
      rw [← HAT.out] at hnx
      have HNX2 := hide hnx
      clear hW hG hc0 hc1 hcc hRW hnx
      go_wp2
      go_ret
      refine ⟨?_, ?_, (Aside.of_below (HCB.out W HW.out)).trans (Aside.set _ _ _)⟩
      · rw [HI.out]; rfl
      · rw [HH.out]; exact HNX2.out
    · have hz : ((c : Int) == b) = false := beq_eq_false_iff_ne.2 (by omega)
      have HI : Hid (st.isAt b = false) := by show _ = _; unfold St.isAt; rw [HX.out]; simpa using hcb
      have HH : Hid (st.here b = st) := by show _ = _; unfold St.here; rw [HI.out]; rfl
      clear hcb
      go_enter Tryz.func98, Tryz.ntmps98
      go_wp2
      have hG := HG.out
      have hc0 := HC0.out
      have hc1 := HC1.out
      have hcc := HCC.out
      refine w_lit (C := C) (by kernel_rfl) (by kernel_rfl) HCD.out ?_
      refine w_value (PT p) (by kernel_rfl) (fun w hw => x_move _ _ _ _ _ _ _ _ rfl w) ?_
      simp only [Act.put, List.setIfInBounds_toArray, List.set_cons_succ, List.set_cons_zero]
      refine w_value (PT p) (by kernel_rfl) (fun w hw => x_nilCheck _ _ _ _ _ _ _ _ rfl w) ?_
      simp only [Act.put, List.setIfInBounds_toArray, List.set_cons_succ, List.set_cons_zero]
      refine w_value (.pointer (some ⟨p, 1, none⟩)) (by kernel_rfl) (fun w hw => x_fieldR1 _ _ _ _ _ _ _ p rfl w) ?_
      simp only [Act.put, List.setIfInBounds_toArray, List.set_cons_succ, List.set_cons_zero]
      refine w_value (.int .i64 at1) (by kernel_rfl) (fun w hw => x_loadInt _ _ _ _ _ _ _ p 1 _ rfl w (hc1 w hw)) ?_
      simp only [Act.put, List.setIfInBounds_toArray, List.set_cons_succ, List.set_cons_zero]
      refine w_value (PT p) (by kernel_rfl) (fun w hw => x_move _ _ _ _ _ _ _ _ rfl w) ?_
      simp only [Act.put, List.setIfInBounds_toArray, List.set_cons_succ, List.set_cons_zero]
      refine w_value (PT p) (by kernel_rfl) (fun w hw => x_nilCheck _ _ _ _ _ _ _ _ rfl w) ?_
      simp only [Act.put, List.setIfInBounds_toArray, List.set_cons_succ, List.set_cons_zero]
      refine w_value (PT p) (by kernel_rfl) (fun w hw => x_fieldR0 _ _ _ _ _ _ _ p rfl w) ?_
      simp only [Act.put, List.setIfInBounds_toArray, List.set_cons_succ, List.set_cons_zero]
      refine w_value (.string s) (by kernel_rfl) (fun w hw => x_loadStr _ _ _ _ _ _ _ p 0 _ rfl w (hc0 w hw)) ?_
      simp only [Act.put, List.setIfInBounds_toArray, List.set_cons_succ, List.set_cons_zero]
      refine w_value (.int .i64 s.size) (by kernel_rfl) (fun w hw => x_lenS _ _ _ _ _ _ _ s rfl w) ?_
      simp only [Act.put, List.setIfInBounds_toArray, List.set_cons_succ, List.set_cons_zero]
      refine w_value (.bool true) (by kernel_rfl) (fun w hw => x_lssB _ _ _ _ _ _ _ _ at1 s.size _ hlt rfl rfl w) ?_
      simp only [Act.put, List.setIfInBounds_toArray, List.set_cons_succ, List.set_cons_zero]
      refine w_value (.bool true) (by kernel_rfl) (fun w hw => x_move _ _ _ _ _ _ _ _ rfl w) ?_
      simp only [Act.put, List.setIfInBounds_toArray, List.set_cons_succ, List.set_cons_zero]
      refine w_value (PT p) (by kernel_rfl) (fun w hw => x_move _ _ _ _ _ _ _ _ rfl w) ?_
      simp only [Act.put, List.setIfInBounds_toArray, List.set_cons_succ, List.set_cons_zero]
      refine w_value (PT p) (by kernel_rfl) (fun w hw => x_nilCheck _ _ _ _ _ _ _ _ rfl w) ?_
      simp only [Act.put, List.setIfInBounds_toArray, List.set_cons_succ, List.set_cons_zero]
      refine w_value (PT p) (by kernel_rfl) (fun w hw => x_fieldR0 _ _ _ _ _ _ _ p rfl w) ?_
      simp only [Act.put, List.setIfInBounds_toArray, List.set_cons_succ, List.set_cons_zero]
      refine w_value (.string s) (by kernel_rfl) (fun w hw => x_loadStr _ _ _ _ _ _ _ p 0 _ rfl w (hc0 w hw)) ?_
      simp only [Act.put, List.setIfInBounds_toArray, List.set_cons_succ, List.set_cons_zero]
      refine w_value (PT p) (by kernel_rfl) (fun w hw => x_move _ _ _ _ _ _ _ _ rfl w) ?_
      simp only [Act.put, List.setIfInBounds_toArray, List.set_cons_succ, List.set_cons_zero]
      refine w_value (PT p) (by kernel_rfl) (fun w hw => x_nilCheck _ _ _ _ _ _ _ _ rfl w) ?_
      simp only [Act.put, List.setIfInBounds_toArray, List.set_cons_succ, List.set_cons_zero]
      refine w_value (.pointer (some ⟨p, 1, none⟩)) (by kernel_rfl) (fun w hw => x_fieldR1 _ _ _ _ _ _ _ p rfl w) ?_
      simp only [Act.put, List.setIfInBounds_toArray, List.set_cons_succ, List.set_cons_zero]
      refine w_value (.int .i64 at1) (by kernel_rfl) (fun w hw => x_loadInt _ _ _ _ _ _ _ p 1 _ rfl w (hc1 w hw)) ?_
      simp only [Act.put, List.setIfInBounds_toArray, List.set_cons_succ, List.set_cons_zero]
      refine w_value (.int .u8 c) (by kernel_rfl) (fun w hw => x_strIdx _ _ _ _ _ _ _ _ s at1 c hcc rfl rfl w) ?_
      simp only [Act.put, List.setIfInBounds_toArray, List.set_cons_succ, List.set_cons_zero]
      refine w_value (.int .u8 b) (by kernel_rfl) (fun w hw => x_move _ _ _ _ _ _ _ _ rfl w) ?_
      simp only [Act.put, List.setIfInBounds_toArray, List.set_cons_succ, List.set_cons_zero]
      refine w_value (.bool false) (by kernel_rfl) (fun w hw => x_eqU8B _ _ _ _ _ _ _ _ c b _ hz rfl rfl w) ?_
      simp only [Act.put, List.setIfInBounds_toArray, List.set_cons_succ, List.set_cons_zero]
      refine w_value (.bool false) (by kernel_rfl) (fun w hw => x_pick _ _ _ _ _ _ _ _ _ true (.bool false) (.bool false) rfl rfl rfl w) ?_
      simp only [Act.put, List.setIfInBounds_toArray, List.set_cons_succ, List.set_cons_zero]
      refine w_nil ?_
      intro W hW
      have HW := hide hW
      clear hW hG hc0 hc1 hcc
      go_wp2
      go_ret
      refine ⟨?_, ?_, Aside.of_below (HCB.out W HW.out)⟩
      · rw [HI.out]; rfl
      · rw [HH.out]; exact HR.out.keep (HCB.out W HW.out)
theorem sign_any (p b : Nat) (s : ByteArray) (st : St) (w : World) (h : RdAt w p s st) :
    Calls Tryz.prog 72 #[PT p, .int .u8 b] w fun r w' => r = .returned (.bool (st.signB b)) ∧ RdAt w' p s (st.sign b) ∧ Aside p w w' := by
  have he := end_any p s st w h
  have HH : Hid (∀ W, RdAt W p s st.skip → Calls Tryz.prog 98 #[PT p, .int .u8 b] W fun r w' => r = .returned (.bool (st.skip.isAt b)) ∧ RdAt w' p s (st.skip.here b) ∧ Aside p W w') := fun W hW => here_any p b s st.skip W hW
  obtain ⟨q, hq⟩ : ∃ q, q = st.skip.rest.isEmpty := ⟨_, rfl⟩
  obtain ⟨z, hz⟩ : ∃ z, z = st.skip.isAt b := ⟨_, rfl⟩
  have HSB : Hid (st.signB b = z) := hz.symm
  have HQ := hide hq
  have HZ := hide hz
  rw [← hq] at he
  rw [← hz] at HH
  have HE := hide he
  clear he hq hz h
  unfold PT at HE HH ⊢
  go_enter Tryz.func72, Tryz.ntmps72
  go_wp2_with fail
  refine HE.out.mono ?_
  rintro e w1 ⟨rfl, hR, hA⟩
  have HR := hide hR
  have HA := hide hA
  clear hR hA HE
  cases q
  · go_wp2_with fail
    refine (HH.out w1 HR.out).mono ?_
    rintro e w2 ⟨rfl, hR, hA⟩
    have HR2 := hide hR
    have HA2 := hide (HA.out.trans hA)
    clear hR hA HH
    go_wp2
    go_ret
    refine ⟨?_, HR2.out, HA2.out⟩
    rw [HSB.out]; rfl
  · have HZF : Hid (z = false) := by
      show _ = _
      rw [HZ.out]
      unfold St.isAt
      have : st.skip.rest = [] := by simpa using HQ.out.symm
      rw [this]; rfl
    have HHF : Hid (st.sign b = st.skip) := by
      show _ = _
      unfold St.sign St.here
      rw [← HZ.out, HZF.out]; rfl
    go_wp2
    go_ret
    refine ⟨?_, ?_, HA.out⟩
    · rw [HSB.out, HZF.out]; rfl
    · rw [HHF.out]; exact HR.out

theorem counted_any (p : Nat) (s : ByteArray) (st : St) (w : World) (h : RdAt w p s st) (hc : st.cnt ≤ 1000000) :
    Calls Tryz.prog 151 #[PT p] w fun r w' => r = .returned (.tuple #[]) ∧ RdAt w' p s (st.counted s.size) ∧ Aside p w w' := by
  obtain ⟨c0, c1, c2, c3, c4, c5, cf⟩ := h.cells
  have f3 := cf 3
  have HR := hide h
  have hl0 := h.big
  obtain ⟨at1, hat⟩ : ∃ a, a = s.size - st.rest.length := ⟨_, rfl⟩
  rw [← hat] at c1
  have HAT := hide hat
  have hn : RdAt (w.setCell ⟨p, 3, none⟩ (.int .i64 ((st.cnt + 1 : Nat) : Int))) p s ⟨st.rest, st.deep, st.cnt + 1, st.err, st.wh⟩ := ⟨h.blk.rd3 _, h.suf, h.len, h.big⟩
  obtain ⟨w1, hw1⟩ : ∃ w1, w1 = w.setCell ⟨p, 3, none⟩ (.int .i64 ((st.cnt + 1 : Nat) : Int)) := ⟨_, rfl⟩
  have hfl := fail_any p 3 at1 s ⟨st.rest, st.deep, st.cnt + 1, st.err, st.wh⟩ _ hn
  have d1 := hn.cells.2.1
  have d3 := hn.cells.2.2.2.1
  have ew : (w.setCell ⟨p, 3, none⟩ (.int .i64 ((st.cnt : Int) + 1))) = w1 := hw1.symm
  rw [← hw1] at hn hfl d1 d3
  simp only [] at d1 d3
  rw [← hat] at d1
  have HN := hide hn
  have HF := hide hfl
  have HA := hide (show Aside p w w1 by rw [hw1]; exact Aside.set _ _ _)
  have hcn : st.cnt + 1 ≤ 1000001 := by omega
  clear h cf hat hn hfl hw1
  unfold PT at HF ⊢
  go_enter Tryz.func151, Tryz.ntmps151
  by_cases hb : 1000 < st.cnt + 1
  · have hd : decide ((1000 : Int) < (st.cnt : Int) + 1) = true := by simp; omega
    have HE : Hid (st.counted s.size = St.fail 3 at1 ⟨st.rest, st.deep, st.cnt + 1, st.err, st.wh⟩) := by
      show _ = _
      unfold St.counted
      rw [if_pos hb, HAT.out]; rfl
    clear hb
    go_wp2_with fail
    refine HF.out.mono ?_
    rintro e w2 ⟨rfl, hR, hA⟩
    have HR2 := hide hR
    have HA2 := hide (HA.out.trans hA)
    clear hR hA HF
    go_wp2
    refine bodyPost_end (v := .tuple #[]) (by simp [results, Tryz.results151, go_sem]) rfl ?_
    refine ⟨rfl, ?_, HA2.out⟩
    rw [HE.out]; exact HR2.out
  · have hd : decide ((1000 : Int) < (st.cnt : Int) + 1) = false := by simp; omega
    have HE : Hid (st.counted s.size = ⟨st.rest, st.deep, st.cnt + 1, st.err, st.wh⟩) := by
      show _ = _
      unfold St.counted
      rw [if_neg hb]
    clear hb HF
    go_wp2
    refine bodyPost_end (v := .tuple #[]) (by simp [results, Tryz.results151, go_sem]) rfl ?_
    refine ⟨rfl, ?_, HA.out⟩
    rw [HE.out]; exact HN.out

theorem scan_le : ∀ l : List Nat, (scanN l).2 ≤ l.length
  | [] => Nat.le_refl _
  | a :: r => by
    unfold scanN
    repeat' split
    all_goals simp_all <;> omega
theorem scan_lt256 (l : List Nat) (h : ∀ x ∈ l, x < 256) : (scanN l).1 < 256 := by
  have hd : ∀ z, digitsL.contains z = true → digitsL.idxOf z < 16 := fun z hz => List.idxOf_lt_length_of_mem (List.contains_iff_mem.1 hz)
  match l with
  | [] => simp [scanN]
  | a :: r =>
    by_cases ha : a = 92
    · subst ha
      rw [scan_marked]
      match r with
      | [] => simp [scanM]
      | b :: r2 =>
        have hb := h b (by simp)
        unfold scanM
        simp only
        split
        · simp
        split
        · simp
        split
        · match r2 with
          | [] => simp [scanD]
          | [c] => simp [scanD]
          | c :: d :: _ =>
            unfold scanD
            simp only
            split
            · rename_i hh
              rw [Bool.and_eq_true] at hh
              have := hd _ hh.1
              have := hd _ hh.2
              simp only
              omega
            · simp
        split
        · simp
        · exact hb
    · have hb := h a (by simp)
      have e : scanN (a :: r) = if !plainB a || signsL.contains a then (0, 0) else (a, 1) := by
        show (if a = 92 then _ else _) = _
        rw [if_neg ha]
      rw [e]
      split
      · simp
      · exact hb
theorem RdAt.fwd {w : World} {p : Nat} {s : ByteArray} {st : St} {k : Nat} (h : RdAt w p s st) (hk : k ≤ st.rest.length) :
    RdAt (w.setCell ⟨p, 1, none⟩ (.int .i64 (s.size - st.rest.length + k : Nat))) p s (st.to (st.rest.drop k)) := by
  have hl := h.len
  have e1 : s.size - st.rest.length + k = s.size - (st.rest.drop k).length := by rw [List.length_drop]; omega
  refine ⟨?_, ?_, ?_, h.big⟩
  · rw [e1]; exact h.blk.rd1 _
  · show st.rest.drop k = (bytesN s).drop (s.size - (st.rest.drop k).length)
    rw [← e1, ← List.drop_drop, ← h.suf]
  · show (st.rest.drop k).length ≤ s.size
    rw [List.length_drop]; omega
set_option maxHeartbeats 1000000 in
theorem byte_any (p : Nat) (s : ByteArray) (st : St) (w : World) (h : RdAt w p s st) :
    Calls Tryz.prog 155 #[PT p] w fun r w' => r = .returned (.int .u8 st.byteV) ∧ RdAt w' p s (st.byte s.size) ∧ Aside p w w' := by
  have HR := hide h
  obtain ⟨at1, hat⟩ : ∃ a, a = s.size - st.rest.length := ⟨_, rfl⟩
  have HAT := hide hat
  have hs0 := h.big
  have hle : at1 ≤ s.size := by omega
  obtain ⟨u, hu⟩ : ∃ u, u = (scanN st.rest).1 := ⟨_, rfl⟩
  obtain ⟨m, hm⟩ : ∃ m, m = (scanN st.rest).2 := ⟨_, rfl⟩
  have hms : m ≤ s.size := by have h1 := scan_le st.rest; have h2 := h.len; omega
  have hmr : m ≤ st.rest.length := by have h1 := scan_le st.rest; omega
  obtain ⟨C, hC⟩ : ∃ C : World → Prop, C = fun W => Below w.heap.size w W := ⟨_, rfl⟩
  have HG : Hid (Grows C) := by rw [hC]; exact fun W W' h1 h2 => h1.trans (h2.mono h1.size)
  have HCD : Hid (C { w with drawn := w.drawn + 1 }) := by rw [hC]; exact ⟨rfl, rfl, rfl, Nat.le_refl _, fun _ _ => rfl⟩
  have HCB : Hid (∀ W, C W → Below w.heap.size w W) := by rw [hC]; exact fun W h => h
  have HC0 : Hid (∀ W, C W → W.cell? ⟨p, 0, none⟩ = some (.string s)) := fun W hW => (HR.out.keep (HCB.out W hW)).cells.1
  have HC1 : Hid (∀ W, C W → W.cell? ⟨p, 1, none⟩ = some (.int .i64 at1)) := fun W hW => by rw [hat]; exact (HR.out.keep (HCB.out W hW)).cells.2.1
  have HQS : Hid (∀ W, C W → Calls Tryz.prog 156 #[.string (s.extract at1 s.size)] W fun e w' => e = .returned (.tuple #[.int .u8 u, .int .i64 m]) ∧ Below W.heap.size W w') := fun W _ => by
    have e : bytesN (s.extract at1 s.size) = st.rest := by rw [bN_drop, hat, ← h.suf]
    have hsz : (s.extract at1 s.size).size ≤ 1000000 := by rw [← bN_len, e]; have := h.len; omega
    have := scan_any (s.extract at1 s.size) W hsz
    rw [e, ← hu, ← hm] at this
    exact this
  have HBV : Hid (st.byteV = u) := hu.symm
  have HBY : Hid (st.byte s.size = if m = 0 then st.fail 2 at1 else st.to (st.rest.drop m)) := by
    show _ = _
    unfold St.byte St.pos
    rw [← hm, ← hat]
  clear hC hat h hu hm
  unfold PT
  go_enter Tryz.func155, Tryz.ntmps155
  go_wp2
  have hG := HG.out
  have hc0 := HC0.out
  have hc1 := HC1.out
  have hqs := HQS.out
  refine w_lit (C := C) (by kernel_rfl) (by kernel_rfl) HCD.out ?_
  refine w_value (PT p) (by kernel_rfl) (fun w hw => x_move _ _ _ _ _ _ _ _ rfl w) ?_
  simp only [Act.put, List.setIfInBounds_toArray, List.set_cons_succ, List.set_cons_zero]
  refine w_value (PT p) (by kernel_rfl) (fun w hw => x_nilCheck _ _ _ _ _ _ _ _ rfl w) ?_
  simp only [Act.put, List.setIfInBounds_toArray, List.set_cons_succ, List.set_cons_zero]
  refine w_value (PT p) (by kernel_rfl) (fun w hw => x_fieldR0 _ _ _ _ _ _ _ p rfl w) ?_
  simp only [Act.put, List.setIfInBounds_toArray, List.set_cons_succ, List.set_cons_zero]
  refine w_value (.string s) (by kernel_rfl) (fun w hw => x_loadStr _ _ _ _ _ _ _ p 0 _ rfl w (hc0 w hw)) ?_
  simp only [Act.put, List.setIfInBounds_toArray, List.set_cons_succ, List.set_cons_zero]
  refine w_value (PT p) (by kernel_rfl) (fun w hw => x_move _ _ _ _ _ _ _ _ rfl w) ?_
  simp only [Act.put, List.setIfInBounds_toArray, List.set_cons_succ, List.set_cons_zero]
  refine w_value (PT p) (by kernel_rfl) (fun w hw => x_nilCheck _ _ _ _ _ _ _ _ rfl w) ?_
  simp only [Act.put, List.setIfInBounds_toArray, List.set_cons_succ, List.set_cons_zero]
  refine w_value (.pointer (some ⟨p, 1, none⟩)) (by kernel_rfl) (fun w hw => x_fieldR1 _ _ _ _ _ _ _ p rfl w) ?_
  simp only [Act.put, List.setIfInBounds_toArray, List.set_cons_succ, List.set_cons_zero]
  refine w_value (.int .i64 at1) (by kernel_rfl) (fun w hw => x_loadInt _ _ _ _ _ _ _ p 1 _ rfl w (hc1 w hw)) ?_
  simp only [Act.put, List.setIfInBounds_toArray, List.set_cons_succ, List.set_cons_zero]
  refine w_value (.string (s.extract at1 s.size)) (by kernel_rfl) (fun w hw => x_strFrom _ _ _ _ _ _ _ _ s at1 rfl rfl hle w) ?_
  simp only [Act.put, List.setIfInBounds_toArray, List.set_cons_succ, List.set_cons_zero]
  refine w_call hG 156 #[.string (s.extract at1 s.size)] (.tuple #[.int .u8 u, .int .i64 m]) (by kernel_rfl) (fun w => x_call1 _ _ _ _ _ _ _ _ _ _ rfl rfl (enters_of Tryz.func156 (by kernel_rfl) rfl) w) (fun w hw => hqs w hw) ?_
  simp only [Act.put, List.setIfInBounds_toArray, List.set_cons_succ, List.set_cons_zero]
  refine w_value (.tuple #[.int .u8 u, .int .i64 m]) (by kernel_rfl) (fun w hw => x_move _ _ _ _ _ _ _ _ rfl w) ?_
  simp only [Act.put, List.setIfInBounds_toArray, List.set_cons_succ, List.set_cons_zero]
  refine w_value (.int .u8 u) (by kernel_rfl) (fun w hw => x_ext0 _ _ _ _ _ _ _ (.int .u8 u) (.int .i64 m) rfl w) ?_
  simp only [Act.put, List.setIfInBounds_toArray, List.set_cons_succ, List.set_cons_zero]
  refine w_value (.int .i64 m) (by kernel_rfl) (fun w hw => x_ext1 _ _ _ _ _ _ _ (.int .u8 u) (.int .i64 m) rfl w) ?_
  simp only [Act.put, List.setIfInBounds_toArray, List.set_cons_succ, List.set_cons_zero]
  refine w_value (.int .u8 u) (by kernel_rfl) (fun w hw => x_assign _ _ _ _ _ _ _ _ rfl w) ?_
  simp only [Act.put, List.setIfInBounds_toArray, List.set_cons_succ, List.set_cons_zero]
  refine w_value (.int .i64 m) (by kernel_rfl) (fun w hw => x_assign _ _ _ _ _ _ _ _ rfl w) ?_
  simp only [Act.put, List.setIfInBounds_toArray, List.set_cons_succ, List.set_cons_zero]
  refine w_nil ?_
  intro W hW
  have HW := hide hW
  have d1 := hc1 W hW
  have hRW := HR.out.keep (HCB.out W hW)
  have df := hRW.cells.2.2.2.2.2.2 1
  have HRW := hide hRW
  clear hW hG hc0 hc1 hqs hRW
  by_cases hm0 : m = 0
  · have hz : ((m : Int) == 0) = true := by simp [hm0]
    have HE : Hid (st.byte s.size = st.fail 2 at1) := by show _ = _; rw [HBY.out, if_pos hm0]
    have HF := hide (fail_any p 2 at1 s st W HRW.out)
    subst hm0
    unfold PT at HF
    go_wp2_with fail
    refine HF.out.mono ?_
    rintro e w2 ⟨rfl, hR, hA⟩
    have HR2 := hide hR
    have HA2 := hide ((Aside.of_below (HCB.out W HW.out)).trans hA)
    have g1 := hR.cells.2.1
    have gf := hR.cells.2.2.2.2.2.2 1
    have e0 : s.size - (St.fail 2 at1 st).rest.length = s.size := by simp [St.fail]
    rw [e0] at g1
    clear hR hA HF d1 df e0
    go_wp2
    go_ret
    refine ⟨?_, ?_, ?_⟩
    · rw [HBV.out]; rfl
    · rw [HE.out]
      have hb : Blk w2 p (rdC s s.size (St.fail 2 at1 st).deep (St.fail 2 at1 st).cnt (St.fail 2 at1 st).err (St.fail 2 at1 st).wh) 73 := by
        have := HR2.out.blk
        simpa [St.fail] using this
      exact ⟨by have := hb.rd1 s.size; simpa [St.fail] using this, HR2.out.suf, HR2.out.len, HR2.out.big⟩
    · exact HA2.out.trans (Aside.set _ _ _)
  · have hz : ((m : Int) == 0) = false := beq_eq_false_iff_ne.2 (by omega)
    have HE : Hid (st.byte s.size = st.to (st.rest.drop m)) := by show _ = _; rw [HBY.out, if_neg hm0]
    have hfw := HRW.out.fwd hmr
    rw [← HAT.out] at hfw
    have HFW := hide hfw
    clear hfw hm0
    go_wp2
    go_ret
    refine ⟨?_, ?_, (Aside.of_below (HCB.out W HW.out)).trans (Aside.set _ _ _)⟩
    · rw [HBV.out]; rfl
    · rw [HE.out]; exact HFW.out
end Go.Proofs.YtdbdjjjmomociaaGreatDoor
/- class: what stands behind a [. -/
namespace Go.Proofs.YtdbdjjjmomociaaGreatDoor
set_option maxRecDepth 100000
set_option linter.unusedSimpArgs false
set_option linter.unusedVariables false
open Go.RowKit

section
variable {ops : Array Oper} {S : World → Prop} {Q : Exit → Act → World → Prop} {fuel : Nat} {listed : Array Bool} {a : Act} {w : World} {oi oj : Oper} {ri rj : List Oper}
/-- A load and a call that may come up in either order. -/
theorem h_load_call (i j : Nat) (v u : Value) (f : FuncId) (vs : Array Value) (R : World → Prop) (hi : ops.toList.drop i = oi :: ri) (hj : ops.toList.drop j = oj :: rj) (hr : Region.ready .any ops listed = [i, j])
    (hri : Region.ready .any ops (listed.setIfInBounds i true) = [j]) (hrj : Region.ready .any ops (listed.setIfInBounds j true) = [i])
    (hwi : Region.wanted oi (yielded ops a.tmps) = true) (hwj : Region.wanted oj (yielded ops a.tmps) = true) (hwi' : Region.wanted oi (yielded ops (a.put oj.dst u).tmps) = true) (hwj' : Region.wanted oj (yielded ops (a.put oi.dst v).tmps) = true)
    (hvi : ∀ w, R w → (execOp a.eval oi).run Tryz.prog w = .ok (.value v) w) (hvi' : ∀ w, R w → (execOp (a.put oj.dst u).eval oi).run Tryz.prog w = .ok (.value v) w)
    (hvj : ∀ w, (execOp a.eval oj).run Tryz.prog w = .ok (.enter f vs) w) (hvj' : ∀ w, (execOp (a.put oi.dst v).eval oj).run Tryz.prog w = .ok (.enter f vs) w)
    (hc : ∀ w, R w → Calls Tryz.prog f vs w fun e w' => e = .returned u ∧ R w') (hS : ∀ w, R w → S w) (hR : R w)
    (hcm : (a.put oj.dst u).put oi.dst v = (a.put oi.dst v).put oj.dst u) (hl : (listed.setIfInBounds j true).setIfInBounds i true = (listed.setIfInBounds i true).setIfInBounds j true)
    (h : ∀ w', R w' → wpAnyH Tryz.prog .any ops (NoPanic Q) S fuel ((listed.setIfInBounds i true).setIfInBounds j true) ((a.put oi.dst v).put oj.dst u) w') : wpAnyH Tryz.prog .any ops (NoPanic Q) S (fuel + 2) listed a w := by
  refine wpAnyH_all hr (by simp) ?_
  intro k hk
  rcases List.mem_cons.1 hk with rfl | hk
  · unfold wpOp
    simp only [at_drop hi, hwi, if_true]
    refine .inl ?_
    unfold Oper.wp
    rw [hvi w hR, Oper.upon_value]
    refine ⟨hS w hR, ?_⟩
    refine wpAnyH_all hri (by simp) ?_
    intro k' hk'
    obtain rfl : k' = j := by simpa using hk'
    unfold wpOp
    simp only [at_drop hj, hwj', if_true]
    refine .inl ?_
    unfold Oper.wp
    rw [hvj' w, Oper.upon_enter]
    refine (hc w hR).mono ?_
    rintro e w' ⟨rfl, hR'⟩
    exact ⟨hS w' hR', h w' hR'⟩
  · obtain rfl : k = j := by simpa using hk
    unfold wpOp
    simp only [at_drop hj, hwj, if_true]
    refine .inl ?_
    unfold Oper.wp
    rw [hvj w, Oper.upon_enter]
    refine (hc w hR).mono ?_
    rintro e w' ⟨rfl, hR'⟩
    refine ⟨hS w' hR', ?_⟩
    refine wpAnyH_all hrj (by simp) ?_
    intro k' hk'
    obtain rfl : k' = i := by simpa using hk'
    unfold wpOp
    simp only [at_drop hi, hwi', if_true]
    refine .inl ?_
    unfold Oper.wp
    rw [hvi' w' hR', Oper.upon_value]
    refine ⟨hS w' hR', ?_⟩
    rw [hcm, hl]
    exact h w' hR'
end

/-- What class keeps: the reader, the result's box R, the set's box C. -/
structure ClW (w : World) (p : Nat) (s : ByteArray) (st : St) (R C : Nat) (cs : BitVec 256) (W : World) : Prop where
  rd : RdAt W p s st
  res : Blk W R (WS 0#256) 44
  box : Blk W C (WS cs) 44
  aside : Aside p w W
  rp : R ≠ p ∧ C ≠ p ∧ R ≠ C
  new : w.heap.size ≤ R ∧ w.heap.size ≤ C
theorem ClW.step {w W W' : World} {p : Nat} {s : ByteArray} {st : St} {R C : Nat} {cs : BitVec 256} (h : ClW w p s st R C cs W) (hb : Below W.heap.size W W') : ClW w p s st R C cs W' :=
  ⟨h.rd.keep hb, h.res.below hb h.res.lt, h.box.below hb h.box.lt, h.aside.trans (Aside.of_below hb), h.rp, h.new⟩
theorem ClW.read {w W W' : World} {p : Nat} {s : ByteArray} {st st' : St} {R C : Nat} {cs : BitVec 256} (h : ClW w p s st R C cs W) (hr : RdAt W' p s st') (ha : Aside p W W') : ClW w p s st' R C cs W' :=
  ⟨hr, (ha.block R h.res.lt h.rp.1).trans h.res, (ha.block C h.box.lt h.rp.2.1).trans h.box, h.aside.trans ha, h.rp, h.new⟩
theorem put4_size (W : World) (b : Nat) (u : BitVec 256) : (put4 W b u).heap.size = W.heap.size := by simp [put4, World.setCell]
theorem aside_put4 {p B : Nat} {w W : World} (h : Aside p w W) (hB : w.heap.size ≤ B) (u : BitVec 256) : Aside p w (put4 W B u) :=
  ⟨h.os, h.tape, h.output, by rw [put4_size]; exact h.size, fun k hk hp => (put4_other (by omega) u).trans (h.block k hk hp)⟩
theorem ClW.store {w W : World} {p : Nat} {s : ByteArray} {st : St} {R C : Nat} {cs : BitVec 256} (h : ClW w p s st R C cs W) (u : BitVec 256) : ClW w p s st R C u (put4 W C u) :=
  ⟨⟨(put4_other (Ne.symm h.rp.2.1) u).trans h.rd.blk, h.rd.suf, h.rd.len, h.rd.big⟩, (put4_other h.rp.2.2 u).trans h.res, put4_blk h.box u, aside_put4 h.aside h.new.2 u, h.rp, h.new⟩
theorem RdAt.rest256 {w : World} {p : Nat} {s : ByteArray} {st : St} (h : RdAt w p s st) : ∀ x ∈ st.rest, x < 256 := fun x hx => by
  rw [h.suf] at hx; exact bN_lt s x (List.mem_of_mem_drop hx)
theorem RdAt.byte256 {w : World} {p : Nat} {s : ByteArray} {st : St} (h : RdAt w p s st) : st.byteV < 256 := scan_lt256 _ h.rest256

set_option maxHeartbeats 4000000 in
theorem class_any (f p : Nat) (s : ByteArray) (st stF : St) (q : BitVec 256) (w : World) (h : RdAt w p s st) (hc : st.clas s.size f = some (q, stF)) :
    Calls Tryz.prog 154 #[PT p] w fun r w' => r = .returned (SV q) ∧ RdAt w' p s stF ∧ Aside p w w' := by
  obtain ⟨nt, hnt⟩ : ∃ nt, nt = st.isAt 94 := ⟨_, rfl⟩
  obtain ⟨sF, hcl, hq⟩ : ∃ sF, St.classL s.size f 0#256 (st.here 94) = some (sF, stF) ∧ q = if nt = true then ~~~sF else sF := by
    unfold St.clas at hc
    rw [← hnt] at hc
    cases nt with
    | true =>
      rw [if_pos rfl] at hc
      obtain ⟨⟨a, b⟩, h1, h2⟩ := Option.map_eq_some_iff.1 hc
      simp at h2
      obtain ⟨rfl, rfl⟩ := h2
      exact ⟨a, h1, rfl⟩
    | false =>
      rw [if_neg (by simp)] at hc
      have e : st.here 94 = st := by unfold St.here; rw [← hnt]; rfl
      rw [e]; exact ⟨q, hc, rfl⟩
  have hpl := h.blk.lt
  obtain ⟨R, hR⟩ : ∃ R, R = w.heap.size := ⟨_, rfl⟩
  have hb0 : Below w.heap.size w (w.alloc (.cells (WS 0#256) 44)) := (Below.refl _ _).alloc (Nat.le_refl _) _
  have hk0 : Blk (w.alloc (.cells (WS 0#256) 44)) R (WS 0#256) 44 := Blk.newAt hR _ _
  have hhe := here_any p 94 s st _ (h.keep hb0)
  rw [← hnt] at hhe
  have HCL := hide hcl
  have HQ := hide hq
  have HHE := hide hhe
  have HK0 := hide hk0
  have HB0 := hide hb0
  have HRR := hide hR
  have HPL := hide hpl
  rw [← WS_zero] at HHE HK0 HB0
  clear hc hcl hq hhe hb0 hk0 hnt h hpl
  unfold PT at HHE ⊢
  go_enter Tryz.func154, Tryz.ntmps154
  go_wp2_with fail
  rw [← hR]
  clear hR
  refine HHE.out.mono ?_
  rintro e w1 ⟨rfl, hR1, hA1⟩
  have HR1 := hide hR1
  have HA1 := hide hA1
  clear hR1 hA1 HHE
  obtain ⟨C, hC⟩ : ∃ C, C = w1.heap.size := ⟨_, rfl⟩
  have hcw : ClW w p s (st.here 94) R C 0#256 (w1.alloc (.cells (WS 0#256) 44)) := by
    have hb1 : Below w1.heap.size w1 (w1.alloc (.cells (WS 0#256) 44)) := (Below.refl _ _).alloc (Nat.le_refl _) _
    have hRl := HK0.out.lt
    have hRp : R ≠ p := by have := HRR.out; have := HPL.out; omega
    have hk1 : Blk w1 R (WS 0#256) 44 := by rw [← WS_zero]; exact (HA1.out.block R hRl hRp).trans HK0.out
    have hs1 := HA1.out.size
    have hb := HB0.out.size
    refine ⟨HR1.out.keep hb1, hk1.alloc _, Blk.newAt hC _ _, ((Aside.of_below HB0.out).trans HA1.out).trans (Aside.of_below hb1), ⟨hRp, ?_, ?_⟩, ?_, ?_⟩
    · have := HPL.out; omega
    · omega
    · rw [HRR.out]; exact Nat.le_refl _
    · omega
  rw [← WS_zero] at hcw
  have HCW := hide hcw
  clear hcw
  go_wp2
  rw [← hC]
  clear hC
  go_loopg [5] f (fun k _ wr => Hid (∃ cs st1, St.classL s.size k cs st1 = some (sF, stF) ∧ ClW w p s st1 R C cs wr))
  case atStart => exact ⟨0#256, st.here 94, HCL.out, HCW.out⟩
  case round =>
    clear HCW HR1 HA1 HCL HK0 HB0 HRR HPL
    obtain ⟨cs, st1, hcl, hW⟩ := hrel
    cases gk with
    | zero => simp [St.classL] at hcl
    | succ k =>
      have HW := hide hW
      obtain ⟨z, hz⟩ : ∃ z, z = st1.isAt 93 := ⟨_, rfl⟩
      have hhe := here_any p 93 s st1 wr hW.rd
      rw [← hz] at hhe
      have HHE := hide hhe
      unfold St.classL at hcl
      rw [← hz] at hcl
      have HZ := hide hz
      clear hW hhe hz
      unfold PT at HHE
      go_wp2_with fail
      refine HHE.out.mono ?_
      rintro e w2 ⟨rfl, hR2, hA2⟩
      have HW2 := hide (HW.out.read hR2 hA2)
      clear hR2 hA2 HHE HW
      cases z with
      | true =>
        rw [if_pos rfl] at hcl
        have HE : Hid (cs = sF ∧ st1.here 93 = stF) := by injection hcl with hcl; injection hcl with e1 e2; exact ⟨e1, e2⟩
        clear hcl
        have hbx := HW2.out.box
        have b0 := hbx.cell 0; have b1 := hbx.cell 1; have b2 := hbx.cell 2; have b3 := hbx.cell 3
        simp only [WS, List.getElem?_toArray, List.getElem?_cons_zero, List.getElem?_cons_succ] at b0 b1 b2 b3
        clear hbx
        cases nt with
        | true =>
          have HN := hide (not_any cs w2)
          unfold SV at HN
          go_wp2_with fail
          refine HN.out.mono ?_
          rintro e w6 ⟨rfl, hb6⟩
          have HW6 := hide (HW2.out.step hb6)
          clear hb6 HN HW2 b0 b1 b2 b3
          have hres := HW6.out.res
          have r0 := hres.cell 0; have r1 := hres.cell 1; have r2 := hres.cell 2; have r3 := hres.cell 3
          have f0 := hres.frozen 0; have f1 := hres.frozen 1; have f2 := hres.frozen 2; have f3 := hres.frozen 3
          simp only [WS, List.getElem?_toArray, List.getElem?_cons_zero, List.getElem?_cons_succ] at r0 r1 r2 r3
          obtain ⟨W7, hW7⟩ : ∃ W7, W7 = put4 w6 R (~~~cs) := ⟨_, rfl⟩
          have ew : (((w6.setCell ⟨R, 0, none⟩ (.int .u64 (wd (~~~cs) 0))).setCell ⟨R, 1, none⟩ (.int .u64 (wd (~~~cs) 1))).setCell ⟨R, 2, none⟩ (.int .u64 (wd (~~~cs) 2))).setCell ⟨R, 3, none⟩ (.int .u64 (wd (~~~cs) 3)) = W7 := hW7.symm
          have h7 : Blk W7 R (WS (~~~cs)) 44 := by rw [hW7]; exact put4_blk hres (~~~cs)
          have g0 := h7.cell 0; have g1 := h7.cell 1; have g2 := h7.cell 2; have g3 := h7.cell 3
          simp only [WS, List.getElem?_toArray, List.getElem?_cons_zero, List.getElem?_cons_succ] at g0 g1 g2 g3
          have HA7 : Hid (Aside p w W7) := by rw [hW7]; exact aside_put4 HW6.out.aside HW6.out.new.1 _
          have HR7 : Hid (RdAt W7 p s stF) := by
            have hrd := HW6.out.rd
            rw [HE.out.2] at hrd
            rw [hW7]; exact ⟨(put4_other (Ne.symm HW6.out.rp.1) _).trans hrd.blk, hrd.suf, hrd.len, hrd.big⟩
          clear hW7 h7 hres HW6
          go_wp2
          refine bodyPost_ret (v := SV (~~~cs)) (by simp [results, Tryz.results154, go_sem, SV, g0, g1, g2, g3]) rfl ⟨?_, HR7.out, HA7.out⟩
          rw [HQ.out, ← HE.out.1]; rfl
        | false =>
          have HW6 := HW2
          clear HW2
          have hres := HW6.out.res
          have r0 := hres.cell 0; have r1 := hres.cell 1; have r2 := hres.cell 2; have r3 := hres.cell 3
          have f0 := hres.frozen 0; have f1 := hres.frozen 1; have f2 := hres.frozen 2; have f3 := hres.frozen 3
          simp only [WS, List.getElem?_toArray, List.getElem?_cons_zero, List.getElem?_cons_succ] at r0 r1 r2 r3
          obtain ⟨W7, hW7⟩ : ∃ W7, W7 = put4 w2 R (cs) := ⟨_, rfl⟩
          have ew : (((w2.setCell ⟨R, 0, none⟩ (.int .u64 (wd (cs) 0))).setCell ⟨R, 1, none⟩ (.int .u64 (wd (cs) 1))).setCell ⟨R, 2, none⟩ (.int .u64 (wd (cs) 2))).setCell ⟨R, 3, none⟩ (.int .u64 (wd (cs) 3)) = W7 := hW7.symm
          have h7 : Blk W7 R (WS (cs)) 44 := by rw [hW7]; exact put4_blk hres (cs)
          have g0 := h7.cell 0; have g1 := h7.cell 1; have g2 := h7.cell 2; have g3 := h7.cell 3
          simp only [WS, List.getElem?_toArray, List.getElem?_cons_zero, List.getElem?_cons_succ] at g0 g1 g2 g3
          have HA7 : Hid (Aside p w W7) := by rw [hW7]; exact aside_put4 HW6.out.aside HW6.out.new.1 _
          have HR7 : Hid (RdAt W7 p s stF) := by
            have hrd := HW6.out.rd
            rw [HE.out.2] at hrd
            rw [hW7]; exact ⟨(put4_other (Ne.symm HW6.out.rp.1) _).trans hrd.blk, hrd.suf, hrd.len, hrd.big⟩
          clear hW7 h7 hres HW6
          go_wp2
          refine bodyPost_ret (v := SV (cs)) (by simp [results, Tryz.results154, go_sem, SV, g0, g1, g2, g3]) rfl ⟨?_, HR7.out, HA7.out⟩
          rw [HQ.out, ← HE.out.1]; rfl
      | false =>
        rw [if_neg (by simp)] at hcl
        have e93 : st1.here 93 = st1 := by unfold St.here; rw [← HZ.out]; rfl
        rw [e93] at HW2
        have c4 := HW2.out.rd.cells.2.2.2.2.1
        by_cases her : st1.err = 0
        · rw [if_pos her] at hcl
          have HCLL := hide hcl
          rw [her] at c4
          have HB2 := hide (byte_any p s st1 w2 HW2.out.rd)
          have hlo := HW2.out.rd.byte256
          clear hcl her e93
          obtain ⟨low, hlow⟩ : ∃ low, low = st1.byteV := ⟨_, rfl⟩
          obtain ⟨st2, hst2⟩ : ∃ st2, st2 = st1.byte s.size := ⟨_, rfl⟩
          rw [← hlow, ← hst2] at HB2 HCLL
          rw [← hlow] at hlo
          have HLO := hide hlo
          clear hlow hst2
          unfold PT at HB2
          go_wp2_with fail
          refine HB2.out.mono ?_
          rintro e w3 ⟨rfl, hR3, hA3⟩
          have HW3 := hide (HW2.out.read hR3 hA3)
          clear hR3 hA3 HB2 HW2 c4
          obtain ⟨d, hd⟩ : ∃ d, d = st2.isAt 45 := ⟨_, rfl⟩
          have hhe := here_any p 45 s st2 w3 HW3.out.rd
          rw [← hd] at hhe HCLL
          have HHE := hide hhe
          have HD := hide hd
          clear hhe hd
          unfold PT at HHE
          go_wp2_with fail
          refine HHE.out.mono ?_
          rintro e w4 ⟨rfl, hR4, hA4⟩
          have HW4 := hide (HW3.out.read hR4 hA4)
          clear hR4 hA4 HHE HW3
          cases d with
          | true =>
            have HB5 := hide (byte_any p s _ w4 HW4.out.rd)
            have hhi := HW4.out.rd.byte256
            obtain ⟨high, hhigh⟩ : ∃ high, high = (st2.here 45).byteV := ⟨_, rfl⟩
            obtain ⟨st3, hst3⟩ : ∃ st3, st3 = (st2.here 45).byte s.size := ⟨_, rfl⟩
            simp only [if_true] at HCLL
            rw [← hhigh, ← hst3] at HB5 HCLL
            rw [← hhigh] at hhi
            have HHI := hide hhi
            clear hhigh hst3 HD
            unfold PT at HB5
            go_wp2_with fail
            refine HB5.out.mono ?_
            rintro e w5 ⟨rfl, hR5, hA5⟩
            have HW5 := hide (HW4.out.read hR5 hA5)
            clear hR5 hA5 HB5 HW4
            by_cases hlt : high < low
            · have hd1 : decide ((high : Int) < low) = true := by simp; omega
              have hd2 : decide (high < low) = true := by simp [hlt]
              rw [if_pos hlt] at HCLL
              obtain ⟨at1, hat⟩ : ∃ a, a = st3.pos s.size := ⟨_, rfl⟩
              have c1 := HW5.out.rd.cells.2.1
              have ea : s.size - st3.rest.length = at1 := hat.symm
              rw [ea] at c1
              have HF := hide (fail_any p 2 at1 s st3 w5 HW5.out.rd)
              rw [← hat] at HCLL
              obtain ⟨st4, hst4⟩ : ∃ st4, st4 = st3.fail 2 at1 := ⟨_, rfl⟩
              rw [← hst4] at HF HCLL
              have HK4 := HCLL
              clear hlt hat ea hst4 HCLL
              unfold PT at HF
              go_wp2_with fail
              refine HF.out.mono ?_
              rintro e WW ⟨rfl, hR6, hA6⟩
              have HW6 := hide (HW5.out.read hR6 hA6)
              clear hR6 hA6 HF HW5 c1
              go_wp2
              rw [show Value.pointer (some ⟨C, 0, none⟩) = PT C from rfl]
              have hA1 := HW6.out.step (⟨rfl, rfl, rfl, Nat.le_refl _, fun _ _ => rfl⟩ : Below WW.heap.size WW { WW with drawn := WW.drawn + 1 })
              refine wp_region_noPanic (wp_region_held (S := fun _ => True) (by kernel_rfl) ?_)
              show wpAnyH _ _ _ _ _ 6 #[false, false, false, false, false, false] _ _
              generalize ({ WW with drawn := WW.drawn + 1 } : World) = W at hA1 ⊢
              refine h_take 1 (.int .u8 low) rfl (by kernel_rfl) (by kernel_rfl) (by kernel_rfl) rfl (fun w hw => x_move _ _ _ _ _ _ _ _ rfl w) trivial ?_
              simp only [Act.put, List.setIfInBounds_toArray, List.set_cons_succ, List.set_cons_zero]
              refine h_take 2 (.int .u8 high) rfl (by kernel_rfl) (by kernel_rfl) (by kernel_rfl) rfl (fun w hw => x_move _ _ _ _ _ _ _ _ rfl w) trivial ?_
              simp only [Act.put, List.setIfInBounds_toArray, List.set_cons_succ, List.set_cons_zero]
              refine h_load_call 0 3 (SV cs) (SV (span low (high + 1))) 47 #[.int .u8 low, .int .u8 high] (ClW w p s st4 R C cs) rfl rfl (by kernel_rfl) (by kernel_rfl) (by kernel_rfl) rfl rfl rfl rfl (fun w hw => x_loadSet _ _ _ _ _ _ _ _ cs rfl w hw.box) (fun w hw => x_loadSet _ _ _ _ _ _ _ _ cs rfl w hw.box)
                (fun w => x_call2 _ _ _ _ _ _ _ _ _ _ _ _ _ rfl rfl rfl (enters_of Tryz.func47 (by kernel_rfl) rfl) w) (fun w => x_call2 _ _ _ _ _ _ _ _ _ _ _ _ _ rfl rfl rfl (enters_of Tryz.func47 (by kernel_rfl) rfl) w)
                (fun w hw => (from_any low high HLO.out HHI.out w).mono fun e w' h => ⟨h.1, hw.step h.2⟩) (fun _ _ => trivial) hA1 rfl rfl ?_
              intro W2 hA2
              simp only [Act.put, List.setIfInBounds_toArray, List.set_cons_succ, List.set_cons_zero]
              refine h_callE 4 57 #[SV cs, SV (span low (high + 1))] (fun v w' => v = SV (cs ||| span low (high + 1)) ∧ Below W2.heap.size W2 w') rfl (by kernel_rfl) rfl (x_call2 _ _ _ _ _ _ _ _ _ _ _ _ _ rfl rfl rfl (enters_of Tryz.func57 (by kernel_rfl) rfl) _) ((or_any cs _ _).mono fun e w' h => ⟨_, h.1, rfl, h.2⟩) (fun v w' h => trivial) ?_
              rintro v3 W3 ⟨rfl, hb3⟩
              simp only [Act.put, List.setIfInBounds_toArray, List.set_cons_succ, List.set_cons_zero]
              have hA3 := hA2.step hb3
              have hA4 := hA3.store (cs ||| span low (high + 1))
              refine h_step 5 (put4 W3 C (cs ||| span low (high + 1))) rfl (by kernel_rfl) rfl (x_storeSet _ _ _ _ _ _ _ _ C _ cs rfl rfl _ hA3.box) trivial ?_
              simp only [Act.put, List.setIfInBounds_toArray, List.set_cons_succ, List.set_cons_zero]
              refine wpAnyH_done (by kernel_rfl) ?_ _
              refine NoPanic.normal ?_
              have HA4 := hide hA4
              clear hA1 hA2 hA3 hA4 hb3
              unfold PT
              go_wp2
              go_roundg k
              case measure => omega
              case rel => exact ⟨_, st4, HK4.out, HA4.out⟩
            · have hd1 : decide ((high : Int) < low) = false := by simp; omega
              have hd2 : decide (high < low) = false := by simp; omega
              rw [if_neg hlt] at HCLL
              obtain ⟨st4, hst4⟩ : ∃ st4, st4 = st3 := ⟨_, rfl⟩
              rw [← hst4] at HCLL HW5
              obtain ⟨WW, hWW⟩ : ∃ WW, WW = w5 := ⟨_, rfl⟩
              rw [← hWW] at HW5 ⊢
              have HK4 := HCLL
              have HW6 := HW5
              clear hlt hst4 HCLL HW5 hWW
              go_wp2
              rw [show Value.pointer (some ⟨C, 0, none⟩) = PT C from rfl]
              have hA1 := HW6.out.step (⟨rfl, rfl, rfl, Nat.le_refl _, fun _ _ => rfl⟩ : Below WW.heap.size WW { WW with drawn := WW.drawn + 1 })
              refine wp_region_noPanic (wp_region_held (S := fun _ => True) (by kernel_rfl) ?_)
              show wpAnyH _ _ _ _ _ 6 #[false, false, false, false, false, false] _ _
              generalize ({ WW with drawn := WW.drawn + 1 } : World) = W at hA1 ⊢
              refine h_take 1 (.int .u8 low) rfl (by kernel_rfl) (by kernel_rfl) (by kernel_rfl) rfl (fun w hw => x_move _ _ _ _ _ _ _ _ rfl w) trivial ?_
              simp only [Act.put, List.setIfInBounds_toArray, List.set_cons_succ, List.set_cons_zero]
              refine h_take 2 (.int .u8 high) rfl (by kernel_rfl) (by kernel_rfl) (by kernel_rfl) rfl (fun w hw => x_move _ _ _ _ _ _ _ _ rfl w) trivial ?_
              simp only [Act.put, List.setIfInBounds_toArray, List.set_cons_succ, List.set_cons_zero]
              refine h_load_call 0 3 (SV cs) (SV (span low (high + 1))) 47 #[.int .u8 low, .int .u8 high] (ClW w p s st4 R C cs) rfl rfl (by kernel_rfl) (by kernel_rfl) (by kernel_rfl) rfl rfl rfl rfl (fun w hw => x_loadSet _ _ _ _ _ _ _ _ cs rfl w hw.box) (fun w hw => x_loadSet _ _ _ _ _ _ _ _ cs rfl w hw.box)
                (fun w => x_call2 _ _ _ _ _ _ _ _ _ _ _ _ _ rfl rfl rfl (enters_of Tryz.func47 (by kernel_rfl) rfl) w) (fun w => x_call2 _ _ _ _ _ _ _ _ _ _ _ _ _ rfl rfl rfl (enters_of Tryz.func47 (by kernel_rfl) rfl) w)
                (fun w hw => (from_any low high HLO.out HHI.out w).mono fun e w' h => ⟨h.1, hw.step h.2⟩) (fun _ _ => trivial) hA1 rfl rfl ?_
              intro W2 hA2
              simp only [Act.put, List.setIfInBounds_toArray, List.set_cons_succ, List.set_cons_zero]
              refine h_callE 4 57 #[SV cs, SV (span low (high + 1))] (fun v w' => v = SV (cs ||| span low (high + 1)) ∧ Below W2.heap.size W2 w') rfl (by kernel_rfl) rfl (x_call2 _ _ _ _ _ _ _ _ _ _ _ _ _ rfl rfl rfl (enters_of Tryz.func57 (by kernel_rfl) rfl) _) ((or_any cs _ _).mono fun e w' h => ⟨_, h.1, rfl, h.2⟩) (fun v w' h => trivial) ?_
              rintro v3 W3 ⟨rfl, hb3⟩
              simp only [Act.put, List.setIfInBounds_toArray, List.set_cons_succ, List.set_cons_zero]
              have hA3 := hA2.step hb3
              have hA4 := hA3.store (cs ||| span low (high + 1))
              refine h_step 5 (put4 W3 C (cs ||| span low (high + 1))) rfl (by kernel_rfl) rfl (x_storeSet _ _ _ _ _ _ _ _ C _ cs rfl rfl _ hA3.box) trivial ?_
              simp only [Act.put, List.setIfInBounds_toArray, List.set_cons_succ, List.set_cons_zero]
              refine wpAnyH_done (by kernel_rfl) ?_ _
              refine NoPanic.normal ?_
              have HA4 := hide hA4
              clear hA1 hA2 hA3 hA4 hb3
              unfold PT
              go_wp2
              go_roundg k
              case measure => omega
              case rel => exact ⟨_, st4, HK4.out, HA4.out⟩
          | false =>
            have e45 : st2.here 45 = st2 := by unfold St.here; rw [← HD.out]; rfl
            rw [e45] at HW4
            simp only [Bool.false_eq_true, if_false, Nat.lt_irrefl] at HCLL
            obtain ⟨st4, hst4⟩ : ∃ st4, st4 = st2 := ⟨_, rfl⟩
            rw [← hst4] at HCLL HW4
            obtain ⟨WW, hWW⟩ : ∃ WW, WW = w4 := ⟨_, rfl⟩
            rw [← hWW] at HW4 ⊢
            have HK4 := HCLL
            have HW6 := HW4
            have HHI := HLO
            have hd1 : decide ((low : Int) < low) = false := by simp
            clear hst4 HCLL HW4 hWW e45 HD
            go_wp2
            rw [show Value.pointer (some ⟨C, 0, none⟩) = PT C from rfl]
            have hA1 := HW6.out.step (⟨rfl, rfl, rfl, Nat.le_refl _, fun _ _ => rfl⟩ : Below WW.heap.size WW { WW with drawn := WW.drawn + 1 })
            refine wp_region_noPanic (wp_region_held (S := fun _ => True) (by kernel_rfl) ?_)
            show wpAnyH _ _ _ _ _ 6 #[false, false, false, false, false, false] _ _
            generalize ({ WW with drawn := WW.drawn + 1 } : World) = W at hA1 ⊢
            refine h_take 1 (.int .u8 low) rfl (by kernel_rfl) (by kernel_rfl) (by kernel_rfl) rfl (fun w hw => x_move _ _ _ _ _ _ _ _ rfl w) trivial ?_
            simp only [Act.put, List.setIfInBounds_toArray, List.set_cons_succ, List.set_cons_zero]
            refine h_take 2 (.int .u8 low) rfl (by kernel_rfl) (by kernel_rfl) (by kernel_rfl) rfl (fun w hw => x_move _ _ _ _ _ _ _ _ rfl w) trivial ?_
            simp only [Act.put, List.setIfInBounds_toArray, List.set_cons_succ, List.set_cons_zero]
            refine h_load_call 0 3 (SV cs) (SV (span low (low + 1))) 47 #[.int .u8 low, .int .u8 low] (ClW w p s st4 R C cs) rfl rfl (by kernel_rfl) (by kernel_rfl) (by kernel_rfl) rfl rfl rfl rfl (fun w hw => x_loadSet _ _ _ _ _ _ _ _ cs rfl w hw.box) (fun w hw => x_loadSet _ _ _ _ _ _ _ _ cs rfl w hw.box)
              (fun w => x_call2 _ _ _ _ _ _ _ _ _ _ _ _ _ rfl rfl rfl (enters_of Tryz.func47 (by kernel_rfl) rfl) w) (fun w => x_call2 _ _ _ _ _ _ _ _ _ _ _ _ _ rfl rfl rfl (enters_of Tryz.func47 (by kernel_rfl) rfl) w)
              (fun w hw => (from_any low low HLO.out HHI.out w).mono fun e w' h => ⟨h.1, hw.step h.2⟩) (fun _ _ => trivial) hA1 rfl rfl ?_
            intro W2 hA2
            simp only [Act.put, List.setIfInBounds_toArray, List.set_cons_succ, List.set_cons_zero]
            refine h_callE 4 57 #[SV cs, SV (span low (low + 1))] (fun v w' => v = SV (cs ||| span low (low + 1)) ∧ Below W2.heap.size W2 w') rfl (by kernel_rfl) rfl (x_call2 _ _ _ _ _ _ _ _ _ _ _ _ _ rfl rfl rfl (enters_of Tryz.func57 (by kernel_rfl) rfl) _) ((or_any cs _ _).mono fun e w' h => ⟨_, h.1, rfl, h.2⟩) (fun v w' h => trivial) ?_
            rintro v3 W3 ⟨rfl, hb3⟩
            simp only [Act.put, List.setIfInBounds_toArray, List.set_cons_succ, List.set_cons_zero]
            have hA3 := hA2.step hb3
            have hA4 := hA3.store (cs ||| span low (low + 1))
            refine h_step 5 (put4 W3 C (cs ||| span low (low + 1))) rfl (by kernel_rfl) rfl (x_storeSet _ _ _ _ _ _ _ _ C _ cs rfl rfl _ hA3.box) trivial ?_
            simp only [Act.put, List.setIfInBounds_toArray, List.set_cons_succ, List.set_cons_zero]
            refine wpAnyH_done (by kernel_rfl) ?_ _
            refine NoPanic.normal ?_
            have HA4 := hide hA4
            clear hA1 hA2 hA3 hA4 hb3
            unfold PT
            go_wp2
            go_roundg k
            case measure => omega
            case rel => exact ⟨_, st4, HK4.out, HA4.out⟩
        · rw [if_neg her] at hcl
          have HE : Hid (cs = sF ∧ st1 = stF) := by injection hcl with hcl; injection hcl with e1 e2; exact ⟨e1, e2⟩
          have hne : ((st1.err : Int) == 0) = false := beq_eq_false_iff_ne.2 (by omega)
          clear hcl her e93
          have hbx := HW2.out.box
          have b0 := hbx.cell 0; have b1 := hbx.cell 1; have b2 := hbx.cell 2; have b3 := hbx.cell 3
          simp only [WS, List.getElem?_toArray, List.getElem?_cons_zero, List.getElem?_cons_succ] at b0 b1 b2 b3
          clear hbx
          cases nt with
          | true =>
            have HN := hide (not_any cs w2)
            unfold SV at HN
            go_wp2_with fail
            refine HN.out.mono ?_
            rintro e w6 ⟨rfl, hb6⟩
            have HW6 := hide (HW2.out.step hb6)
            clear hb6 HN HW2 b0 b1 b2 b3
            have hres := HW6.out.res
            have r0 := hres.cell 0; have r1 := hres.cell 1; have r2 := hres.cell 2; have r3 := hres.cell 3
            have f0 := hres.frozen 0; have f1 := hres.frozen 1; have f2 := hres.frozen 2; have f3 := hres.frozen 3
            simp only [WS, List.getElem?_toArray, List.getElem?_cons_zero, List.getElem?_cons_succ] at r0 r1 r2 r3
            obtain ⟨W7, hW7⟩ : ∃ W7, W7 = put4 w6 R (~~~cs) := ⟨_, rfl⟩
            have ew : (((w6.setCell ⟨R, 0, none⟩ (.int .u64 (wd (~~~cs) 0))).setCell ⟨R, 1, none⟩ (.int .u64 (wd (~~~cs) 1))).setCell ⟨R, 2, none⟩ (.int .u64 (wd (~~~cs) 2))).setCell ⟨R, 3, none⟩ (.int .u64 (wd (~~~cs) 3)) = W7 := hW7.symm
            have h7 : Blk W7 R (WS (~~~cs)) 44 := by rw [hW7]; exact put4_blk hres (~~~cs)
            have g0 := h7.cell 0; have g1 := h7.cell 1; have g2 := h7.cell 2; have g3 := h7.cell 3
            simp only [WS, List.getElem?_toArray, List.getElem?_cons_zero, List.getElem?_cons_succ] at g0 g1 g2 g3
            have HA7 : Hid (Aside p w W7) := by rw [hW7]; exact aside_put4 HW6.out.aside HW6.out.new.1 _
            have HR7 : Hid (RdAt W7 p s stF) := by
              have hrd := HW6.out.rd
              rw [HE.out.2] at hrd
              rw [hW7]; exact ⟨(put4_other (Ne.symm HW6.out.rp.1) _).trans hrd.blk, hrd.suf, hrd.len, hrd.big⟩
            clear hW7 h7 hres HW6
            go_wp2
            refine bodyPost_ret (v := SV (~~~cs)) (by simp [results, Tryz.results154, go_sem, SV, g0, g1, g2, g3]) rfl ⟨?_, HR7.out, HA7.out⟩
            rw [HQ.out, ← HE.out.1]; rfl
          | false =>
            have HW6 := HW2
            clear HW2
            have hres := HW6.out.res
            have r0 := hres.cell 0; have r1 := hres.cell 1; have r2 := hres.cell 2; have r3 := hres.cell 3
            have f0 := hres.frozen 0; have f1 := hres.frozen 1; have f2 := hres.frozen 2; have f3 := hres.frozen 3
            simp only [WS, List.getElem?_toArray, List.getElem?_cons_zero, List.getElem?_cons_succ] at r0 r1 r2 r3
            obtain ⟨W7, hW7⟩ : ∃ W7, W7 = put4 w2 R (cs) := ⟨_, rfl⟩
            have ew : (((w2.setCell ⟨R, 0, none⟩ (.int .u64 (wd (cs) 0))).setCell ⟨R, 1, none⟩ (.int .u64 (wd (cs) 1))).setCell ⟨R, 2, none⟩ (.int .u64 (wd (cs) 2))).setCell ⟨R, 3, none⟩ (.int .u64 (wd (cs) 3)) = W7 := hW7.symm
            have h7 : Blk W7 R (WS (cs)) 44 := by rw [hW7]; exact put4_blk hres (cs)
            have g0 := h7.cell 0; have g1 := h7.cell 1; have g2 := h7.cell 2; have g3 := h7.cell 3
            simp only [WS, List.getElem?_toArray, List.getElem?_cons_zero, List.getElem?_cons_succ] at g0 g1 g2 g3
            have HA7 : Hid (Aside p w W7) := by rw [hW7]; exact aside_put4 HW6.out.aside HW6.out.new.1 _
            have HR7 : Hid (RdAt W7 p s stF) := by
              have hrd := HW6.out.rd
              rw [HE.out.2] at hrd
              rw [hW7]; exact ⟨(put4_other (Ne.symm HW6.out.rp.1) _).trans hrd.blk, hrd.suf, hrd.len, hrd.big⟩
            clear hW7 h7 hres HW6
            go_wp2
            refine bodyPost_ret (v := SV (cs)) (by simp [results, Tryz.results154, go_sem, SV, g0, g1, g2, g3]) rfl ⟨?_, HR7.out, HA7.out⟩
            rw [HQ.out, ← HE.out.1]; rfl
end Go.Proofs.YtdbdjjjmomociaaGreatDoor
/- Shapes: Count, Few, op, low. -/
namespace Go.Proofs.YtdbdjjjmomociaaGreatDoor
set_option maxRecDepth 100000
set_option linter.unusedSimpArgs false
set_option linter.unusedVariables false
open Go.RowKit

/-- How many parts. -/
def SHP.nodes : SHP → Nat
  | .mk _ _ _ _ ks => 1 + (ks.map fun k => k.nodes).sum
theorem SHP.nodes_mk (o : Int) (l u : Nat) (t : ByteArray) (ks : List SHP) : (SHP.mk o l u t ks).nodes = 1 + (ks.map SHP.nodes).sum := by rw [SHP.nodes]
/-- Short texts alone. -/
inductive Tx : SHP → Prop where
  | mk (o : Int) (l u : Nat) (t : ByteArray) (ks : List SHP) (ht : t.size ≤ 20) (hk : ∀ k ∈ ks, Tx k) : Tx (.mk o l u t ks)
/-- A shape as a value. -/
def ShVal (cs : List Value) : Value := .agg cs.toArray

set_option maxHeartbeats 1000000 in
theorem count_any (s : SHP) : ∀ (cs : List Value) (d : Nat) (w : World), ShC w cs s → d ≤ 13 →
    Calls Tryz.prog 59 #[ShVal cs, .int .i64 d] w fun e w' => ∃ c : Nat, e = .returned (.int .i64 c) ∧ (1 ≤ c ∧ c ≤ 1000 * (14 - d)) ∧ (c ≤ 30 → Tx s ∧ c = s.nodes) ∧ Below w.heap.size w w' := by
  refine SHP.ind (P := fun s => ∀ (cs : List Value) (d : Nat) (w : World), ShC w cs s → d ≤ 13 →
    Calls Tryz.prog 59 #[ShVal cs, .int .i64 d] w fun e w' => ∃ c : Nat, e = .returned (.int .i64 c) ∧ (1 ≤ c ∧ c ≤ 1000 * (14 - d)) ∧ (c ≤ 30 → Tx s ∧ c = s.nodes) ∧ Below w.heap.size w w') ?_ s
  intro o l u t ks ih cs d w h hd
  obtain ⟨v, rfl, hrow, ho, hlo, hhi, htx⟩ := h.open
  simp only [SHP.op, SHP.lo, SHP.hi, SHP.text, SHP.kids] at hrow ho hlo hhi htx ⊢
  obtain ⟨hn, a, cap, rfl, -⟩ := hrow.at
  have HR := hide hrow
  clear h hrow
  unfold ShVal
  by_cases hd12 : 12 < d
  · have hdd : decide ((12 : Int) < d) = true := by simp; omega
    have hdd2 : decide (12 < d) = true := by simp [hd12]
    go_enter Tryz.func59, Tryz.ntmps59
    go_wp2
    go_ret
    exact ⟨1000, rfl, ⟨by omega, by omega⟩, fun h => by omega, (Below.refl _ _).alloc (Nat.le_refl _) _⟩
  · have hdd : decide ((12 : Int) < d) = false := by simp; omega
    have hdd2 : decide (12 < d) = false := by simp; omega
    by_cases ht20 : 20 < t.size
    · have htt : decide ((20 : Int) < t.size) = true := by simp; omega
      have htt2 : decide (20 < t.size) = true := by simp [ht20]
      go_enter Tryz.func59, Tryz.ntmps59
      go_wp2
      go_ret
      exact ⟨1000, rfl, ⟨by omega, by omega⟩, fun h => by omega, (Below.refl _ _).alloc (Nat.le_refl _) _⟩
    · have htt : decide ((20 : Int) < t.size) = false := by simp; omega
      have htt2 : decide (20 < t.size) = false := by simp; omega
      go_enter Tryz.func59, Tryz.ntmps59
      go_wp2
      obtain ⟨B, hB⟩ : ∃ B, B = w.heap.size := ⟨_, rfl⟩
      rw [← hB]
      have HB := hide hB
      have hW0 : Below B w (w.alloc (.cells #[.int .i64 o, .int .u8 l, .int .u8 u, .string t, .slice a ks.length cap] 61)) := (Below.refl _ _).alloc (Nat.le_of_eq hB) _
      clear hB
      go_loopw [5, 19] (fun q c wr => ∃ (k n : Nat), k ≤ ks.length ∧ c = .int .i64 k ∧ q = .int .i64 n ∧ 1 ≤ n ∧ n ≤ 1000 ∧ Hid (n ≤ 30 → (∀ x ∈ ks.take k, Tx x) ∧ n = 1 + ((ks.take k).map SHP.nodes).sum) ∧ Hid (Below B w wr)) (fun _ c _ => ks.length - (intOf c).toNat)
      case atStart => exact ⟨0, 1, by omega, rfl, rfl, by omega, by omega, (fun _ => ⟨fun x hx => by simp at hx, rfl⟩), hW0⟩
      case round =>
        clear hW0
        obtain ⟨k, n, hk, rfl, rfl, hn1, hn2, HI, HW⟩ := hrel
        obtain ⟨-, a', cap', e1, g1⟩ := (HR.out.keep (show Below w.heap.size w wr from HB.out ▸ HW.out)).at
        obtain ⟨rfl, rfl⟩ : a = a' ∧ cap = cap' := by cases e1; exact ⟨rfl, rfl⟩
        clear e1
        by_cases hlt : k < ks.length
        · have hkd : decide (k < ks.length) = true := by simp [hlt]
          obtain ⟨b, off, kv, rfl, -, ⟨c0, c1, c2, c3, c4⟩, hC⟩ := g1 k hlt
          have hrec := ih _ (List.getElem_mem hlt) _ (d + 1) _ (hC.keep ((Below.refl wr.heap.size wr).alloc (Nat.le_refl _) (.cells #[.int .i64 ks[k].op, .int .u8 ks[k].lo, .int .u8 ks[k].hi, .string ks[k].text, kv] 61))) (by omega)
          have HT := hide (show ks.take (k + 1) = ks.take k ++ [ks[k]] from List.take_succ_eq_append_getElem hlt)
          have hBW : B ≤ wr.heap.size := by rw [HB.out]; exact HW.out.size
          obtain ⟨-, kf, kcap, hkv, -⟩ : True ∧ ∃ a c, kv = .slice a (ks[k]).kids.length c ∧ True := by
            obtain ⟨v', e', hr', -⟩ := hC.open
            obtain ⟨-, a', c', e'', -⟩ := hr'.at
            have : kv = v' := by simpa using e'
            exact ⟨trivial, a', c', this.trans e'', trivial⟩
          have HREC := hide hrec
          subst hkv
          generalize hks : ks[k] = sk at *
          clear hrec hC g1
          unfold ShVal at HREC
          go_wp2_with fail
          refine HREC.out.mono ?_
          rintro e w2 ⟨c, rfl, ⟨hc1, hc2⟩, hc3, hb2⟩
          have HC3 := hide hc3
          have HW2 := hide ((HW.out.alloc hBW (.cells #[.int .i64 sk.op, .int .u8 sk.lo, .int .u8 sk.hi, .string sk.text, .slice kf sk.kids.length kcap] 61)).trans (hb2.mono (by simp; omega)))
          have hcb : c ≤ 14000 := by omega
          clear hc3 hb2 HREC c0 c1 c2 c3 c4
          by_cases hbig : 1000 < n + c
          · have hbd : decide ((1000 : Int) < (n : Int) + c) = true := by simp; omega
            go_wp2
            go_ret
            refine ⟨n + c, ?_, ⟨by omega, by omega⟩, fun h => by omega, by rw [← HB.out]; exact HW2.out⟩
            congr 2
          · have hbd : decide ((1000 : Int) < (n : Int) + c) = false := by simp; omega
            go_wp2
            refine ⟨⟨k + 1, n + c, by omega, by go_num, by go_num, by omega, by omega, ?_, HW2⟩, by simp [intOf]; omega⟩
            intro h30
            obtain ⟨i1, i2⟩ := HI.out (by omega)
            obtain ⟨j1, j2⟩ := HC3.out (by omega)
            rw [HT.out]
            refine ⟨fun x hx => ?_, ?_⟩
            · rcases List.mem_append.1 hx with hx | hx
              · exact i1 x hx
              · simp at hx; subst hx; exact j1
            · rw [List.map_append, List.sum_append, i2, j2]; simp; omega
        · obtain rfl : k = ks.length := by omega
          rw [List.take_length] at HI
          clear g1
          go_wp2
          go_ret
          refine ⟨n, rfl, ⟨hn1, by omega⟩, fun h => ?_, by rw [← HB.out]; exact HW.out⟩
          obtain ⟨i1, i2⟩ := HI.out h
          exact ⟨.mk _ _ _ _ _ (by omega) i1, by rw [SHP.nodes_mk]; exact i2⟩
end Go.Proofs.YtdbdjjjmomociaaGreatDoor
