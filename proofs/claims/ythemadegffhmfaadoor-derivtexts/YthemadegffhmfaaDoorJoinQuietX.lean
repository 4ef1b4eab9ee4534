/- Texts of this claim put together: Quiet, Range, MathBits, SetE, MathRuns, SetF, QuietX. -/
import Derived.Test.YthemadegffhmfaaDoorJoinSetD
import Derived.RangeFuncNested
import Derived.RangeFuncBound
import Derived.RangeFuncCalls
import Derived.RangeFuncLeaves
import Derived.Lib.TrailingZeros
import Derived.Laws.Bits64b
import Derived.Shelf.Abstract
import Derived.Shelf.RegionOpen
import Derived.OwnWalkIn
import Derived.TacticsInMore
import Derived.LoopNIn
import Derived.LoopIn
/- A region that draws its order, whose operations make new memory alone: one walk in the text's order serves every order. The class of worlds: C, closed under new memory. -/
namespace Go.Proofs.YthemadegffhmfaaDoor
set_option maxRecDepth 100000
open Go.RowKit

/-- A class of worlds that new memory does not leave. -/
def Grows (C : World → Prop) : Prop := ∀ W W', C W → Below W.heap.size W W' → C W'

section
variable {C : World → Prop} {ops : Array Oper} {Q : Act → Prop} {a : Act} {o : Oper} {rest : List Oper} {K : Act → Prop}

theorem q_want (hw : Region.wanted o (yielded ops a.tmps) = true) (h : ∀ K : Act → Prop, (∀ a, wpQuiet Tryd.prog ops C Q rest a → K a) → o.quiet Tryd.prog a C K) : wpQuiet Tryd.prog ops C Q (o :: rest) a :=
  BigFrame.wpQuiet_want hw h
theorem q_skip (hw : Region.wanted o (yielded ops a.tmps) = false) (h : wpQuiet Tryd.prog ops C Q rest (a.put o.dst undef)) : wpQuiet Tryd.prog ops C Q (o :: rest) a :=
  BigFrame.wpQuiet_skip hw h

theorem quiet_lit {id : Nat} {Q' : Exit → Act → World → Prop} {w : World} {l : List Oper} (hm : (Tryd.prog).follows .mixedOrders = true) (hB : Region.lexB .any l.toArray = true) (hC : C { w with drawn := w.drawn + 1 })
    (h : wpQuiet Tryd.prog l.toArray C (fun a' => ∀ w', C w' → Q' .normal a' w') l a) : (Code.region id l.toArray true).wp Tryd.prog Q' a w :=
  wp_region_quiet hm hB hC (by simpa using h)

/-- What an operation yields in every world of the class. -/
theorem q_value (v : Value) (h : ∀ w, C w → (execOp a.eval o).run Tryd.prog w = .ok (.value v) w) (hk : K (a.put o.dst v)) : o.quiet Tryd.prog a C K :=
  ⟨v, fun w hw => by unfold Oper.quietAt; rw [h w hw]; exact ⟨rfl, rfl⟩, hk⟩
theorem q_call (hG : Grows C) (f : FuncId) (vs : Array Value) (v : Value) (h : ∀ w, (execOp a.eval o).run Tryd.prog w = .ok (.enter f vs) w)
    (hc : ∀ w, C w → Calls Tryd.prog f vs w fun e w' => e = .returned v ∧ Below w.heap.size w w') (hk : K (a.put o.dst v)) : o.quiet Tryd.prog a C K :=
  ⟨v, fun w hw => by unfold Oper.quietAt; rw [h w]; exact ⟨rfl, (hc w hw).mono fun e w' ⟨he, hb⟩ => ⟨he, hG w w' hw hb⟩⟩, hk⟩
end

theorem x_loadSet (ρ : Operand → Value) (d : Option Tmp) (k : Tmp) (t : TypeId) (pos : String) (af : Array Edge) (g : Option (Nat × Bool)) (B : Nat) (s : BitVec 256) (hx : ρ (.tmp k) = .pointer (some ⟨B, 0, none⟩)) (w : World) (hB : Blk w B (WS s) 39) :
    (execOp ρ { dst := d, op := .load 39 (.tmp k), type := t, pos := pos, after := af, guard := g }).run Tryd.prog w = .ok (.value (SV s)) w := by
  have c0 := hB.cell 0; have c1 := hB.cell 1; have c2 := hB.cell 2; have c3 := hB.cell 3
  simp only [List.getElem?_toArray, List.getElem?_cons_zero, List.getElem?_cons_succ] at c0 c1 c2 c3
  simp [go_sem, hx, c0, c1, c2, c3]
theorem x_eqSet (ρ : Operand → Value) (d : Option Tmp) (x y : Operand) (t : TypeId) (pos : String) (af : Array Edge) (g : Option (Nat × Bool)) (u v : BitVec 256) (hx : ρ x = SV u) (hy : ρ y = SV v) (w : World) :
    (execOp ρ { dst := d, op := .binOp .eql 39 x y 39, type := t, pos := pos, after := af, guard := g }).run Tryd.prog w = .ok (.value (.bool (u == v))) w := by
  have h := eqSV u v
  simp [go_sem, hx, hy, h]
theorem x_call1 (ρ : Operand → Value) (d : Option Tmp) (f : FuncId) (x : Operand) (t t1 : TypeId) (pos : String) (af : Array Edge) (g : Option (Nat × Bool)) (v : Value) (hx : ρ x = v) (hfn : ρ (.func f) = .func (.func f) #[] #[]) (hf : ∀ args w, (callFunc f args).run Tryd.prog w = .ok (.enter f args) w) (w : World) :
    (execOp ρ { dst := d, op := .call { callee := .value (.func f), args := #[x], argTypes := #[t1] }, type := t, pos := pos, after := af, guard := g }).run Tryd.prog w = .ok (.enter f #[v]) w := by
  simp [go_sem, hfn, hx, hf]
theorem x_call2 (ρ : Operand → Value) (d : Option Tmp) (f : FuncId) (x y : Operand) (t t1 t2 : TypeId) (pos : String) (af : Array Edge) (g : Option (Nat × Bool)) (u v : Value) (hx : ρ x = u) (hy : ρ y = v) (hfn : ρ (.func f) = .func (.func f) #[] #[]) (hf : ∀ args w, (callFunc f args).run Tryd.prog w = .ok (.enter f args) w) (w : World) :
    (execOp ρ { dst := d, op := .call { callee := .value (.func f), args := #[x, y], argTypes := #[t1, t2] }, type := t, pos := pos, after := af, guard := g }).run Tryd.prog w = .ok (.enter f #[u, v]) w := by
  simp [go_sem, hfn, hx, hy, hf]
theorem x_call0 (ρ : Operand → Value) (d : Option Tmp) (f : FuncId) (t : TypeId) (pos : String) (af : Array Edge) (g : Option (Nat × Bool)) (hfn : ρ (.func f) = .func (.func f) #[] #[]) (hf : ∀ args w, (callFunc f args).run Tryd.prog w = .ok (.enter f args) w) (w : World) :
    (execOp ρ { dst := d, op := .call { callee := .value (.func f), args := #[], argTypes := #[] }, type := t, pos := pos, after := af, guard := g }).run Tryd.prog w = .ok (.enter f #[]) w := by
  simp [go_sem, hfn, hf]
theorem x_pick (ρ : Operand → Value) (d : Option Tmp) (c x y : Operand) (t : TypeId) (pos : String) (af : Array Edge) (g : Option (Nat × Bool)) (b : Bool) (u v : Value) (hc : ρ c = .bool b) (hx : ρ x = u) (hy : ρ y = v) (w : World) :
    (execOp ρ { dst := d, op := .pick c x y, type := t, pos := pos, after := af, guard := g }).run Tryd.prog w = .ok (.value (if b then u else v)) w := by
  cases b <;> simp [go_sem, hc, hx, hy]
theorem x_move (ρ : Operand → Value) (d : Option Tmp) (x : Operand) (t : TypeId) (pos : String) (af : Array Edge) (g : Option (Nat × Bool)) (v : Value) (hx : ρ x = v) (w : World) :
    (execOp ρ { dst := d, op := .move x, type := t, pos := pos, after := af, guard := g }).run Tryd.prog w = .ok (.value v) w := by
  simp [go_sem, hx]
theorem x_assign (ρ : Operand → Value) (d : Option Tmp) (x : Operand) (t : TypeId) (pos : String) (af : Array Edge) (g : Option (Nat × Bool)) (v : Value) (hx : ρ x = v) (w : World) :
    (execOp ρ { dst := d, op := .assign x, type := t, pos := pos, after := af, guard := g }).run Tryd.prog w = .ok (.value v) w := by
  simp [go_sem, hx]
theorem x_addInt (ρ : Operand → Value) (d : Option Tmp) (x y : Operand) (t : TypeId) (pos : String) (af : Array Edge) (g : Option (Nat × Bool)) (u v : Int) (hx : ρ x = .int .i64 u) (hy : ρ y = .int .i64 v) (h0 : -9223372036854775808 ≤ u + v) (h1 : u + v ≤ 9223372036854775807) (w : World) :
    (execOp ρ { dst := d, op := .binOp .add 3 x y 3, type := t, pos := pos, after := af, guard := g }).run Tryd.prog w = .ok (.value (.int .i64 (u + v))) w := by
  have e : IntKind.i64.wrap (u + v) = u + v := by rw [IntKind.wrap_i64]; omega
  simp [go_sem, hx, hy, e]
theorem x_eqInt (ρ : Operand → Value) (d : Option Tmp) (x y : Operand) (t : TypeId) (pos : String) (af : Array Edge) (g : Option (Nat × Bool)) (u v : Int) (hx : ρ x = .int .i64 u) (hy : ρ y = .int .i64 v) (w : World) :
    (execOp ρ { dst := d, op := .binOp .eql 3 x y 3, type := t, pos := pos, after := af, guard := g }).run Tryd.prog w = .ok (.value (.bool (u == v))) w := by
  simp [go_sem, hx, hy]
end Go.Proofs.YthemadegffhmfaaDoor
/- A range over a function, by footprints: the body owns a set M of blocks, the iterator what it lays itself; neither turns what the other owns. -/
namespace Go.Proofs.YthemadegffhmfaaDoor
set_option maxRecDepth 100000
open Go.RowKit

/-- Where K holds, W' is as W was; no block has gone. -/
structure Agree (K : Nat → Prop) (W W' : World) : Prop where
  os : W'.os = W.os
  tape : W'.tape = W.tape
  output : W'.output = W.output
  size : W.heap.size ≤ W'.heap.size
  block : ∀ k, k < W.heap.size → K k → W'.heap[k]? = W.heap[k]?
  drawn : W.drawn ≤ W'.drawn
/-- The same of the blocks alone. -/
structure AgreeW (K : Nat → Prop) (W W' : World) : Prop where
  block : ∀ k, k < W.heap.size → K k → W'.heap[k]? = W.heap[k]?
theorem Agree.w {K : Nat → Prop} {A B : World} (h : Agree K A B) : AgreeW K A B := ⟨h.block⟩

theorem Agree.refl (K : Nat → Prop) (W : World) : Agree K W W := ⟨rfl, rfl, rfl, Nat.le_refl _, fun _ _ _ => rfl, Nat.le_refl _⟩
theorem Agree.trans {K : Nat → Prop} {A B C : World} (h : Agree K A B) (k : Agree K B C) : Agree K A C :=
  ⟨k.os.trans h.os, k.tape.trans h.tape, k.output.trans h.output, Nat.le_trans h.size k.size, fun i hi hk => (k.block i (Nat.lt_of_lt_of_le hi h.size) hk).trans (h.block i hi hk), Nat.le_trans h.drawn k.drawn⟩
theorem Agree.trans' {K K' : Nat → Prop} {A B C : World} (h : Agree K A B) (k : Agree K' B C) (hk : ∀ i, i < A.heap.size → K i → K' i) : Agree K A C :=
  ⟨k.os.trans h.os, k.tape.trans h.tape, k.output.trans h.output, Nat.le_trans h.size k.size, fun i hi hi' => (k.block i (Nat.lt_of_lt_of_le hi h.size) (hk i hi hi')).trans (h.block i hi hi'), Nat.le_trans h.drawn k.drawn⟩
theorem Agree.mono {K K' : Nat → Prop} {A B : World} (h : Agree K A B) (hk : ∀ k, k < A.heap.size → K' k → K k) : Agree K' A B :=
  ⟨h.os, h.tape, h.output, h.size, fun i hi hk' => h.block i hi (hk i hi hk'), h.drawn⟩
theorem Agree.alloc (K : Nat → Prop) (W : World) (o : Obj) : Agree K W (W.alloc o) := ⟨rfl, rfl, rfl, by simp, fun k hk _ => Below.heap_alloc _ _ _ hk, Nat.le_refl _⟩
theorem Agree.drew (K : Nat → Prop) (W : World) : Agree K W W.drew := ⟨rfl, rfl, rfl, Nat.le_refl _, fun _ _ _ => rfl, Nat.le_succ _⟩
theorem Agree.setCell {K : Nat → Prop} (W : World) (a : Addr) (v : Value) (h : ¬ K a.block) : Agree K W (W.setCell a v) :=
  ⟨rfl, rfl, rfl, by simp [World.setCell], fun k _ hk => Below.heap_setCell _ _ _ _ (fun e => h (e ▸ hk)), Nat.le_refl _⟩
theorem Agree.putObj {K : Nat → Prop} (W : World) (r : Nat) (o : Obj) (h : ¬ K r) : Agree K W (W.putObj r o) :=
  ⟨rfl, rfl, rfl, by simp, fun k _ hk => World.putObj_heap_other (fun e => h (e ▸ hk)), Nat.le_refl _⟩
theorem Agree.of_all {K : Nat → Prop} {A C : World} (h : Below A.heap.size A C) : AgreeW K A C := ⟨fun k hk _ => h.block k hk⟩
theorem Agree.of_drawn {K : Nat → Prop} {A C : World} (h : Below A.heap.size A C) (hd : A.drawn ≤ C.drawn) : Agree K A C := ⟨h.os, h.tape, h.output, h.size, fun k hk _ => h.block k hk, hd⟩
theorem Agree.below {K : Nat → Prop} {A C : World} (h : Agree K A C) (B : Nat) (hB : B ≤ A.heap.size) (hk : ∀ k, k < B → K k) : Below B A C := ⟨h.os, h.tape, h.output, h.size, fun k hk' => h.block k (by omega) (hk k hk')⟩
theorem Blk.agree {K : Nat → Prop} {w w' : World} {b : Nat} {c : Array Value} {t : TypeId} (h : Blk w b c t) (hb : Agree K w w') (hK : K b) : Blk w' b c t := (hb.block b h.lt hK).trans h

/-- A world under a name, with what is known of it. -/
theorem wpIn_world {F : Fence} {n : Nat} {P : Program} {c : Code} {Q : Exit → Act → World → Prop} {a : Act} {w0 : World} (R : World → Prop) (h : R w0) (k : ∀ w, R w → c.wpIn F n P Q a w) : c.wpIn F n P Q a w0 := k w0 h
theorem wp_world {P : Program} {c : Code} {Q : Exit → Act → World → Prop} {a : Act} {w0 : World} (R : World → Prop) (h : R w0) (k : ∀ w, R w → c.wp P Q a w) : c.wp P Q a w0 := k w0 h

/-- A function that ranged over a function leaves: the block for deferred calls, which is empty, is shut. -/
theorem leave_mark {P : Program} {fn : Func} {R : Ending → World → Prop} {tmps : Array Value} {W : World} {D : Nat} {v : Value} (hK : W.heap[D]? = some (.deferred (some [])))
    (hr : (results fn tmps).run P (W.putObj D (.deferred none)) = .ok v (W.putObj D (.deferred none))) (hR : R (.returned v) (W.putObj D (.deferred none))) :
    bodyPostM Fence.wide 0 P fn R .ret { tmps := tmps, defers := [{ target := .collected D, args := #[] }] } W :=
  ⟨by simp, .inl ⟨_, _, rfl, run_takeDeferred hK, ⟨_, hr, hR⟩⟩⟩
theorem leave_mark_end {P : Program} {fn : Func} {R : Ending → World → Prop} {tmps : Array Value} {W : World} {D : Nat} {v : Value} (hK : W.heap[D]? = some (.deferred (some [])))
    (hr : (results fn tmps).run P (W.putObj D (.deferred none)) = .ok v (W.putObj D (.deferred none))) (hR : R (.returned v) (W.putObj D (.deferred none))) :
    bodyPostM Fence.wide 0 P fn R .normal { tmps := tmps, defers := [{ target := .collected D, args := #[] }] } W :=
  ⟨by simp, .inl ⟨_, _, rfl, run_takeDeferred hK, ⟨_, hr, hR⟩⟩⟩
theorem Blk.putObj {w : World} {b : Nat} {c : Array Value} {t : TypeId} (h : Blk w b c t) (r : Nat) (o : Obj) (hr : b ≠ r) : Blk (w.putObj r o) b c t := (World.putObj_heap_other hr).trans h
theorem below_put {B : Nat} {a w : World} (h : Below B a w) {r : Nat} (hr : B ≤ r) (o : Obj) : Below B a (w.putObj r o) :=
  h.trans ⟨rfl, rfl, rfl, by simp, fun k hk => World.putObj_heap_other (by omega)⟩

/-- What is known of the blocks of M alone. -/
def Stable {α : Type} (J : List α → (Nat → Prop) → World → Prop) : Prop := ∀ s M A B, J s M A → Agree M A B → J s M B

/-- From W to W', M grew to M' by new blocks alone, and nothing outside M has turned. -/
structure Foot (M M' : Nat → Prop) (W W' : World) : Prop where
  into : ∀ k, M' k → (M k ∨ W.heap.size ≤ k) ∧ k < W'.heap.size
  agree : Agree (fun k => ¬ M k) W W'

theorem Foot.refl (M : Nat → Prop) (W : World) (h : ∀ k, M k → k < W.heap.size) : Foot M M W W := ⟨fun k hk => ⟨.inl hk, h k hk⟩, Agree.refl _ _⟩

theorem Foot.same {M : Nat → Prop} {W W' : World} (h : ∀ k, M k → k < W.heap.size) (ha : Agree (fun k => ¬ M k) W W') : Foot M M W W' := ⟨fun k hk => ⟨.inl hk, Nat.lt_of_lt_of_le (h k hk) ha.size⟩, ha⟩
theorem Foot.trans {M M' M'' : Nat → Prop} {A B C : World} (h : Foot M M' A B) (k : Foot M' M'' B C) : Foot M M'' A C := by
  have hs := h.agree.size
  refine ⟨fun i hi => ?_, h.agree.trans' k.agree fun i hi hn hm => ?_⟩
  · obtain ⟨h1, h2⟩ := k.into i hi
    refine ⟨?_, h2⟩
    rcases h1 with h1 | h1
    · exact (h.into i h1).1
    · exact .inr (by omega)
  · rcases (h.into i hm).1 with h1 | h1
    · exact hn h1
    · omega
theorem Foot.lt {M M' : Nat → Prop} {W W' : World} (h : Foot M M' W W') : ∀ k, M' k → k < W'.heap.size := fun k hk => (h.into k hk).2
/-- A block that lay outside M lies outside M' too. -/
theorem Foot.out {M M' : Nat → Prop} {W W' : World} (h : Foot M M' W W') {k : Nat} (hk : k < W.heap.size) (hn : ¬ M k) : ¬ M' k := fun hm => by
  rcases (h.into k hm).1 with h1 | h1
  · exact hn h1
  · omega

theorem Foot.put {M M' : Nat → Prop} {W W' : World} (h : Foot M M' W W') {D : Nat} (hD : W.heap.size ≤ D) (o : Obj) : Foot M M' W (W'.putObj D o) :=
  ⟨fun k hk => by rw [World.putObj_size]; exact h.into k hk, h.agree.os, h.agree.tape, h.agree.output, by rw [World.putObj_size]; exact h.agree.size,
    fun k hk hn => (World.putObj_heap_other (by omega)).trans (h.agree.block k hk hn), h.agree.drawn⟩

/-- The contract of an iterator: it hands xs to its yield, one by one, till it is told to end. own: blocks that the body must leave alone. -/
def Iter {α : Type} (P : Program) (g : Nat) (lb : Array Value) (encs : α → Array Value) (xs : List α) (own : Nat → Prop) (W : World) : Prop :=
  ∀ (l : Nat) (J Jx : List α → (Nat → Prop) → World → Prop) (M : Nat → Prop), Stable J → Stable Jx →
    (∀ pre x M1 W1, pre ++ [x] <+: xs → J pre M1 W1 → (∀ k, M1 k → k < W1.heap.size) → YieldAt Fence.wide 0 P l (encs x) W1 fun e W' =>
      ∃ M', Foot M1 M' W1 W' ∧ ((e = .returned (.bool true) ∧ J (pre ++ [x]) M' W') ∨ (e = .returned (.bool false) ∧ Jx (pre ++ [x]) M' W'))) →
    (∀ k, M k → k < W.heap.size) → (∀ k, own k → ¬ M k) → J [] M W →
    CallsIn Fence.wide 0 P g (#[.func (.yield l) #[] #[]] ++ lb) W fun e W' => (∃ v, e = .returned v) ∧
      ∃ M', Foot M M' W W' ∧ (J xs M' W' ∨ ∃ pre, pre <+: xs ∧ Jx pre M' W')

/-- How the body of a round may be left. -/
def postM {α : Type} (I : List α → (Nat → Prop) → World → Prop) (Ix : Code → List α → (Nat → Prop) → World → Prop) (xs : List α) (M : Nat → Prop) (W : World) : Exit → Act → World → Prop
  | .normal, _, W' => ∃ M', Foot M M' W W' ∧ I xs M' W'
  | .ret, _, W' => ∃ M', Foot M M' W W' ∧ Ix .ret xs M' W'
  | .exit id, _, W' => ∃ M', Foot M M' W W' ∧ Ix (.exit id) xs M' W'
  | .goto t, _, W' => ∃ M', Foot M M' W W' ∧ Ix (.goto t) xs M' W'
  | .panic _, _, _ => False
  | .outgrown, _, _ => False

theorem wpIn_rangeM {P : Program} {α : Type} {g : Operand} {ps : Array Tmp} {assign body : Code} {Q : Exit → Act → World → Prop} {a : Act} {w : World}
    {gf : Nat} {lb : Array Value} (hg : a.eval g = .func (.func gf) #[] lb) (eg : ∀ args w, (callFunc gf args).run P w = .ok (.enter gf args) w)
    {encs : α → Array Value} {xs : List α} {own : Nat → Prop} (hiter : ∀ W1, Below w.heap.size w W1 → Iter P gf lb encs xs own W1) (hps : ∀ x, (encs x).size = ps.size)
    (I : List α → (Nat → Prop) → World → Prop) (Ix : Code → List α → (Nat → Prop) → World → Prop) (hI : Stable I) (hIx : ∀ c, Stable (Ix c))
    (M : Nat → Prop) (hM : ∀ k, M k → k < w.heap.size) (hown : ∀ k, own k → ¬ M k ∧ k < w.heap.size) (h0 : I [] M w) (a₁ : α → Act)
    (hassign : ∀ (l : Nat) (x : α) (W : World) (K : Act → World → Prop), K (a₁ x) W →
      assign.wpIn (Fence.wide.inRound l) 0 P (Exit.then K (fun _ _ _ => False)) { tmps := (ps.zip (encs x)).foldl (fun t (p, v) => t.setIfInBounds p v) a.tmps, defers := [] } W)
    (hbody : ∀ (l : Nat) (pre : List α) (x : α) (M : Nat → Prop) (W : World), pre ++ [x] <+: xs → I pre M W → (∀ k, M k → k < W.heap.size) → body.wpIn (Fence.wide.inRound l) 0 P (postM I Ix (pre ++ [x]) M W) (a₁ x) W)
    (hdone : ∀ (D : Nat) (M' : Nat → Prop) (W : World), I xs M' W → Foot M M' w W → w.heap.size ≤ D → W.heap[D]? = some (.deferred (some [])) → ¬ M' D →
      Q .normal { a with defers := { target := .collected D, args := #[] } :: a.defers } W)
    (hstop : ∀ (D : Nat) (c : Code) (pre : List α) (M' : Nat → Prop) (W : World), pre <+: xs → Ix c pre M' W → Foot M M' w W → w.heap.size ≤ D → W.heap[D]? = some (.deferred (some [])) → ¬ M' D →
      c.wpIn Fence.wide 0 P Q { a with defers := { target := .collected D, args := #[] } :: a.defers } W) :
    (Code.rangeFunc g ps assign body).wpIn Fence.wide 0 P Q a w := by
  refine wpIn_rangeFunc ?_
  intro fn hfn
  obtain ⟨rec, hrec⟩ : ∃ rec : LoopState → Option Code → Loop, rec = fun st pe => { state := st, pending := pe, fn, tmps := a.tmps, params := ps, assign, body, defers := w.heap.size } := ⟨_, rfl⟩
  obtain ⟨W1, hW1⟩ : ∃ W1, (w.alloc (.deferred (some []))).alloc (.loop (rec .ready none)) = W1 := ⟨_, rfl⟩
  have hL1 : W1.heap[w.heap.size + 1]? = some (.loop (rec .ready none)) := by
    rw [← hW1]; have := World.alloc_heap_new (w.alloc (.deferred (some []))) (.loop (rec .ready none)); rwa [World.size_alloc] at this
  have hK1 : W1.heap[w.heap.size]? = some (.deferred (some [])) := by
    rw [← hW1]; exact (Below.heap_alloc _ _ _ (by simp)).trans (World.alloc_heap_new w _)
  have hb1 : Below w.heap.size w W1 := by
    rw [← hW1]; exact ((Below.refl _ w).alloc (Nat.le_refl _) _).alloc (by simp) _
  have hd1 : w.drawn ≤ W1.drawn := by rw [← hW1]; exact Nat.le_refl _
  have hz1 : W1.heap.size = w.heap.size + 2 := by rw [← hW1]; simp
  have hI1 : I [] M W1 := hI _ _ _ _ h0 (Agree.of_drawn hb1 hd1)
  refine ⟨w.heap.size + 1, [{ target := .collected w.heap.size, args := #[] }], W1, { target := .fn (.func gf) lb, args := #[.func (.yield (w.heap.size + 1)) #[] #[]] }, W1, gf,
    #[.func (.yield (w.heap.size + 1)) #[] #[]] ++ lb, W1, ?_, ?_, ?_, ?_, fun h => by simp [Fence.wide] at h, ?_⟩
  · rw [← hW1, hrec]; exact run_enterLoop_outer _ _ _ _ _
  · simp only [resolve, hg]
    simp [go_sem]
  · intro f' _; trivial
  · simp [invoke, go_sem, eg]
  · obtain ⟨l, hl⟩ : ∃ l, l = w.heap.size + 1 := ⟨_, rfl⟩
    obtain ⟨D, hD⟩ : ∃ D, D = w.heap.size := ⟨_, rfl⟩
    rw [← hl] at hL1 ⊢
    rw [← hD] at hK1 ⊢
    have hlD : l ≠ D := by omega
    refine (hiter W1 hb1 l
      (fun pre Mo W => ∃ M', (∀ k, Mo k ↔ M' k ∨ k = l ∨ k = D) ∧ ¬ M' l ∧ ¬ M' D ∧ (∀ k, M' k → k < W.heap.size) ∧ I pre M' W ∧ W.heap[l]? = some (.loop (rec .ready none)) ∧ W.heap[D]? = some (.deferred (some [])))
      (fun pre Mo W => ∃ M', (∀ k, Mo k ↔ M' k ∨ k = l ∨ k = D) ∧ ¬ M' l ∧ ¬ M' D ∧ ∃ c, Ix c pre M' W ∧ W.heap[l]? = some (.loop (rec .done (some c))) ∧ W.heap[D]? = some (.deferred (some [])))
      (fun k => M k ∨ k = l ∨ k = D) ?_ ?_ ?_ ?_ ?_ ?_).mono ?_
    · rintro s Mo A B ⟨M', e, n1, n2, hlt, hi, h1, h2⟩ hag
      have q1 : l < A.heap.size := (Array.getElem?_eq_some_iff.1 h1).1
      have q2 : D < A.heap.size := (Array.getElem?_eq_some_iff.1 h2).1
      exact ⟨M', e, n1, n2, fun k hk => Nat.lt_of_lt_of_le (hlt k hk) hag.size, hI _ _ _ _ hi (hag.mono fun k _ hk => (e k).2 (.inl hk)), (hag.block l q1 ((e l).2 (.inr (.inl rfl)))).trans h1, (hag.block D q2 ((e D).2 (.inr (.inr rfl)))).trans h2⟩
    · rintro s Mo A B ⟨M', e, n1, n2, c, hi, h1, h2⟩ hag
      have q1 : l < A.heap.size := (Array.getElem?_eq_some_iff.1 h1).1
      have q2 : D < A.heap.size := (Array.getElem?_eq_some_iff.1 h2).1
      exact ⟨M', e, n1, n2, c, hIx _ _ _ _ _ hi (hag.mono fun k _ hk => (e k).2 (.inl hk)), (hag.block l q1 ((e l).2 (.inr (.inl rfl)))).trans h1, (hag.block D q2 ((e D).2 (.inr (.inr rfl)))).trans h2⟩
    · -- one round
      rintro pre x Mo W hpre ⟨M', e, n1, n2, hlt, hi, h1, h2⟩ hMo
      have q1 : l < W.heap.size := (Array.getElem?_eq_some_iff.1 h1).1
      have q2 : D < W.heap.size := (Array.getElem?_eq_some_iff.1 h2).1
      have hy := run_yield (P := P) (args := encs x) h1 (by rw [hrec]; exact hps x)
      rw [hrec] at hy
      refine ⟨fn, _, assign, body, hy, roundIn_of_wpIn hfn (hassign _ x W _ ⟨_, run_beginRound h1 (by rw [hrec]), ?_⟩)⟩
      obtain ⟨W2, hW2⟩ : ∃ W2, W.putObj l (.loop { rec .ready none with state := .busy }) = W2 := ⟨_, rfl⟩
      rw [hW2]
      have a2 : Agree M' W W2 := by rw [← hW2]; exact Agree.putObj _ _ _ n1
      have b2 : Agree (fun k => ¬ Mo k) W W2 := by rw [← hW2]; exact Agree.putObj _ _ _ (fun h => h ((e l).2 (.inr (.inl rfl))))
      have z2 : W2.heap.size = W.heap.size := by rw [← hW2]; simp
      have h12 : W2.heap[l]? = some (.loop { rec .ready none with state := .busy }) := by rw [← hW2]; exact World.putObj_heap_same q1
      have h22 : W2.heap[D]? = some (.deferred (some [])) := by rw [← hW2]; exact (World.putObj_heap_other (Ne.symm hlD)).trans h2
      refine wpIn_mono (hbody _ pre x M' W2 hpre (hI _ _ _ _ hi a2) (fun k hk => by rw [z2]; exact hlt k hk)) ?_
      have fin : ∀ (jump : Option Code) (M'' : Nat → Prop) (W3 : World), Foot M' M'' W2 W3 →
          ∃ W4, (Instr.endRound l jump).run P W3 = .ok (.bool jump.isNone) W4 ∧ Agree M'' W3 W4 ∧ W4.heap[l]? = some (.loop (rec (if jump.isNone then .ready else .done) jump)) ∧ W4.heap[D]? = some (.deferred (some [])) ∧
            ¬ M'' l ∧ ¬ M'' D ∧ (∀ k, M'' k → k < W4.heap.size) ∧ Foot Mo (fun k => M'' k ∨ k = l ∨ k = D) W W4 := fun jump M'' W3 hf => by
        have m1 : ¬ M'' l := fun h => by rcases (hf.into l h).1 with h | h; exact n1 h; omega
        have m2 : ¬ M'' D := fun h => by rcases (hf.into D h).1 with h | h; exact n2 h; omega
        have h13 : W3.heap[l]? = some (.loop { rec .ready none with state := .busy }) := (hf.agree.block l (by omega) n1).trans h12
        have h23 : W3.heap[D]? = some (.deferred (some [])) := (hf.agree.block D (by omega) n2).trans h22
        have q3 : l < W3.heap.size := (Array.getElem?_eq_some_iff.1 h13).1
        have q4 : D < W3.heap.size := (Array.getElem?_eq_some_iff.1 h23).1
        have hr := run_endRound (P := P) jump h13
        rw [hrec] at hr
        refine ⟨_, hr, Agree.putObj _ _ _ m1, ?_, (World.putObj_heap_other (Ne.symm hlD)).trans h23, m1, m2, fun k hk => by simp; exact (hf.into k hk).2, ?_, ?_⟩
        · rw [World.putObj_heap_same q3, hrec]
        · intro k hk
          simp only [World.putObj_size]
          rcases hk with hk | rfl | rfl
          · obtain ⟨hk1, hk2⟩ := hf.into k hk
            exact ⟨hk1.elim (fun h => .inl ((e k).2 (.inl h))) (fun h => .inr (by omega)), hk2⟩
          · exact ⟨.inl ((e _).2 (.inr (.inl rfl))), q3⟩
          · exact ⟨.inl ((e _).2 (.inr (.inr rfl))), q4⟩
        · exact (b2.trans (hf.agree.mono fun k _ hk h => hk ((e k).2 (.inl h)))).trans (Agree.putObj _ _ _ (fun h => h ((e l).2 (.inr (.inl rfl)))))
      rintro ex a3 W3 hp
      cases ex with
      | normal =>
        obtain ⟨M'', hf, hi3⟩ := hp
        obtain ⟨W4, hr, hag, hl4, hD4, m1, m2, hlt4, hF⟩ := fin none M'' W3 hf
        exact ⟨_, _, hr, _, hF, .inl ⟨rfl, M'', fun k => Iff.rfl, m1, m2, hlt4, hI _ _ _ _ hi3 hag, hl4, hD4⟩⟩
      | ret =>
        obtain ⟨M'', hf, hi3⟩ := hp
        obtain ⟨W4, hr, hag, hl4, hD4, m1, m2, hlt4, hF⟩ := fin (some .ret) M'' W3 hf
        exact ⟨_, _, hr, _, hF, .inr ⟨rfl, M'', fun k => Iff.rfl, m1, m2, _, hIx _ _ _ _ _ hi3 hag, hl4, hD4⟩⟩
      | exit id =>
        obtain ⟨M'', hf, hi3⟩ := hp
        obtain ⟨W4, hr, hag, hl4, hD4, m1, m2, hlt4, hF⟩ := fin (some (.exit id)) M'' W3 hf
        exact ⟨_, _, hr, _, hF, .inr ⟨rfl, M'', fun k => Iff.rfl, m1, m2, _, hIx _ _ _ _ _ hi3 hag, hl4, hD4⟩⟩
      | goto t =>
        obtain ⟨M'', hf, hi3⟩ := hp
        obtain ⟨W4, hr, hag, hl4, hD4, m1, m2, hlt4, hF⟩ := fin (some (.goto t)) M'' W3 hf
        exact ⟨_, _, hr, _, hF, .inr ⟨rfl, M'', fun k => Iff.rfl, m1, m2, _, hIx _ _ _ _ _ hi3 hag, hl4, hD4⟩⟩
      | panic ch => exact hp.elim
      | outgrown => exact hp.elim
    · rintro k (hk | rfl | rfl)
      · have := hM k hk; omega
      · omega
      · omega
    · intro k hk h
      obtain ⟨o1, o2⟩ := hown k hk
      rcases h with h | h | h
      · exact o1 h
      · omega
      · omega
    · exact ⟨M, fun k => Iff.rfl, fun h => by have := hM _ h; omega, fun h => by have := hM _ h; omega, fun k hk => by have := hM _ hk; omega, hI1, hL1, hK1⟩
    · -- behind the iterator
      rintro e W2 ⟨⟨v, rfl⟩, Mo, hF, hcase⟩
      have out : ∀ (M' : Nat → Prop) (st : LoopState) (pe : Option Code), (∀ k, Mo k ↔ M' k ∨ k = l ∨ k = D) → ¬ M' l → ¬ M' D → W2.heap[l]? = some (.loop (rec st pe)) → st ≠ .busy → W2.heap[D]? = some (.deferred (some [])) →
          ∃ W3, (Instr.endLoop l).run P W2 = .ok pe W3 ∧ Agree M' W2 W3 ∧ Foot M M' w W3 ∧ W3.heap[D]? = some (.deferred (some [])) := fun M' st pe he n1 n2 hl2 hb hD2 => by
        have hr := run_endLoop (P := P) hl2 (by rw [hrec]; exact hb)
        have hp : (rec st pe).pending = pe := by rw [hrec]
        rw [hp] at hr
        refine ⟨_, hr, Agree.putObj _ _ _ n1, ⟨fun k hk => ?_, ?_⟩, (World.putObj_heap_other (Ne.symm hlD)).trans hD2⟩
        · obtain ⟨k1, k2⟩ := hF.into k ((he k).2 (.inl hk))
          refine ⟨?_, by simpa using k2⟩
          rcases k1 with (k1 | k1 | k1) | k1
          · exact .inl k1
          · exact .inr (by omega)
          · exact .inr (by omega)
          · exact .inr (by omega)
        · have c1 : Agree (fun k => ¬ M k) w W1 := Agree.of_drawn hb1 hd1
          have c2 : Agree (fun k => k < w.heap.size ∧ ¬ M k) W1 W2 := hF.agree.mono fun k _ hk h => by
            rcases h with h | h | h
            · exact hk.2 h
            · omega
            · omega
          have c3 : ∀ o, Agree (fun k => k < w.heap.size ∧ ¬ M k) W2 (W2.putObj l o) := fun o => Agree.putObj _ _ _ (fun h => by omega)
          exact (((c1.mono (K' := fun k => k < w.heap.size ∧ ¬ M k) fun k _ hk => hk.2).trans c2).trans (c3 _)).mono fun k hk hn => ⟨hk, hn⟩
      rcases hcase with ⟨M', he, n1, n2, hlt, hi, hl2, hD2⟩ | ⟨pre, hpre, M', he, n1, n2, c, hi, hl2, hD2⟩
      · obtain ⟨W3, hr, hag, hf, hD3⟩ := out M' .ready none he n1 n2 hl2 (by simp) hD2
        exact ⟨none, W3, hr, hdone D M' W3 (hI _ _ _ _ hi hag) hf (by omega) hD3 n2⟩
      · obtain ⟨W3, hr, hag, hf, hD3⟩ := out M' .done (some c) he n1 n2 hl2 (by simp) hD2
        exact ⟨some c, W3, hr, hstop D c pre M' W3 hpre (hIx _ _ _ _ _ hi hag) hf (by omega) hD3 n2⟩

end Go.Proofs.YthemadegffhmfaaDoor
/- The bits of a word, the lowest first; the bytes of a set, in order. -/
namespace Go.Proofs.YthemadegffhmfaaDoor
set_option maxRecDepth 100000

/-- The lowest bit cut off. -/
theorem cut_low (f x : Nat) (h0 : 0 < x) (h : x < 2 ^ f) (j : Nat) : (x &&& (x - 1)).testBit j = (x.testBit j && !decide (j = Lib.ctzFrom f x)) := by
  obtain ⟨m, hm, _⟩ := Lib.ctzFrom_spec f x h0 h
  generalize Lib.ctzFrom f x = k at *
  have hp : 0 < 2 ^ k := Nat.two_pow_pos k
  have e1 : x = 2 ^ k * (2 * m + 1) + 0 := by omega
  have e2 : x - 1 = 2 ^ k * (2 * m) + (2 ^ k - 1) := by
    rw [hm, Nat.mul_add, Nat.mul_one]; omega
  rw [Nat.testBit_and, e2, Nat.testBit_two_pow_mul_add _ (by omega)]
  conv => lhs; rw [e1, Nat.testBit_two_pow_mul_add _ hp]
  conv => rhs; rw [e1, Nat.testBit_two_pow_mul_add _ hp]
  by_cases hj : j < k
  · simp [hj]
  · simp only [hj, if_false]
    by_cases he : j = k
    · subst he; simp
    · obtain ⟨i, rfl⟩ : ∃ i, j = k + (i + 1) := ⟨j - k - 1, by omega⟩
      have e3 : k + (i + 1) - k = i + 1 := by omega
      rw [e3, Nat.testBit_succ, Nat.testBit_succ, show (2 * m + 1) / 2 = m from by omega, show 2 * m / 2 = m from by omega]
      have hne : (k + (i + 1) = k) = False := by simp
      simp only [hne, decide_false]
      cases m.testBit i <;> rfl
theorem low_bit (f x : Nat) (h0 : 0 < x) (h : x < 2 ^ f) : x.testBit (Lib.ctzFrom f x) = true ∧ ∀ j, j < Lib.ctzFrom f x → x.testBit j = false := by
  obtain ⟨m, hm, _⟩ := Lib.ctzFrom_spec f x h0 h
  generalize Lib.ctzFrom f x = k at *
  have hp : 0 < 2 ^ k := Nat.two_pow_pos k
  have e1 : x = 2 ^ k * (2 * m + 1) + 0 := by omega
  constructor
  · rw [e1, Nat.testBit_two_pow_mul_add _ hp]; simp
  · intro j hj; rw [e1, Nat.testBit_two_pow_mul_add _ hp]; simp [hj]

/-- The places of the bits of x that are 1, of the first 64. -/
def bitsL (x : Nat) : List Nat := (List.range 64).filter fun j => x.testBit j
theorem range_split (n c : Nat) (h : c < n) : List.range n = List.range c ++ c :: List.range' (c + 1) (n - c - 1) := by
  rw [List.range_eq_range', List.range_eq_range', show c :: List.range' (c + 1) (n - c - 1) = List.range' c (n - c) from by
    rw [show n - c = (n - c - 1) + 1 from by omega, List.range'_succ]; simp]
  have := List.range'_append (s := 0) (m := c) (n := n - c) (step := 1)
  rw [Nat.one_mul, Nat.zero_add, show c + (n - c) = n from by omega] at this
  exact this.symm
theorem bitsL_zero : bitsL 0 = [] := by simp [bitsL]
theorem bitsL_step (x : Nat) (h0 : 0 < x) (h : x < 2 ^ 64) : bitsL x = Lib.ctzFrom 64 x :: bitsL (x &&& (x - 1)) := by
  obtain ⟨h1, h2⟩ := low_bit 64 x h0 h
  have h3 := cut_low 64 x h0 h
  obtain ⟨_, _, hk⟩ := Lib.ctzFrom_spec 64 x h0 h
  generalize Lib.ctzFrom 64 x = c at *
  unfold bitsL
  simp only [h3]
  rw [range_split 64 c hk, List.filter_append, List.filter_append, List.filter_cons, List.filter_cons]
  have e1 : (List.range c).filter (fun j => x.testBit j) = [] := by
    rw [List.filter_eq_nil_iff]; intro j hj; rw [h2 j (by simpa using hj)]; simp
  have e2 : (List.range c).filter (fun j => x.testBit j && !decide (j = c)) = [] := by
    rw [List.filter_eq_nil_iff]; intro j hj; rw [h2 j (by simpa using hj)]; simp
  rw [e1, e2]
  simp only [h1, decide_true, Bool.not_true, Bool.and_false, if_true, List.nil_append]
  congr 1
  apply List.filter_congr
  intro j hj
  have : ¬ j = c := by have := List.mem_range'_1.1 hj; omega
  simp [this]
theorem and_pred_lt (x : Nat) (h0 : 0 < x) : x &&& (x - 1) < x := Nat.lt_of_le_of_lt Nat.and_le_right (by omega)

/-- The bytes of word i of a set. -/
def wb (s : BitVec 256) (i : Nat) : List Nat := (bitsL (wd s i)).map (64 * i + ·)
/-- The bytes of the first k words. -/
def upto (s : BitVec 256) : Nat → List Nat
  | 0 => []
  | k + 1 => upto s k ++ wb s k
/-- The bytes of a set, in order. -/
def bytesOf (s : BitVec 256) : List Nat := upto s 4
theorem upto_prefix (s : BitVec 256) (k : Nat) (hk : k ≤ 4) : upto s k <+: bytesOf s := by
  have h1 : ∀ j, upto s j <+: upto s (j + 1) := fun j => ⟨_, rfl⟩
  match k, hk with
  | 0, _ => exact ((h1 0).trans (h1 1)).trans ((h1 2).trans (h1 3))
  | 1, _ => exact (h1 1).trans ((h1 2).trans (h1 3))
  | 2, _ => exact (h1 2).trans (h1 3)
  | 3, _ => exact h1 3
  | 4, _ => exact List.prefix_rfl

theorem upto_filter (s : BitVec 256) (k : Nat) : upto s k = (List.range (64 * k)).filter (fun b => s.getLsbD b) := by
  induction k with
  | zero => rfl
  | succ k ih =>
    rw [upto, ih, show 64 * (k + 1) = 64 * k + 64 from by omega, List.range_add, List.filter_append]
    congr 1
    unfold wb bitsL
    rw [List.filter_map]
    congr 1
    apply List.filter_congr
    intro j hj
    rw [wd_testBit]
    have : j < 64 := by simpa using hj
    simp [this, Function.comp]
theorem bytesOf_filter (s : BitVec 256) : bytesOf s = (List.range 256).filter (fun b => s.getLsbD b) := upto_filter s 4

end Go.Proofs.YthemadegffhmfaaDoor
/- Contracts: math/bits.TrailingZeros64; the iterator that Bytes hands out. -/
namespace Go.Proofs.YthemadegffhmfaaDoor
set_option maxRecDepth 100000
open Go.RowKit Go.Shelf

attribute [local go_sem] Oper.semAt_some

/-- The table of math/bits lies in its variable. -/
def TabAt (w : World) : Prop := ∀ j, j < 64 → w.cell? ⟨1, j, none⟩ = some (.int .u8 (Lib.deBruijn64tab.getD j 0))

set_option maxHeartbeats 1000000 in
theorem tz64_core (x k idx : Nat) (w : World) (hx0 : ((x : Int) == 0) = false)
    (key : IntKind.u64.wrap (bits BinOp.and IntKind.u64 (x : Int) (IntKind.u64.wrap (-(x : Int))) * 285870213051353865) / 288230376151711744 = (idx : Int))
    (hi : idx < 64) (hk : k < 64) (hcell : w.cell? ⟨1, idx, none⟩ = some (.int .u8 k)) :
    Calls Tryd.prog 99 #[.int .u64 x] w fun e w' => e = .returned (.int .i64 k) ∧ w' = w := by
  go_enter Tryd.func99, Tryd.ntmps99
  go_wp2_with (simp only [key])
  go_ret
  exact ⟨rfl, rfl⟩

theorem tz64_key (x a : Nat) (hx : x < 18446744073709551616) (hx0 : x ≠ 0) (hlow : x &&& (18446744073709551616 - x) = a) :
    IntKind.u64.wrap (bits BinOp.and IntKind.u64 (x : Int) (IntKind.u64.wrap (-(x : Int))) * 285870213051353865) / 288230376151711744 = ((a * 285870213051353865 % 18446744073709551616 / 288230376151711744 : Nat) : Int) := by
  have e1 : IntKind.u64.wrap (-(x : Int)) = ((18446744073709551616 - x : Nat) : Int) := by rw [IntKind.wrap_u64]; omega
  rw [e1, bits_and_u64_nat x _ hx (by omega), hlow, IntKind.wrap_u64]
  omega

theorem tz_any (x : Nat) (h0 : 0 < x) (hx : x < 18446744073709551616) (w : World) (hT : TabAt w) :
    Calls Tryd.prog 99 #[.int .u64 x] w fun e w' => e = .returned (.int .i64 (Lib.ctzFrom 64 x)) ∧ w' = w := by
  obtain ⟨hlow, hk⟩ := Lib.lowest_bit 64 x (by omega) hx
  have e : Lib.ctz 64 x = Lib.ctzFrom 64 x := by unfold Lib.ctz; rw [if_neg (by omega)]
  rw [e] at hk hlow
  rw [show 2 ^ 64 = 18446744073709551616 from rfl] at hlow
  generalize Lib.ctzFrom 64 x = c at *
  obtain ⟨hi, htab⟩ := Lib.deBruijn64_at c hk
  have hcell := hT _ hi
  rw [htab] at hcell
  exact tz64_core x c _ w (by simp; omega) (tz64_key x _ hx (by omega) hlow) hi hk hcell

theorem idxS (s : BitVec 256) (k : Nat) (hk : k < 4) (w : World) : (Instr.index 39 (SV s) (.int .i64 k)).run Tryd.prog w = .ok (.int .u64 (wd s k)) w := by
  have h := idx4 (wd s 0) (wd s 1) (wd s 2) (wd s 3) k hk w
  match k, hk with
  | 0, _ => exact h
  | 1, _ => exact h
  | 2, _ => exact h
  | 3, _ => exact h

theorem u8_nat (n : Nat) (h : n < 256) : IntKind.u8.wrap (n : Int) = (n : Int) := by
  simp [IntKind.wrap, IntKind.signed, IntKind.bits]; omega
theorem pred_and (y : Nat) (h0 : 0 < y) (hy : y < 18446744073709551616) : bits BinOp.and IntKind.u64 (y : Int) ((y : Int) - 1) = ((y &&& (y - 1) : Nat) : Int) := by
  have e : (y : Int) - 1 = ((y - 1 : Nat) : Int) := by omega
  rw [e, bits_and_u64_nat _ _ hy (by omega)]

theorem TabAt.agree {K : Nat → Prop} {w w' : World} (h : TabAt w) (ha : AgreeW K w w') (hk : K 1) : TabAt w' := fun j hj => by
  have hc := h j hj
  rw [← hc]
  exact World.cell?_of_block (w := w) (ha.block _ (World.block_lt_of_cell? _ _ hc) hk)

set_option maxRecDepth 100000 in
set_option maxHeartbeats 1000000 in
theorem bytes1_any (s : BitVec 256) (Bx : Nat) (W : World) (hB : Blk W Bx (WS s) 39) (hT : TabAt W) :
    Iter Tryd.prog 98 #[.pointer (some ⟨Bx, 0, none⟩)] (fun x : Nat => #[.int .u8 x]) (bytesOf s) (fun k => k = Bx ∨ k = 1) W := by
  intro l J Jx M hJ hJx hY hM hown h0
  have c0 := hB.cell 0; have c1 := hB.cell 1; have c2 := hB.cell 2; have c3 := hB.cell 3
  simp only [List.getElem?_toArray, List.getElem?_cons_zero, List.getElem?_cons_succ] at c0 c1 c2 c3
  have hG : ¬ M 1 := hown _ (.inr rfl)
  have HG : Hid (¬ M 1) := hG
  have HT : Hid (TabAt W) := hT
  have HY := hY
  clear hG hT hown hY
  refine callsIn_of_wp Tryd.func98 rfl trivial ?_ rfl
  simp only [Tryd.ntmps98, List.size_toArray, List.length_cons, List.length_nil, Nat.reduceAdd, Nat.reduceSub, Array.replicate_succ, Array.replicate_zero, List.push_toArray, List.append_toArray, List.nil_append, List.cons_append]
  gi_wp2
  clear c0 c1 c2 c3
  gi_loopw [6] (fun i wr => ∃ k : Nat, k ≤ 4 ∧ i = .int .i64 k ∧ ∃ M', Foot M M' W wr ∧ J (upto s k) M' wr) (fun i _ => 4 - (intOf i).toNat)
  case atStart => exact ⟨0, by omega, rfl, M, Foot.refl M W hM, h0⟩
  case round =>
    obtain ⟨k, hk, rfl, M1, hF1, hJ1⟩ := hrel
    by_cases hk4 : k < 4
    · have hix := idxS s k hk4
      have hd : decide ((k : Int) < 4) = true := by simp; omega
      gi_wp2
      gi_loopw [4] (fun v wr => ∃ (y : Nat) (dn : List Nat), v = .int .u64 y ∧ y < 18446744073709551616 ∧ dn ++ (bitsL y).map (64 * k + ·) = wb s k ∧ ∃ M', Foot M M' W wr ∧ J (upto s k ++ dn) M' wr) (fun v _ => (intOf v).toNat)
      case atStart => exact ⟨wd s k, [], rfl, wd_lt s k, rfl, M1, hF1, by rw [List.append_nil]; exact hJ1⟩
      case round =>
        obtain ⟨y, dn, rfl, hy, hdn, M2, hF2, hJ2⟩ := hrel
        by_cases hy0 : 0 < y
        · have hT2 : TabAt wr := HT.out.agree hF2.agree.w HG.out
          gi_wp2_with fail
          refine ⟨trivial, rfl, ?_⟩
          refine (callsIn_wide.2 (tz_any y hy0 hy _ hT2)).mono ?_
          rintro e w1 ⟨rfl, rfl⟩
          have hc : Lib.ctzFrom 64 y < 64 := by obtain ⟨_, _, h⟩ := Lib.ctzFrom_spec 64 y hy0 hy; exact h
          have hst := bitsL_step y hy0 hy
          have hlt := and_pred_lt y hy0
          have hpa := pred_and y hy0 hy
          generalize Lib.ctzFrom 64 y = c at *
          have hdn' : (dn ++ [64 * k + c]) ++ (bitsL (y &&& (y - 1))).map (64 * k + ·) = wb s k := by rw [← hdn, hst]; simp
          have hpre : (upto s k ++ dn) ++ [64 * k + c] <+: bytesOf s := by
            refine List.IsPrefix.trans ?_ (upto_prefix s (k + 1) (by omega))
            rw [upto, ← hdn']
            exact ⟨(bitsL (y &&& (y - 1))).map (64 * k + ·), by simp⟩
          obtain ⟨fn, tmps, assign, body, hyy, hR⟩ := HY _ _ M2 w1 hpre hJ2 hF2.lt
          rw [show ((64 * k + c : Nat) : Int) = 64 * (k : Int) + (c : Int) from by omega] at hyy
          have HD : Hid ((dn ++ [64 * k + c]) ++ (bitsL (y &&& (y - 1))).map (64 * k + ·) = wb s k) := hdn'
          have HR := hide hR
          have HP := hide hpre
          clear hst hdn hdn' hpre hR
          generalize y &&& (y - 1) = y' at *
          gi_wp2
          refine ⟨rfl, HR.out.mono ?_⟩
          rintro e W3 ⟨M3, hF3, ⟨rfl, hJ3⟩ | ⟨rfl, hJx3⟩⟩
          · gi_wp2
            go_roundw
            case rel => exact ⟨y', dn ++ [64 * k + c], rfl, by omega, HD.out, M3, hF2.trans hF3, by rw [← List.append_assoc]; exact hJ3⟩
            case measure => simp [intOf]; omega
          · gi_wp2
            refine bodyPost_ret (results_none rfl _ _ _) rfl ?_
            exact ⟨⟨_, rfl⟩, M3, hF2.trans hF3, .inr ⟨_, HP.out, hJx3⟩⟩
        · obtain rfl : y = 0 := by omega
          rw [bitsL_zero, List.map_nil, List.append_nil] at hdn
          gi_wp2
          go_roundw
          case rel => exact ⟨k + 1, by omega, by go_num, M2, hF2, by rw [upto, ← hdn]; exact hJ2⟩
          case measure => simp [intOf]; omega
    · obtain rfl : k = 4 := by omega
      gi_wp2
      go_end0
      exact ⟨⟨_, rfl⟩, M1, hF1, .inl hJ1⟩
end Go.Proofs.YthemadegffhmfaaDoor
/- The runs of a set: bytes beside one another. -/
namespace Go.Proofs.YthemadegffhmfaaDoor
set_option maxRecDepth 100000

/-- One byte more: what runs are over, and the one that is open. -/
def runStep (st : List (Nat × Nat) × Option (Nat × Nat)) (b : Nat) : List (Nat × Nat) × Option (Nat × Nat) :=
  match st with
  | (em, none) => (em, some (b, b))
  | (em, some (f, l)) => if b = l + 1 then (em, some (f, b)) else (em ++ [(f, l)], some (b, b))
def runSt (pre : List Nat) : List (Nat × Nat) × Option (Nat × Nat) := pre.foldl runStep ([], none)
theorem runSt_snoc (pre : List Nat) (b : Nat) : runSt (pre ++ [b]) = runStep (runSt pre) b := by simp [runSt]
/-- The runs of a list of bytes. -/
def runsL (l : List Nat) : List (Nat × Nat) := (runSt l).1 ++ (runSt l).2.toList
def runsOf (s : BitVec 256) : List (Nat × Nat) := runsL (bytesOf s)

theorem runStep_mono (st : List (Nat × Nat) × Option (Nat × Nat)) (b : Nat) : st.1 <+: (runStep st b).1 := by
  obtain ⟨em, cur⟩ := st
  cases cur with
  | none => exact List.prefix_rfl
  | some r =>
    obtain ⟨f, l⟩ := r
    simp only [runStep]
    split
    · exact List.prefix_rfl
    · exact List.prefix_append _ _
theorem runSt_mono (q : List Nat) : ∀ pre, (runSt pre).1 <+: (runSt (pre ++ q)).1 := by
  induction q with
  | nil => intro pre; rw [List.append_nil]; exact List.prefix_rfl
  | cons b q ih =>
    intro pre
    have h := ih (pre ++ [b])
    rw [List.append_assoc, List.singleton_append] at h
    refine List.IsPrefix.trans ?_ h
    rw [runSt_snoc]; exact runStep_mono _ _
theorem runSt_prefix {pre l : List Nat} (h : pre <+: l) : (runSt pre).1 <+: runsL l := by
  obtain ⟨q, rfl⟩ := h
  exact (runSt_mono q pre).trans (List.prefix_append _ _)
theorem runSt_none (pre : List Nat) : (runSt pre).2 = none → pre = [] := by
  intro h
  rcases List.eq_nil_or_concat pre with rfl | ⟨q, b, rfl⟩
  · rfl
  · rw [List.concat_eq_append] at *
    rw [runSt_snoc] at h
    generalize runSt q = st at h
    obtain ⟨em, cur⟩ := st
    cases cur with
    | none => simp [runStep] at h
    | some r => obtain ⟨f, l⟩ := r; simp only [runStep] at h; split at h <;> simp at h
/-- The open run ends with the last byte. -/
theorem runSt_last (pre : List Nat) (f l : Nat) : (runSt pre).2 = some (f, l) → ∃ q, pre = q ++ [l] := by
  intro h
  rcases List.eq_nil_or_concat pre with rfl | ⟨q, b, rfl⟩
  · simp [runSt] at h
  · refine ⟨q, ?_⟩
    rw [List.concat_eq_append] at *
    rw [runSt_snoc] at h
    generalize runSt q = st at h
    obtain ⟨em, cur⟩ := st
    cases cur with
    | none => simp [runStep] at h; rw [h.2]
    | some r =>
      obtain ⟨f', l'⟩ := r
      simp only [runStep] at h
      split at h
      · simp at h; rw [h.2]
      · simp at h; rw [h.2]
/-- Bytes are below 256, and go up. -/
theorem bytesOf_lt (s : BitVec 256) (x : Nat) (h : x ∈ bytesOf s) : x < 256 := by
  rw [bytesOf_filter] at h; have := (List.mem_filter.1 h).1; simpa using this
theorem bytesOf_up (s : BitVec 256) : (bytesOf s).Pairwise (· < ·) := by
  rw [bytesOf_filter]; exact List.Pairwise.filter _ List.pairwise_lt_range
theorem bytes_next (s : BitVec 256) (q : List Nat) (l x : Nat) (h : q ++ [l] ++ [x] <+: bytesOf s) : l < x ∧ x < 256 := by
  have hp := (bytesOf_up s).sublist h.sublist
  have hx : x ∈ bytesOf s := h.subset (by simp)
  refine ⟨?_, bytesOf_lt s x hx⟩
  rw [List.pairwise_append] at hp
  exact hp.2.2 l (by simp) x (by simp)
theorem bytes_prefix_lt (s : BitVec 256) (pre : List Nat) (x : Nat) (h : pre ++ [x] <+: bytesOf s) : x < 256 := bytesOf_lt s x (h.subset (by simp))

end Go.Proofs.YthemadegffhmfaaDoor
/- Contracts: Bytes, Runs, Least; the iterator that Runs hands out. -/
namespace Go.Proofs.YthemadegffhmfaaDoor
set_option maxRecDepth 100000
open Go.RowKit Go.Shelf
attribute [local go_sem] Oper.semAt_some

set_option maxHeartbeats 400000 in
theorem bytes_any (s : BitVec 256) (w : World) :
    Calls Tryd.prog 96 #[SV s] w fun e w' => e = .returned (.func (.func 98) #[] #[.pointer (some ⟨w.heap.size, 0, none⟩)]) ∧ w' = w.alloc (.cells (WS s) 39) := by
  go_enter Tryd.func96, Tryd.ntmps96
  go_wp2
  go_ret
  exact ⟨rfl, rfl⟩
set_option maxHeartbeats 400000 in
theorem runs_any (s : BitVec 256) (w : World) :
    Calls Tryd.prog 88 #[SV s] w fun e w' => e = .returned (.func (.func 95) #[] #[.pointer (some ⟨w.heap.size, 0, none⟩)]) ∧ w' = w.alloc (.cells (WS s) 39) := by
  go_enter Tryd.func88, Tryd.ntmps88
  go_wp2
  go_ret
  exact ⟨rfl, rfl⟩

theorem enters_bytes : ∀ args w, (callFunc 98 args).run Tryd.prog w = .ok (.enter 98 args) w := enters_of Tryd.func98 (by kernel_rfl) rfl

/-- The least of some bytes that go up. -/
def leastV (l : List Nat) : Value := .tuple #[.int .u8 (l.headD 0), .bool (!l.isEmpty)]

end Go.Proofs.YthemadegffhmfaaDoor
/- Operations within a region that draws its order. -/
namespace Go.Proofs.YthemadegffhmfaaDoor
set_option maxRecDepth 100000
open Go.RowKit

theorem x_convU8 (ρ : Operand → Value) (d : Option Tmp) (x : Operand) (t : TypeId) (pos : String) (af : Array Edge) (g : Option (Nat × Bool)) (n : Int) (hx : ρ x = .int .i64 n) (h0 : 0 ≤ n) (h1 : n < 256) (w : World) :
    (execOp ρ { dst := d, op := .convert 3 5 x, type := t, pos := pos, after := af, guard := g }).run Tryd.prog w = .ok (.value (.int .u8 n)) w := by
  have e : IntKind.u8.wrap n = n := by simp [IntKind.wrap, IntKind.signed, IntKind.bits]; omega
  simp [go_sem, hx, e]
theorem x_convInt (ρ : Operand → Value) (d : Option Tmp) (x : Operand) (t : TypeId) (pos : String) (af : Array Edge) (g : Option (Nat × Bool)) (n : Int) (hx : ρ x = .int .u8 n) (h0 : 0 ≤ n) (h1 : n < 256) (w : World) :
    (execOp ρ { dst := d, op := .convert 5 3 x, type := t, pos := pos, after := af, guard := g }).run Tryd.prog w = .ok (.value (.int .i64 n)) w := by
  have e : IntKind.i64.wrap n = n := by rw [IntKind.wrap_i64]; omega
  simp [go_sem, hx, e]
theorem x_loadBool (ρ : Operand → Value) (d : Option Tmp) (x : Operand) (t : TypeId) (pos : String) (af : Array Edge) (g : Option (Nat × Bool)) (b n : Nat) (v : Bool) (hx : ρ x = .pointer (some ⟨b, n, none⟩)) (w : World) (hc : w.cell? ⟨b, n, none⟩ = some (.bool v)) :
    (execOp ρ { dst := d, op := .load 4 x, type := t, pos := pos, after := af, guard := g }).run Tryd.prog w = .ok (.value (.bool v)) w := by
  simp [go_sem, hx, hc]
theorem x_neqBool (ρ : Operand → Value) (d : Option Tmp) (x y : Operand) (t : TypeId) (pos : String) (af : Array Edge) (g : Option (Nat × Bool)) (u v : Bool) (hx : ρ x = .bool u) (hy : ρ y = .bool v) (w : World) :
    (execOp ρ { dst := d, op := .binOp .neq 4 x y 4, type := t, pos := pos, after := af, guard := g }).run Tryd.prog w = .ok (.value (.bool (u != v))) w := by
  cases u <;> cases v <;> simp [go_sem, hx, hy]
theorem x_eqBool (ρ : Operand → Value) (d : Option Tmp) (x y : Operand) (t : TypeId) (pos : String) (af : Array Edge) (g : Option (Nat × Bool)) (u v : Bool) (hx : ρ x = .bool u) (hy : ρ y = .bool v) (w : World) :
    (execOp ρ { dst := d, op := .binOp .eql 4 x y 4, type := t, pos := pos, after := af, guard := g }).run Tryd.prog w = .ok (.value (.bool (u == v))) w := by
  simp [go_sem, hx, hy]
theorem x_gtrInt (ρ : Operand → Value) (d : Option Tmp) (x y : Operand) (t : TypeId) (pos : String) (af : Array Edge) (g : Option (Nat × Bool)) (u v : Int) (hx : ρ x = .int .i64 u) (hy : ρ y = .int .i64 v) (w : World) :
    (execOp ρ { dst := d, op := .binOp .gtr 3 x y 3, type := t, pos := pos, after := af, guard := g }).run Tryd.prog w = .ok (.value (.bool (decide (v < u)))) w := by
  simp [go_sem, hx, hy]
theorem x_notBool (ρ : Operand → Value) (d : Option Tmp) (x : Operand) (t : TypeId) (pos : String) (af : Array Edge) (g : Option (Nat × Bool)) (u : Bool) (hx : ρ x = .bool u) (w : World) :
    (execOp ρ { dst := d, op := .unOp .not 4 x, type := t, pos := pos, after := af, guard := g }).run Tryd.prog w = .ok (.value (.bool (!u))) w := by
  simp [go_sem, hx]
theorem x_max (ρ : Operand → Value) (d : Option Tmp) (x y : Operand) (t : TypeId) (pos : String) (af : Array Edge) (g : Option (Nat × Bool)) (u v : Int) (hx : ρ x = .int .i64 u) (hy : ρ y = .int .i64 v) (w : World) :
    (execOp ρ { dst := d, op := .call { callee := .builtin .max, args := #[x, y], argTypes := #[3, 3] }, type := t, pos := pos, after := af, guard := g }).run Tryd.prog w = .ok (.value (.int .i64 (max u v))) w := by
  simp [go_sem, hx, hy]
  rw [Int.max_def]; split <;> split <;> omega

end Go.Proofs.YthemadegffhmfaaDoor
