/- Texts of this claim put together: Quiet, Range, MathBits, SetE, MathRuns, SetF, QuietX, Quiet3, Held, SetG. -/
import Derived.Test.YtjcfnmjjkadaeaaGreatDoorJoinSetD
import Derived.RangeFuncNested
import Derived.RangeFuncBound
import Derived.RangeFuncCalls
import Derived.RangeFuncLeaves
import Derived.Lib.TrailingZeros
import Derived.Laws.Bits64b
import Derived.Shelf.Abstract
import Derived.Shelf.RegionOpen
import Derived.OwnWalkIn
import Derived.TacticsInMore
import Derived.LoopNIn
import Derived.LoopIn
import Derived.Deep.RegionHeld3
/- A region that draws its order, whose operations make new memory alone: one walk in the text's order serves every order. The class of worlds: C, closed under new memory. -/
namespace Go.Proofs.YtjcfnmjjkadaeaaGreatDoor
set_option maxRecDepth 100000
open Go.RowKit

/-- A class of worlds that new memory does not leave. -/
def Grows (C : World → Prop) : Prop := ∀ W W', C W → Below W.heap.size W W' → C W'

section
variable {C : World → Prop} {ops : Array Oper} {Q : Act → Prop} {a : Act} {o : Oper} {rest : List Oper} {K : Act → Prop}

theorem q_want (hw : Region.wanted o (yielded ops a.tmps) = true) (h : ∀ K : Act → Prop, (∀ a, wpQuiet Tryz.prog ops C Q rest a → K a) → o.quiet Tryz.prog a C K) : wpQuiet Tryz.prog ops C Q (o :: rest) a :=
  BigFrame.wpQuiet_want hw h
theorem q_skip (hw : Region.wanted o (yielded ops a.tmps) = false) (h : wpQuiet Tryz.prog ops C Q rest (a.put o.dst undef)) : wpQuiet Tryz.prog ops C Q (o :: rest) a :=
  BigFrame.wpQuiet_skip hw h

theorem quiet_lit {id : Nat} {Q' : Exit → Act → World → Prop} {w : World} {l : List Oper} (hm : (Tryz.prog).follows .mixedOrders = true) (hB : Region.lexB .any l.toArray = true) (hC : C { w with drawn := w.drawn + 1 })
    (h : wpQuiet Tryz.prog l.toArray C (fun a' => ∀ w', C w' → Q' .normal a' w') l a) : (Code.region id l.toArray true).wp Tryz.prog Q' a w :=
  wp_region_quiet hm hB hC (by simpa using h)

/-- What an operation yields in every world of the class. -/
theorem q_value (v : Value) (h : ∀ w, C w → (execOp a.eval o).run Tryz.prog w = .ok (.value v) w) (hk : K (a.put o.dst v)) : o.quiet Tryz.prog a C K :=
  ⟨v, fun w hw => by unfold Oper.quietAt; rw [h w hw]; exact ⟨rfl, rfl⟩, hk⟩
theorem q_call (hG : Grows C) (f : FuncId) (vs : Array Value) (v : Value) (h : ∀ w, (execOp a.eval o).run Tryz.prog w = .ok (.enter f vs) w)
    (hc : ∀ w, C w → Calls Tryz.prog f vs w fun e w' => e = .returned v ∧ Below w.heap.size w w') (hk : K (a.put o.dst v)) : o.quiet Tryz.prog a C K :=
  ⟨v, fun w hw => by unfold Oper.quietAt; rw [h w]; exact ⟨rfl, (hc w hw).mono fun e w' ⟨he, hb⟩ => ⟨he, hG w w' hw hb⟩⟩, hk⟩
end

theorem x_loadSet (ρ : Operand → Value) (d : Option Tmp) (k : Tmp) (t : TypeId) (pos : String) (af : Array Edge) (g : Option (Nat × Bool)) (B : Nat) (s : BitVec 256) (hx : ρ (.tmp k) = .pointer (some ⟨B, 0, none⟩)) (w : World) (hB : Blk w B (WS s) 89) :
    (execOp ρ { dst := d, op := .load 89 (.tmp k), type := t, pos := pos, after := af, guard := g }).run Tryz.prog w = .ok (.value (SV s)) w := by
  have c0 := hB.cell 0; have c1 := hB.cell 1; have c2 := hB.cell 2; have c3 := hB.cell 3
  simp only [List.getElem?_toArray, List.getElem?_cons_zero, List.getElem?_cons_succ] at c0 c1 c2 c3
  simp [go_sem, hx, c0, c1, c2, c3]
theorem x_call1 (ρ : Operand → Value) (d : Option Tmp) (f : FuncId) (x : Operand) (t t1 : TypeId) (pos : String) (af : Array Edge) (g : Option (Nat × Bool)) (v : Value) (hx : ρ x = v) (hfn : ρ (.func f) = .func (.func f) #[] #[]) (hf : ∀ args w, (callFunc f args).run Tryz.prog w = .ok (.enter f args) w) (w : World) :
    (execOp ρ { dst := d, op := .call { callee := .value (.func f), args := #[x], argTypes := #[t1] }, type := t, pos := pos, after := af, guard := g }).run Tryz.prog w = .ok (.enter f #[v]) w := by
  simp [go_sem, hfn, hx, hf]
theorem x_call2 (ρ : Operand → Value) (d : Option Tmp) (f : FuncId) (x y : Operand) (t t1 t2 : TypeId) (pos : String) (af : Array Edge) (g : Option (Nat × Bool)) (u v : Value) (hx : ρ x = u) (hy : ρ y = v) (hfn : ρ (.func f) = .func (.func f) #[] #[]) (hf : ∀ args w, (callFunc f args).run Tryz.prog w = .ok (.enter f args) w) (w : World) :
    (execOp ρ { dst := d, op := .call { callee := .value (.func f), args := #[x, y], argTypes := #[t1, t2] }, type := t, pos := pos, after := af, guard := g }).run Tryz.prog w = .ok (.enter f #[u, v]) w := by
  simp [go_sem, hfn, hx, hy, hf]
theorem x_pick (ρ : Operand → Value) (d : Option Tmp) (c x y : Operand) (t : TypeId) (pos : String) (af : Array Edge) (g : Option (Nat × Bool)) (b : Bool) (u v : Value) (hc : ρ c = .bool b) (hx : ρ x = u) (hy : ρ y = v) (w : World) :
    (execOp ρ { dst := d, op := .pick c x y, type := t, pos := pos, after := af, guard := g }).run Tryz.prog w = .ok (.value (if b then u else v)) w := by
  cases b <;> simp [go_sem, hc, hx, hy]
theorem x_move (ρ : Operand → Value) (d : Option Tmp) (x : Operand) (t : TypeId) (pos : String) (af : Array Edge) (g : Option (Nat × Bool)) (v : Value) (hx : ρ x = v) (w : World) :
    (execOp ρ { dst := d, op := .move x, type := t, pos := pos, after := af, guard := g }).run Tryz.prog w = .ok (.value v) w := by
  simp [go_sem, hx]
theorem x_assign (ρ : Operand → Value) (d : Option Tmp) (x : Operand) (t : TypeId) (pos : String) (af : Array Edge) (g : Option (Nat × Bool)) (v : Value) (hx : ρ x = v) (w : World) :
    (execOp ρ { dst := d, op := .assign x, type := t, pos := pos, after := af, guard := g }).run Tryz.prog w = .ok (.value v) w := by
  simp [go_sem, hx]
theorem x_eqInt (ρ : Operand → Value) (d : Option Tmp) (x y : Operand) (t : TypeId) (pos : String) (af : Array Edge) (g : Option (Nat × Bool)) (u v : Int) (hx : ρ x = .int .i64 u) (hy : ρ y = .int .i64 v) (w : World) :
    (execOp ρ { dst := d, op := .binOp .eql 3 x y 3, type := t, pos := pos, after := af, guard := g }).run Tryz.prog w = .ok (.value (.bool (u == v))) w := by
  simp [go_sem, hx, hy]
end Go.Proofs.YtjcfnmjjkadaeaaGreatDoor
/- A range over a function, by footprints: the body owns a set M of blocks, the iterator what it lays itself; neither turns what the other owns. -/
namespace Go.Proofs.YtjcfnmjjkadaeaaGreatDoor
set_option maxRecDepth 100000
open Go.RowKit

/-- Where K holds, W' is as W was; no block has gone. -/
structure Agree (K : Nat → Prop) (W W' : World) : Prop where
  os : W'.os = W.os
  tape : W'.tape = W.tape
  output : W'.output = W.output
  size : W.heap.size ≤ W'.heap.size
  block : ∀ k, k < W.heap.size → K k → W'.heap[k]? = W.heap[k]?
  drawn : W.drawn ≤ W'.drawn
/-- The same of the blocks alone. -/
structure AgreeW (K : Nat → Prop) (W W' : World) : Prop where
  block : ∀ k, k < W.heap.size → K k → W'.heap[k]? = W.heap[k]?
theorem Agree.w {K : Nat → Prop} {A B : World} (h : Agree K A B) : AgreeW K A B := ⟨h.block⟩

theorem Agree.refl (K : Nat → Prop) (W : World) : Agree K W W := ⟨rfl, rfl, rfl, Nat.le_refl _, fun _ _ _ => rfl, Nat.le_refl _⟩
theorem Agree.trans {K : Nat → Prop} {A B C : World} (h : Agree K A B) (k : Agree K B C) : Agree K A C :=
  ⟨k.os.trans h.os, k.tape.trans h.tape, k.output.trans h.output, Nat.le_trans h.size k.size, fun i hi hk => (k.block i (Nat.lt_of_lt_of_le hi h.size) hk).trans (h.block i hi hk), Nat.le_trans h.drawn k.drawn⟩
theorem Agree.trans' {K K' : Nat → Prop} {A B C : World} (h : Agree K A B) (k : Agree K' B C) (hk : ∀ i, i < A.heap.size → K i → K' i) : Agree K A C :=
  ⟨k.os.trans h.os, k.tape.trans h.tape, k.output.trans h.output, Nat.le_trans h.size k.size, fun i hi hi' => (k.block i (Nat.lt_of_lt_of_le hi h.size) (hk i hi hi')).trans (h.block i hi hi'), Nat.le_trans h.drawn k.drawn⟩
theorem Agree.mono {K K' : Nat → Prop} {A B : World} (h : Agree K A B) (hk : ∀ k, k < A.heap.size → K' k → K k) : Agree K' A B :=
  ⟨h.os, h.tape, h.output, h.size, fun i hi hk' => h.block i hi (hk i hi hk'), h.drawn⟩
theorem Agree.alloc (K : Nat → Prop) (W : World) (o : Obj) : Agree K W (W.alloc o) := ⟨rfl, rfl, rfl, by simp, fun k hk _ => Below.heap_alloc _ _ _ hk, Nat.le_refl _⟩
theorem Agree.drew (K : Nat → Prop) (W : World) : Agree K W W.drew := ⟨rfl, rfl, rfl, Nat.le_refl _, fun _ _ _ => rfl, Nat.le_succ _⟩
theorem Agree.setCell {K : Nat → Prop} (W : World) (a : Addr) (v : Value) (h : ¬ K a.block) : Agree K W (W.setCell a v) :=
  ⟨rfl, rfl, rfl, by simp [World.setCell], fun k _ hk => Below.heap_setCell _ _ _ _ (fun e => h (e ▸ hk)), Nat.le_refl _⟩
theorem Agree.putObj {K : Nat → Prop} (W : World) (r : Nat) (o : Obj) (h : ¬ K r) : Agree K W (W.putObj r o) :=
  ⟨rfl, rfl, rfl, by simp, fun k _ hk => World.putObj_heap_other (fun e => h (e ▸ hk)), Nat.le_refl _⟩
theorem Agree.of_all {K : Nat → Prop} {A C : World} (h : Below A.heap.size A C) : AgreeW K A C := ⟨fun k hk _ => h.block k hk⟩
theorem Agree.of_drawn {K : Nat → Prop} {A C : World} (h : Below A.heap.size A C) (hd : A.drawn ≤ C.drawn) : Agree K A C := ⟨h.os, h.tape, h.output, h.size, fun k hk _ => h.block k hk, hd⟩
theorem Agree.below {K : Nat → Prop} {A C : World} (h : Agree K A C) (B : Nat) (hB : B ≤ A.heap.size) (hk : ∀ k, k < B → K k) : Below B A C := ⟨h.os, h.tape, h.output, h.size, fun k hk' => h.block k (by omega) (hk k hk')⟩
theorem Blk.agree {K : Nat → Prop} {w w' : World} {b : Nat} {c : Array Value} {t : TypeId} (h : Blk w b c t) (hb : Agree K w w') (hK : K b) : Blk w' b c t := (hb.block b h.lt hK).trans h

/-- A world under a name, with what is known of it. -/
theorem wpIn_world {F : Fence} {n : Nat} {P : Program} {c : Code} {Q : Exit → Act → World → Prop} {a : Act} {w0 : World} (R : World → Prop) (h : R w0) (k : ∀ w, R w → c.wpIn F n P Q a w) : c.wpIn F n P Q a w0 := k w0 h
theorem wp_world {P : Program} {c : Code} {Q : Exit → Act → World → Prop} {a : Act} {w0 : World} (R : World → Prop) (h : R w0) (k : ∀ w, R w → c.wp P Q a w) : c.wp P Q a w0 := k w0 h

/-- A function that ranged over a function leaves: the block for deferred calls, which is empty, is shut. -/
theorem leave_mark {P : Program} {fn : Func} {R : Ending → World → Prop} {tmps : Array Value} {W : World} {D : Nat} {v : Value} (hK : W.heap[D]? = some (.deferred (some [])))
    (hr : (results fn tmps).run P (W.putObj D (.deferred none)) = .ok v (W.putObj D (.deferred none))) (hR : R (.returned v) (W.putObj D (.deferred none))) :
    bodyPostM Fence.wide 0 P fn R .ret { tmps := tmps, defers := [{ target := .collected D, args := #[] }] } W :=
  ⟨by simp, .inl ⟨_, _, rfl, run_takeDeferred hK, ⟨_, hr, hR⟩⟩⟩
theorem leave_mark_end {P : Program} {fn : Func} {R : Ending → World → Prop} {tmps : Array Value} {W : World} {D : Nat} {v : Value} (hK : W.heap[D]? = some (.deferred (some [])))
    (hr : (results fn tmps).run P (W.putObj D (.deferred none)) = .ok v (W.putObj D (.deferred none))) (hR : R (.returned v) (W.putObj D (.deferred none))) :
    bodyPostM Fence.wide 0 P fn R .normal { tmps := tmps, defers := [{ target := .collected D, args := #[] }] } W :=
  ⟨by simp, .inl ⟨_, _, rfl, run_takeDeferred hK, ⟨_, hr, hR⟩⟩⟩
theorem Blk.putObj {w : World} {b : Nat} {c : Array Value} {t : TypeId} (h : Blk w b c t) (r : Nat) (o : Obj) (hr : b ≠ r) : Blk (w.putObj r o) b c t := (World.putObj_heap_other hr).trans h
theorem below_put {B : Nat} {a w : World} (h : Below B a w) {r : Nat} (hr : B ≤ r) (o : Obj) : Below B a (w.putObj r o) :=
  h.trans ⟨rfl, rfl, rfl, by simp, fun k hk => World.putObj_heap_other (by omega)⟩

/-- What is known of the blocks of M alone. -/
def Stable {α : Type} (J : List α → (Nat → Prop) → World → Prop) : Prop := ∀ s M A B, J s M A → Agree M A B → J s M B

/-- From W to W', M grew to M' by new blocks alone, and nothing outside M has turned. -/
structure Foot (M M' : Nat → Prop) (W W' : World) : Prop where
  into : ∀ k, M' k → (M k ∨ W.heap.size ≤ k) ∧ k < W'.heap.size
  agree : Agree (fun k => ¬ M k) W W'

theorem Foot.refl (M : Nat → Prop) (W : World) (h : ∀ k, M k → k < W.heap.size) : Foot M M W W := ⟨fun k hk => ⟨.inl hk, h k hk⟩, Agree.refl _ _⟩

theorem Foot.same {M : Nat → Prop} {W W' : World} (h : ∀ k, M k → k < W.heap.size) (ha : Agree (fun k => ¬ M k) W W') : Foot M M W W' := ⟨fun k hk => ⟨.inl hk, Nat.lt_of_lt_of_le (h k hk) ha.size⟩, ha⟩
theorem Foot.trans {M M' M'' : Nat → Prop} {A B C : World} (h : Foot M M' A B) (k : Foot M' M'' B C) : Foot M M'' A C := by
  have hs := h.agree.size
  refine ⟨fun i hi => ?_, h.agree.trans' k.agree fun i hi hn hm => ?_⟩
  · obtain ⟨h1, h2⟩ := k.into i hi
    refine ⟨?_, h2⟩
    rcases h1 with h1 | h1
    · exact (h.into i h1).1
    · exact .inr (by omega)
  · rcases (h.into i hm).1 with h1 | h1
    · exact hn h1
    · omega
theorem Foot.lt {M M' : Nat → Prop} {W W' : World} (h : Foot M M' W W') : ∀ k, M' k → k < W'.heap.size := fun k hk => (h.into k hk).2
/-- A block that lay outside M lies outside M' too. -/
theorem Foot.out {M M' : Nat → Prop} {W W' : World} (h : Foot M M' W W') {k : Nat} (hk : k < W.heap.size) (hn : ¬ M k) : ¬ M' k := fun hm => by
  rcases (h.into k hm).1 with h1 | h1
  · exact hn h1
  · omega

theorem Foot.put {M M' : Nat → Prop} {W W' : World} (h : Foot M M' W W') {D : Nat} (hD : W.heap.size ≤ D) (o : Obj) : Foot M M' W (W'.putObj D o) :=
  ⟨fun k hk => by rw [World.putObj_size]; exact h.into k hk, h.agree.os, h.agree.tape, h.agree.output, by rw [World.putObj_size]; exact h.agree.size,
    fun k hk hn => (World.putObj_heap_other (by omega)).trans (h.agree.block k hk hn), h.agree.drawn⟩

/-- The contract of an iterator: it hands xs to its yield, one by one, till it is told to end. own: blocks that the body must leave alone. -/
def Iter {α : Type} (P : Program) (g : Nat) (lb : Array Value) (encs : α → Array Value) (xs : List α) (own : Nat → Prop) (W : World) : Prop :=
  ∀ (l : Nat) (J Jx : List α → (Nat → Prop) → World → Prop) (M : Nat → Prop), Stable J → Stable Jx →
    (∀ pre x M1 W1, pre ++ [x] <+: xs → J pre M1 W1 → (∀ k, M1 k → k < W1.heap.size) → YieldAt Fence.wide 0 P l (encs x) W1 fun e W' =>
      ∃ M', Foot M1 M' W1 W' ∧ ((e = .returned (.bool true) ∧ J (pre ++ [x]) M' W') ∨ (e = .returned (.bool false) ∧ Jx (pre ++ [x]) M' W'))) →
    (∀ k, M k → k < W.heap.size) → (∀ k, own k → ¬ M k) → J [] M W →
    CallsIn Fence.wide 0 P g (#[.func (.yield l) #[] #[]] ++ lb) W fun e W' => (∃ v, e = .returned v) ∧
      ∃ M', Foot M M' W W' ∧ (J xs M' W' ∨ ∃ pre, pre <+: xs ∧ Jx pre M' W')

/-- How the body of a round may be left. -/
def postM {α : Type} (I : List α → (Nat → Prop) → World → Prop) (Ix : Code → List α → (Nat → Prop) → World → Prop) (xs : List α) (M : Nat → Prop) (W : World) : Exit → Act → World → Prop
  | .normal, _, W' => ∃ M', Foot M M' W W' ∧ I xs M' W'
  | .ret, _, W' => ∃ M', Foot M M' W W' ∧ Ix .ret xs M' W'
  | .exit id, _, W' => ∃ M', Foot M M' W W' ∧ Ix (.exit id) xs M' W'
  | .goto t, _, W' => ∃ M', Foot M M' W W' ∧ Ix (.goto t) xs M' W'
  | .panic _, _, _ => False
  | .outgrown, _, _ => False

theorem wpIn_rangeM {P : Program} {α : Type} {g : Operand} {ps : Array Tmp} {assign body : Code} {Q : Exit → Act → World → Prop} {a : Act} {w : World}
    {gf : Nat} {lb : Array Value} (hg : a.eval g = .func (.func gf) #[] lb) (eg : ∀ args w, (callFunc gf args).run P w = .ok (.enter gf args) w)
    {encs : α → Array Value} {xs : List α} {own : Nat → Prop} (hiter : ∀ W1, Below w.heap.size w W1 → Iter P gf lb encs xs own W1) (hps : ∀ x, (encs x).size = ps.size)
    (I : List α → (Nat → Prop) → World → Prop) (Ix : Code → List α → (Nat → Prop) → World → Prop) (hI : Stable I) (hIx : ∀ c, Stable (Ix c))
    (M : Nat → Prop) (hM : ∀ k, M k → k < w.heap.size) (hown : ∀ k, own k → ¬ M k ∧ k < w.heap.size) (h0 : I [] M w) (a₁ : α → Act)
    (hassign : ∀ (l : Nat) (x : α) (W : World) (K : Act → World → Prop), K (a₁ x) W →
      assign.wpIn (Fence.wide.inRound l) 0 P (Exit.then K (fun _ _ _ => False)) { tmps := (ps.zip (encs x)).foldl (fun t (p, v) => t.setIfInBounds p v) a.tmps, defers := [] } W)
    (hbody : ∀ (l : Nat) (pre : List α) (x : α) (M : Nat → Prop) (W : World), pre ++ [x] <+: xs → I pre M W → (∀ k, M k → k < W.heap.size) → body.wpIn (Fence.wide.inRound l) 0 P (postM I Ix (pre ++ [x]) M W) (a₁ x) W)
    (hdone : ∀ (D : Nat) (M' : Nat → Prop) (W : World), I xs M' W → Foot M M' w W → w.heap.size ≤ D → W.heap[D]? = some (.deferred (some [])) → ¬ M' D →
      Q .normal { a with defers := { target := .collected D, args := #[] } :: a.defers } W)
    (hstop : ∀ (D : Nat) (c : Code) (pre : List α) (M' : Nat → Prop) (W : World), pre <+: xs → Ix c pre M' W → Foot M M' w W → w.heap.size ≤ D → W.heap[D]? = some (.deferred (some [])) → ¬ M' D →
      c.wpIn Fence.wide 0 P Q { a with defers := { target := .collected D, args := #[] } :: a.defers } W) :
    (Code.rangeFunc g ps assign body).wpIn Fence.wide 0 P Q a w := by
  refine wpIn_rangeFunc ?_
  intro fn hfn
  obtain ⟨rec, hrec⟩ : ∃ rec : LoopState → Option Code → Loop, rec = fun st pe => { state := st, pending := pe, fn, tmps := a.tmps, params := ps, assign, body, defers := w.heap.size } := ⟨_, rfl⟩
  obtain ⟨W1, hW1⟩ : ∃ W1, (w.alloc (.deferred (some []))).alloc (.loop (rec .ready none)) = W1 := ⟨_, rfl⟩
  have hL1 : W1.heap[w.heap.size + 1]? = some (.loop (rec .ready none)) := by
    rw [← hW1]; have := World.alloc_heap_new (w.alloc (.deferred (some []))) (.loop (rec .ready none)); rwa [World.size_alloc] at this
  have hK1 : W1.heap[w.heap.size]? = some (.deferred (some [])) := by
    rw [← hW1]; exact (Below.heap_alloc _ _ _ (by simp)).trans (World.alloc_heap_new w _)
  have hb1 : Below w.heap.size w W1 := by
    rw [← hW1]; exact ((Below.refl _ w).alloc (Nat.le_refl _) _).alloc (by simp) _
  have hd1 : w.drawn ≤ W1.drawn := by rw [← hW1]; exact Nat.le_refl _
  have hz1 : W1.heap.size = w.heap.size + 2 := by rw [← hW1]; simp
  have hI1 : I [] M W1 := hI _ _ _ _ h0 (Agree.of_drawn hb1 hd1)
  refine ⟨w.heap.size + 1, [{ target := .collected w.heap.size, args := #[] }], W1, { target := .fn (.func gf) lb, args := #[.func (.yield (w.heap.size + 1)) #[] #[]] }, W1, gf,
    #[.func (.yield (w.heap.size + 1)) #[] #[]] ++ lb, W1, ?_, ?_, ?_, ?_, fun h => by simp [Fence.wide] at h, ?_⟩
  · rw [← hW1, hrec]; exact run_enterLoop_outer _ _ _ _ _
  · simp only [resolve, hg]
    simp [go_sem]
  · intro f' _; trivial
  · simp [invoke, go_sem, eg]
  · obtain ⟨l, hl⟩ : ∃ l, l = w.heap.size + 1 := ⟨_, rfl⟩
    obtain ⟨D, hD⟩ : ∃ D, D = w.heap.size := ⟨_, rfl⟩
    rw [← hl] at hL1 ⊢
    rw [← hD] at hK1 ⊢
    have hlD : l ≠ D := by omega
    refine (hiter W1 hb1 l
      (fun pre Mo W => ∃ M', (∀ k, Mo k ↔ M' k ∨ k = l ∨ k = D) ∧ ¬ M' l ∧ ¬ M' D ∧ (∀ k, M' k → k < W.heap.size) ∧ I pre M' W ∧ W.heap[l]? = some (.loop (rec .ready none)) ∧ W.heap[D]? = some (.deferred (some [])))
      (fun pre Mo W => ∃ M', (∀ k, Mo k ↔ M' k ∨ k = l ∨ k = D) ∧ ¬ M' l ∧ ¬ M' D ∧ ∃ c, Ix c pre M' W ∧ W.heap[l]? = some (.loop (rec .done (some c))) ∧ W.heap[D]? = some (.deferred (some [])))
      (fun k => M k ∨ k = l ∨ k = D) ?_ ?_ ?_ ?_ ?_ ?_).mono ?_
    · rintro s Mo A B ⟨M', e, n1, n2, hlt, hi, h1, h2⟩ hag
      have q1 : l < A.heap.size := (Array.getElem?_eq_some_iff.1 h1).1
      have q2 : D < A.heap.size := (Array.getElem?_eq_some_iff.1 h2).1
      exact ⟨M', e, n1, n2, fun k hk => Nat.lt_of_lt_of_le (hlt k hk) hag.size, hI _ _ _ _ hi (hag.mono fun k _ hk => (e k).2 (.inl hk)), (hag.block l q1 ((e l).2 (.inr (.inl rfl)))).trans h1, (hag.block D q2 ((e D).2 (.inr (.inr rfl)))).trans h2⟩
    · rintro s Mo A B ⟨M', e, n1, n2, c, hi, h1, h2⟩ hag
      have q1 : l < A.heap.size := (Array.getElem?_eq_some_iff.1 h1).1
      have q2 : D < A.heap.size := (Array.getElem?_eq_some_iff.1 h2).1
      exact ⟨M', e, n1, n2, c, hIx _ _ _ _ _ hi (hag.mono fun k _ hk => (e k).2 (.inl hk)), (hag.block l q1 ((e l).2 (.inr (.inl rfl)))).trans h1, (hag.block D q2 ((e D).2 (.inr (.inr rfl)))).trans h2⟩
    · -- one round
      rintro pre x Mo W hpre ⟨M', e, n1, n2, hlt, hi, h1, h2⟩ hMo
      have q1 : l < W.heap.size := (Array.getElem?_eq_some_iff.1 h1).1
      have q2 : D < W.heap.size := (Array.getElem?_eq_some_iff.1 h2).1
      have hy := run_yield (P := P) (args := encs x) h1 (by rw [hrec]; exact hps x)
      rw [hrec] at hy
      refine ⟨fn, _, assign, body, hy, roundIn_of_wpIn hfn (hassign _ x W _ ⟨_, run_beginRound h1 (by rw [hrec]), ?_⟩)⟩
      obtain ⟨W2, hW2⟩ : ∃ W2, W.putObj l (.loop { rec .ready none with state := .busy }) = W2 := ⟨_, rfl⟩
      rw [hW2]
      have a2 : Agree M' W W2 := by rw [← hW2]; exact Agree.putObj _ _ _ n1
      have b2 : Agree (fun k => ¬ Mo k) W W2 := by rw [← hW2]; exact Agree.putObj _ _ _ (fun h => h ((e l).2 (.inr (.inl rfl))))
      have z2 : W2.heap.size = W.heap.size := by rw [← hW2]; simp
      have h12 : W2.heap[l]? = some (.loop { rec .ready none with state := .busy }) := by rw [← hW2]; exact World.putObj_heap_same q1
      have h22 : W2.heap[D]? = some (.deferred (some [])) := by rw [← hW2]; exact (World.putObj_heap_other (Ne.symm hlD)).trans h2
      refine wpIn_mono (hbody _ pre x M' W2 hpre (hI _ _ _ _ hi a2) (fun k hk => by rw [z2]; exact hlt k hk)) ?_
      have fin : ∀ (jump : Option Code) (M'' : Nat → Prop) (W3 : World), Foot M' M'' W2 W3 →
          ∃ W4, (Instr.endRound l jump).run P W3 = .ok (.bool jump.isNone) W4 ∧ Agree M'' W3 W4 ∧ W4.heap[l]? = some (.loop (rec (if jump.isNone then .ready else .done) jump)) ∧ W4.heap[D]? = some (.deferred (some [])) ∧
            ¬ M'' l ∧ ¬ M'' D ∧ (∀ k, M'' k → k < W4.heap.size) ∧ Foot Mo (fun k => M'' k ∨ k = l ∨ k = D) W W4 := fun jump M'' W3 hf => by
        have m1 : ¬ M'' l := fun h => by rcases (hf.into l h).1 with h | h; exact n1 h; omega
        have m2 : ¬ M'' D := fun h => by rcases (hf.into D h).1 with h | h; exact n2 h; omega
        have h13 : W3.heap[l]? = some (.loop { rec .ready none with state := .busy }) := (hf.agree.block l (by omega) n1).trans h12
        have h23 : W3.heap[D]? = some (.deferred (some [])) := (hf.agree.block D (by omega) n2).trans h22
        have q3 : l < W3.heap.size := (Array.getElem?_eq_some_iff.1 h13).1
        have q4 : D < W3.heap.size := (Array.getElem?_eq_some_iff.1 h23).1
        have hr := run_endRound (P := P) jump h13
        rw [hrec] at hr
        refine ⟨_, hr, Agree.putObj _ _ _ m1, ?_, (World.putObj_heap_other (Ne.symm hlD)).trans h23, m1, m2, fun k hk => by simp; exact (hf.into k hk).2, ?_, ?_⟩
        · rw [World.putObj_heap_same q3, hrec]
        · intro k hk
          simp only [World.putObj_size]
          rcases hk with hk | rfl | rfl
          · obtain ⟨hk1, hk2⟩ := hf.into k hk
            exact ⟨hk1.elim (fun h => .inl ((e k).2 (.inl h))) (fun h => .inr (by omega)), hk2⟩
          · exact ⟨.inl ((e _).2 (.inr (.inl rfl))), q3⟩
          · exact ⟨.inl ((e _).2 (.inr (.inr rfl))), q4⟩
        · exact (b2.trans (hf.agree.mono fun k _ hk h => hk ((e k).2 (.inl h)))).trans (Agree.putObj _ _ _ (fun h => h ((e l).2 (.inr (.inl rfl)))))
      rintro ex a3 W3 hp
      cases ex with
      | normal =>
        obtain ⟨M'', hf, hi3⟩ := hp
        obtain ⟨W4, hr, hag, hl4, hD4, m1, m2, hlt4, hF⟩ := fin none M'' W3 hf
        exact ⟨_, _, hr, _, hF, .inl ⟨rfl, M'', fun k => Iff.rfl, m1, m2, hlt4, hI _ _ _ _ hi3 hag, hl4, hD4⟩⟩
      | ret =>
        obtain ⟨M'', hf, hi3⟩ := hp
        obtain ⟨W4, hr, hag, hl4, hD4, m1, m2, hlt4, hF⟩ := fin (some .ret) M'' W3 hf
        exact ⟨_, _, hr, _, hF, .inr ⟨rfl, M'', fun k => Iff.rfl, m1, m2, _, hIx _ _ _ _ _ hi3 hag, hl4, hD4⟩⟩
      | exit id =>
        obtain ⟨M'', hf, hi3⟩ := hp
        obtain ⟨W4, hr, hag, hl4, hD4, m1, m2, hlt4, hF⟩ := fin (some (.exit id)) M'' W3 hf
        exact ⟨_, _, hr, _, hF, .inr ⟨rfl, M'', fun k => Iff.rfl, m1, m2, _, hIx _ _ _ _ _ hi3 hag, hl4, hD4⟩⟩
      | goto t =>
        obtain ⟨M'', hf, hi3⟩ := hp
        obtain ⟨W4, hr, hag, hl4, hD4, m1, m2, hlt4, hF⟩ := fin (some (.goto t)) M'' W3 hf
        exact ⟨_, _, hr, _, hF, .inr ⟨rfl, M'', fun k => Iff.rfl, m1, m2, _, hIx _ _ _ _ _ hi3 hag, hl4, hD4⟩⟩
      | panic ch => exact hp.elim
      | outgrown => exact hp.elim
    · rintro k (hk | rfl | rfl)
      · have := hM k hk; omega
      · omega
      · omega
    · intro k hk h
      obtain ⟨o1, o2⟩ := hown k hk
      rcases h with h | h | h
      · exact o1 h
      · omega
      · omega
    · exact ⟨M, fun k => Iff.rfl, fun h => by have := hM _ h; omega, fun h => by have := hM _ h; omega, fun k hk => by have := hM _ hk; omega, hI1, hL1, hK1⟩
    · -- behind the iterator
      rintro e W2 ⟨⟨v, rfl⟩, Mo, hF, hcase⟩
      have out : ∀ (M' : Nat → Prop) (st : LoopState) (pe : Option Code), (∀ k, Mo k ↔ M' k ∨ k = l ∨ k = D) → ¬ M' l → ¬ M' D → W2.heap[l]? = some (.loop (rec st pe)) → st ≠ .busy → W2.heap[D]? = some (.deferred (some [])) →
          ∃ W3, (Instr.endLoop l).run P W2 = .ok pe W3 ∧ Agree M' W2 W3 ∧ Foot M M' w W3 ∧ W3.heap[D]? = some (.deferred (some [])) := fun M' st pe he n1 n2 hl2 hb hD2 => by
        have hr := run_endLoop (P := P) hl2 (by rw [hrec]; exact hb)
        have hp : (rec st pe).pending = pe := by rw [hrec]
        rw [hp] at hr
        refine ⟨_, hr, Agree.putObj _ _ _ n1, ⟨fun k hk => ?_, ?_⟩, (World.putObj_heap_other (Ne.symm hlD)).trans hD2⟩
        · obtain ⟨k1, k2⟩ := hF.into k ((he k).2 (.inl hk))
          refine ⟨?_, by simpa using k2⟩
          rcases k1 with (k1 | k1 | k1) | k1
          · exact .inl k1
          · exact .inr (by omega)
          · exact .inr (by omega)
          · exact .inr (by omega)
        · have c1 : Agree (fun k => ¬ M k) w W1 := Agree.of_drawn hb1 hd1
          have c2 : Agree (fun k => k < w.heap.size ∧ ¬ M k) W1 W2 := hF.agree.mono fun k _ hk h => by
            rcases h with h | h | h
            · exact hk.2 h
            · omega
            · omega
          have c3 : ∀ o, Agree (fun k => k < w.heap.size ∧ ¬ M k) W2 (W2.putObj l o) := fun o => Agree.putObj _ _ _ (fun h => by omega)
          exact (((c1.mono (K' := fun k => k < w.heap.size ∧ ¬ M k) fun k _ hk => hk.2).trans c2).trans (c3 _)).mono fun k hk hn => ⟨hk, hn⟩
      rcases hcase with ⟨M', he, n1, n2, hlt, hi, hl2, hD2⟩ | ⟨pre, hpre, M', he, n1, n2, c, hi, hl2, hD2⟩
      · obtain ⟨W3, hr, hag, hf, hD3⟩ := out M' .ready none he n1 n2 hl2 (by simp) hD2
        exact ⟨none, W3, hr, hdone D M' W3 (hI _ _ _ _ hi hag) hf (by omega) hD3 n2⟩
      · obtain ⟨W3, hr, hag, hf, hD3⟩ := out M' .done (some c) he n1 n2 hl2 (by simp) hD2
        exact ⟨some c, W3, hr, hstop D c pre M' W3 hpre (hIx _ _ _ _ _ hi hag) hf (by omega) hD3 n2⟩

end Go.Proofs.YtjcfnmjjkadaeaaGreatDoor
/- The bits of a word, the lowest first; the bytes of a set, in order. -/
namespace Go.Proofs.YtjcfnmjjkadaeaaGreatDoor
set_option maxRecDepth 100000

/-- The lowest bit cut off. -/
theorem cut_low (f x : Nat) (h0 : 0 < x) (h : x < 2 ^ f) (j : Nat) : (x &&& (x - 1)).testBit j = (x.testBit j && !decide (j = Lib.ctzFrom f x)) := by
  obtain ⟨m, hm, _⟩ := Lib.ctzFrom_spec f x h0 h
  generalize Lib.ctzFrom f x = k at *
  have hp : 0 < 2 ^ k := Nat.two_pow_pos k
  have e1 : x = 2 ^ k * (2 * m + 1) + 0 := by omega
  have e2 : x - 1 = 2 ^ k * (2 * m) + (2 ^ k - 1) := by
    rw [hm, Nat.mul_add, Nat.mul_one]; omega
  rw [Nat.testBit_and, e2, Nat.testBit_two_pow_mul_add _ (by omega)]
  conv => lhs; rw [e1, Nat.testBit_two_pow_mul_add _ hp]
  conv => rhs; rw [e1, Nat.testBit_two_pow_mul_add _ hp]
  by_cases hj : j < k
  · simp [hj]
  · simp only [hj, if_false]
    by_cases he : j = k
    · subst he; simp
    · obtain ⟨i, rfl⟩ : ∃ i, j = k + (i + 1) := ⟨j - k - 1, by omega⟩
      have e3 : k + (i + 1) - k = i + 1 := by omega
      rw [e3, Nat.testBit_succ, Nat.testBit_succ, show (2 * m + 1) / 2 = m from by omega, show 2 * m / 2 = m from by omega]
      have hne : (k + (i + 1) = k) = False := by simp
      simp only [hne, decide_false]
      cases m.testBit i <;> rfl
theorem low_bit (f x : Nat) (h0 : 0 < x) (h : x < 2 ^ f) : x.testBit (Lib.ctzFrom f x) = true ∧ ∀ j, j < Lib.ctzFrom f x → x.testBit j = false := by
  obtain ⟨m, hm, _⟩ := Lib.ctzFrom_spec f x h0 h
  generalize Lib.ctzFrom f x = k at *
  have hp : 0 < 2 ^ k := Nat.two_pow_pos k
  have e1 : x = 2 ^ k * (2 * m + 1) + 0 := by omega
  constructor
  · rw [e1, Nat.testBit_two_pow_mul_add _ hp]; simp
  · intro j hj; rw [e1, Nat.testBit_two_pow_mul_add _ hp]; simp [hj]

/-- The places of the bits of x that are 1, of the first 64. -/
def bitsL (x : Nat) : List Nat := (List.range 64).filter fun j => x.testBit j
theorem range_split (n c : Nat) (h : c < n) : List.range n = List.range c ++ c :: List.range' (c + 1) (n - c - 1) := by
  rw [List.range_eq_range', List.range_eq_range', show c :: List.range' (c + 1) (n - c - 1) = List.range' c (n - c) from by
    rw [show n - c = (n - c - 1) + 1 from by omega, List.range'_succ]; simp]
  have := List.range'_append (s := 0) (m := c) (n := n - c) (step := 1)
  rw [Nat.one_mul, Nat.zero_add, show c + (n - c) = n from by omega] at this
  exact this.symm
theorem bitsL_zero : bitsL 0 = [] := by simp [bitsL]
theorem bitsL_step (x : Nat) (h0 : 0 < x) (h : x < 2 ^ 64) : bitsL x = Lib.ctzFrom 64 x :: bitsL (x &&& (x - 1)) := by
  obtain ⟨h1, h2⟩ := low_bit 64 x h0 h
  have h3 := cut_low 64 x h0 h
  obtain ⟨_, _, hk⟩ := Lib.ctzFrom_spec 64 x h0 h
  generalize Lib.ctzFrom 64 x = c at *
  unfold bitsL
  simp only [h3]
  rw [range_split 64 c hk, List.filter_append, List.filter_append, List.filter_cons, List.filter_cons]
  have e1 : (List.range c).filter (fun j => x.testBit j) = [] := by
    rw [List.filter_eq_nil_iff]; intro j hj; rw [h2 j (by simpa using hj)]; simp
  have e2 : (List.range c).filter (fun j => x.testBit j && !decide (j = c)) = [] := by
    rw [List.filter_eq_nil_iff]; intro j hj; rw [h2 j (by simpa using hj)]; simp
  rw [e1, e2]
  simp only [h1, decide_true, Bool.not_true, Bool.and_false, if_true, List.nil_append]
  congr 1
  apply List.filter_congr
  intro j hj
  have : ¬ j = c := by have := List.mem_range'_1.1 hj; omega
  simp [this]
theorem and_pred_lt (x : Nat) (h0 : 0 < x) : x &&& (x - 1) < x := Nat.lt_of_le_of_lt Nat.and_le_right (by omega)

/-- The bytes of word i of a set. -/
def wb (s : BitVec 256) (i : Nat) : List Nat := (bitsL (wd s i)).map (64 * i + ·)
/-- The bytes of the first k words. -/
def upto (s : BitVec 256) : Nat → List Nat
  | 0 => []
  | k + 1 => upto s k ++ wb s k
/-- The bytes of a set, in order. -/
def bytesOf (s : BitVec 256) : List Nat := upto s 4
theorem upto_prefix (s : BitVec 256) (k : Nat) (hk : k ≤ 4) : upto s k <+: bytesOf s := by
  have h1 : ∀ j, upto s j <+: upto s (j + 1) := fun j => ⟨_, rfl⟩
  match k, hk with
  | 0, _ => exact ((h1 0).trans (h1 1)).trans ((h1 2).trans (h1 3))
  | 1, _ => exact (h1 1).trans ((h1 2).trans (h1 3))
  | 2, _ => exact (h1 2).trans (h1 3)
  | 3, _ => exact h1 3
  | 4, _ => exact List.prefix_rfl

theorem upto_filter (s : BitVec 256) (k : Nat) : upto s k = (List.range (64 * k)).filter (fun b => s.getLsbD b) := by
  induction k with
  | zero => rfl
  | succ k ih =>
    rw [upto, ih, show 64 * (k + 1) = 64 * k + 64 from by omega, List.range_add, List.filter_append]
    congr 1
    unfold wb bitsL
    rw [List.filter_map]
    congr 1
    apply List.filter_congr
    intro j hj
    rw [wd_testBit]
    have : j < 64 := by simpa using hj
    simp [this, Function.comp]
theorem bytesOf_filter (s : BitVec 256) : bytesOf s = (List.range 256).filter (fun b => s.getLsbD b) := upto_filter s 4

end Go.Proofs.YtjcfnmjjkadaeaaGreatDoor
/- Contracts: math/bits.TrailingZeros64; the iterator that Bytes hands out. -/
namespace Go.Proofs.YtjcfnmjjkadaeaaGreatDoor
set_option maxRecDepth 100000
open Go.RowKit Go.Shelf

attribute [local go_sem] Oper.semAt_some

/-- The table of math/bits lies in its variable. -/
def TabAt (w : World) : Prop := ∀ j, j < 64 → w.cell? ⟨0, j, none⟩ = some (.int .u8 (Lib.deBruijn64tab.getD j 0))

set_option maxHeartbeats 1000000 in
theorem tz64_core (x k idx : Nat) (w : World) (hx0 : ((x : Int) == 0) = false)
    (key : IntKind.u64.wrap (bits BinOp.and IntKind.u64 (x : Int) (IntKind.u64.wrap (-(x : Int))) * 285870213051353865) / 288230376151711744 = (idx : Int))
    (hi : idx < 64) (hk : k < 64) (hcell : w.cell? ⟨0, idx, none⟩ = some (.int .u8 k)) :
    Calls Tryz.prog 138 #[.int .u64 x] w fun e w' => e = .returned (.int .i64 k) ∧ w' = w := by
  go_enter Tryz.func138, Tryz.ntmps138
  go_wp2_with (simp only [key])
  go_ret
  exact ⟨rfl, rfl⟩

theorem tz64_key (x a : Nat) (hx : x < 18446744073709551616) (hx0 : x ≠ 0) (hlow : x &&& (18446744073709551616 - x) = a) :
    IntKind.u64.wrap (bits BinOp.and IntKind.u64 (x : Int) (IntKind.u64.wrap (-(x : Int))) * 285870213051353865) / 288230376151711744 = ((a * 285870213051353865 % 18446744073709551616 / 288230376151711744 : Nat) : Int) := by
  have e1 : IntKind.u64.wrap (-(x : Int)) = ((18446744073709551616 - x : Nat) : Int) := by rw [IntKind.wrap_u64]; omega
  rw [e1, bits_and_u64_nat x _ hx (by omega), hlow, IntKind.wrap_u64]
  omega

theorem tz_any (x : Nat) (h0 : 0 < x) (hx : x < 18446744073709551616) (w : World) (hT : TabAt w) :
    Calls Tryz.prog 138 #[.int .u64 x] w fun e w' => e = .returned (.int .i64 (Lib.ctzFrom 64 x)) ∧ w' = w := by
  obtain ⟨hlow, hk⟩ := Lib.lowest_bit 64 x (by omega) hx
  have e : Lib.ctz 64 x = Lib.ctzFrom 64 x := by unfold Lib.ctz; rw [if_neg (by omega)]
  rw [e] at hk hlow
  rw [show 2 ^ 64 = 18446744073709551616 from rfl] at hlow
  generalize Lib.ctzFrom 64 x = c at *
  obtain ⟨hi, htab⟩ := Lib.deBruijn64_at c hk
  have hcell := hT _ hi
  rw [htab] at hcell
  exact tz64_core x c _ w (by simp; omega) (tz64_key x _ hx (by omega) hlow) hi hk hcell

theorem idxS (s : BitVec 256) (k : Nat) (hk : k < 4) (w : World) : (Instr.index 89 (SV s) (.int .i64 k)).run Tryz.prog w = .ok (.int .u64 (wd s k)) w := by
  have h := idx4 (wd s 0) (wd s 1) (wd s 2) (wd s 3) k hk w
  match k, hk with
  | 0, _ => exact h
  | 1, _ => exact h
  | 2, _ => exact h
  | 3, _ => exact h

theorem u8_nat (n : Nat) (h : n < 256) : IntKind.u8.wrap (n : Int) = (n : Int) := by
  simp [IntKind.wrap, IntKind.signed, IntKind.bits]; omega
theorem pred_and (y : Nat) (h0 : 0 < y) (hy : y < 18446744073709551616) : bits BinOp.and IntKind.u64 (y : Int) ((y : Int) - 1) = ((y &&& (y - 1) : Nat) : Int) := by
  have e : (y : Int) - 1 = ((y - 1 : Nat) : Int) := by omega
  rw [e, bits_and_u64_nat _ _ hy (by omega)]

theorem TabAt.agree {K : Nat → Prop} {w w' : World} (h : TabAt w) (ha : AgreeW K w w') (hk : K 0) : TabAt w' := fun j hj => by
  have hc := h j hj
  rw [← hc]
  exact World.cell?_of_block (w := w) (ha.block _ (World.block_lt_of_cell? _ _ hc) hk)

set_option maxRecDepth 100000 in
set_option maxHeartbeats 1000000 in
theorem bytes1_any (s : BitVec 256) (Bx : Nat) (W : World) (hB : Blk W Bx (WS s) 89) (hT : TabAt W) :
    Iter Tryz.prog 137 #[.pointer (some ⟨Bx, 0, none⟩)] (fun x : Nat => #[.int .u8 x]) (bytesOf s) (fun k => k = Bx ∨ k = 0) W := by
  intro l J Jx M hJ hJx hY hM hown h0
  have c0 := hB.cell 0; have c1 := hB.cell 1; have c2 := hB.cell 2; have c3 := hB.cell 3
  simp only [List.getElem?_toArray, List.getElem?_cons_zero, List.getElem?_cons_succ] at c0 c1 c2 c3
  have hG : ¬ M 0 := hown _ (.inr rfl)
  have HG : Hid (¬ M 0) := hG
  have HT : Hid (TabAt W) := hT
  have HY := hY
  clear hG hT hown hY
  refine callsIn_of_wp Tryz.func137 rfl trivial ?_ rfl
  simp only [Tryz.ntmps137, List.size_toArray, List.length_cons, List.length_nil, Nat.reduceAdd, Nat.reduceSub, Array.replicate_succ, Array.replicate_zero, List.push_toArray, List.append_toArray, List.nil_append, List.cons_append]
  gi_wp2
  clear c0 c1 c2 c3
  gi_loopw [6] (fun i wr => ∃ k : Nat, k ≤ 4 ∧ i = .int .i64 k ∧ ∃ M', Foot M M' W wr ∧ J (upto s k) M' wr) (fun i _ => 4 - (intOf i).toNat)
  case atStart => exact ⟨0, by omega, rfl, M, Foot.refl M W hM, h0⟩
  case round =>
    obtain ⟨k, hk, rfl, M1, hF1, hJ1⟩ := hrel
    by_cases hk4 : k < 4
    · have hix := idxS s k hk4
      have hd : decide ((k : Int) < 4) = true := by simp; omega
      gi_wp2
      gi_loopw [4] (fun v wr => ∃ (y : Nat) (dn : List Nat), v = .int .u64 y ∧ y < 18446744073709551616 ∧ dn ++ (bitsL y).map (64 * k + ·) = wb s k ∧ ∃ M', Foot M M' W wr ∧ J (upto s k ++ dn) M' wr) (fun v _ => (intOf v).toNat)
      case atStart => exact ⟨wd s k, [], rfl, wd_lt s k, rfl, M1, hF1, by rw [List.append_nil]; exact hJ1⟩
      case round =>
        obtain ⟨y, dn, rfl, hy, hdn, M2, hF2, hJ2⟩ := hrel
        by_cases hy0 : 0 < y
        · have hT2 : TabAt wr := HT.out.agree hF2.agree.w HG.out
          gi_wp2_with fail
          refine ⟨trivial, rfl, ?_⟩
          refine (callsIn_wide.2 (tz_any y hy0 hy _ hT2)).mono ?_
          rintro e w1 ⟨rfl, rfl⟩
          have hc : Lib.ctzFrom 64 y < 64 := by obtain ⟨_, _, h⟩ := Lib.ctzFrom_spec 64 y hy0 hy; exact h
          have hst := bitsL_step y hy0 hy
          have hlt := and_pred_lt y hy0
          have hpa := pred_and y hy0 hy
          generalize Lib.ctzFrom 64 y = c at *
          have hdn' : (dn ++ [64 * k + c]) ++ (bitsL (y &&& (y - 1))).map (64 * k + ·) = wb s k := by rw [← hdn, hst]; simp
          have hpre : (upto s k ++ dn) ++ [64 * k + c] <+: bytesOf s := by
            refine List.IsPrefix.trans ?_ (upto_prefix s (k + 1) (by omega))
            rw [upto, ← hdn']
            exact ⟨(bitsL (y &&& (y - 1))).map (64 * k + ·), by simp⟩
          obtain ⟨fn, tmps, assign, body, hyy, hR⟩ := HY _ _ M2 w1 hpre hJ2 hF2.lt
          rw [show ((64 * k + c : Nat) : Int) = 64 * (k : Int) + (c : Int) from by omega] at hyy
          have HD : Hid ((dn ++ [64 * k + c]) ++ (bitsL (y &&& (y - 1))).map (64 * k + ·) = wb s k) := hdn'
          have HR := hide hR
          have HP := hide hpre
          clear hst hdn hdn' hpre hR
          generalize y &&& (y - 1) = y' at *
          gi_wp2
          refine ⟨rfl, HR.out.mono ?_⟩
          rintro e W3 ⟨M3, hF3, ⟨rfl, hJ3⟩ | ⟨rfl, hJx3⟩⟩
          · gi_wp2
            go_roundw
            case rel => exact ⟨y', dn ++ [64 * k + c], rfl, by omega, HD.out, M3, hF2.trans hF3, by rw [← List.append_assoc]; exact hJ3⟩
            case measure => simp [intOf]; omega
          · gi_wp2
            refine bodyPost_ret (results_none rfl _ _ _) rfl ?_
            exact ⟨⟨_, rfl⟩, M3, hF2.trans hF3, .inr ⟨_, HP.out, hJx3⟩⟩
        · obtain rfl : y = 0 := by omega
          rw [bitsL_zero, List.map_nil, List.append_nil] at hdn
          gi_wp2
          go_roundw
          case rel => exact ⟨k + 1, by omega, by go_num, M2, hF2, by rw [upto, ← hdn]; exact hJ2⟩
          case measure => simp [intOf]; omega
    · obtain rfl : k = 4 := by omega
      gi_wp2
      go_end0
      exact ⟨⟨_, rfl⟩, M1, hF1, .inl hJ1⟩
end Go.Proofs.YtjcfnmjjkadaeaaGreatDoor
/- The runs of a set: bytes beside one another. -/
namespace Go.Proofs.YtjcfnmjjkadaeaaGreatDoor
set_option maxRecDepth 100000

/-- One byte more: what runs are over, and the one that is open. -/
def runStep (st : List (Nat × Nat) × Option (Nat × Nat)) (b : Nat) : List (Nat × Nat) × Option (Nat × Nat) :=
  match st with
  | (em, none) => (em, some (b, b))
  | (em, some (f, l)) => if b = l + 1 then (em, some (f, b)) else (em ++ [(f, l)], some (b, b))
def runSt (pre : List Nat) : List (Nat × Nat) × Option (Nat × Nat) := pre.foldl runStep ([], none)
theorem runSt_snoc (pre : List Nat) (b : Nat) : runSt (pre ++ [b]) = runStep (runSt pre) b := by simp [runSt]
/-- The runs of a list of bytes. -/
def runsL (l : List Nat) : List (Nat × Nat) := (runSt l).1 ++ (runSt l).2.toList
def runsOf (s : BitVec 256) : List (Nat × Nat) := runsL (bytesOf s)

theorem runStep_mono (st : List (Nat × Nat) × Option (Nat × Nat)) (b : Nat) : st.1 <+: (runStep st b).1 := by
  obtain ⟨em, cur⟩ := st
  cases cur with
  | none => exact List.prefix_rfl
  | some r =>
    obtain ⟨f, l⟩ := r
    simp only [runStep]
    split
    · exact List.prefix_rfl
    · exact List.prefix_append _ _
theorem runSt_mono (q : List Nat) : ∀ pre, (runSt pre).1 <+: (runSt (pre ++ q)).1 := by
  induction q with
  | nil => intro pre; rw [List.append_nil]; exact List.prefix_rfl
  | cons b q ih =>
    intro pre
    have h := ih (pre ++ [b])
    rw [List.append_assoc, List.singleton_append] at h
    refine List.IsPrefix.trans ?_ h
    rw [runSt_snoc]; exact runStep_mono _ _
theorem runSt_prefix {pre l : List Nat} (h : pre <+: l) : (runSt pre).1 <+: runsL l := by
  obtain ⟨q, rfl⟩ := h
  exact (runSt_mono q pre).trans (List.prefix_append _ _)
/-- The open run ends with the last byte. -/
theorem runSt_last (pre : List Nat) (f l : Nat) : (runSt pre).2 = some (f, l) → ∃ q, pre = q ++ [l] := by
  intro h
  rcases List.eq_nil_or_concat pre with rfl | ⟨q, b, rfl⟩
  · simp [runSt] at h
  · refine ⟨q, ?_⟩
    rw [List.concat_eq_append] at *
    rw [runSt_snoc] at h
    generalize runSt q = st at h
    obtain ⟨em, cur⟩ := st
    cases cur with
    | none => simp [runStep] at h; rw [h.2]
    | some r =>
      obtain ⟨f', l'⟩ := r
      simp only [runStep] at h
      split at h
      · simp at h; rw [h.2]
      · simp at h; rw [h.2]
/-- Bytes are below 256, and go up. -/
theorem bytesOf_lt (s : BitVec 256) (x : Nat) (h : x ∈ bytesOf s) : x < 256 := by
  rw [bytesOf_filter] at h; have := (List.mem_filter.1 h).1; simpa using this
theorem bytesOf_up (s : BitVec 256) : (bytesOf s).Pairwise (· < ·) := by
  rw [bytesOf_filter]; exact List.Pairwise.filter _ List.pairwise_lt_range
theorem bytes_next (s : BitVec 256) (q : List Nat) (l x : Nat) (h : q ++ [l] ++ [x] <+: bytesOf s) : l < x ∧ x < 256 := by
  have hp := (bytesOf_up s).sublist h.sublist
  have hx : x ∈ bytesOf s := h.subset (by simp)
  refine ⟨?_, bytesOf_lt s x hx⟩
  rw [List.pairwise_append] at hp
  exact hp.2.2 l (by simp) x (by simp)
theorem bytes_prefix_lt (s : BitVec 256) (pre : List Nat) (x : Nat) (h : pre ++ [x] <+: bytesOf s) : x < 256 := bytesOf_lt s x (h.subset (by simp))

end Go.Proofs.YtjcfnmjjkadaeaaGreatDoor
/- Contracts: Bytes, Runs, Least; the iterator that Runs hands out. -/
namespace Go.Proofs.YtjcfnmjjkadaeaaGreatDoor
set_option maxRecDepth 100000
open Go.RowKit Go.Shelf
attribute [local go_sem] Oper.semAt_some

set_option maxHeartbeats 400000 in
theorem bytes_any (s : BitVec 256) (w : World) :
    Calls Tryz.prog 115 #[SV s] w fun e w' => e = .returned (.func (.func 137) #[] #[.pointer (some ⟨w.heap.size, 0, none⟩)]) ∧ w' = w.alloc (.cells (WS s) 89) := by
  go_enter Tryz.func115, Tryz.ntmps115
  go_wp2
  go_ret
  exact ⟨rfl, rfl⟩
set_option maxHeartbeats 400000 in
theorem runs_any (s : BitVec 256) (w : World) :
    Calls Tryz.prog 134 #[SV s] w fun e w' => e = .returned (.func (.func 158) #[] #[.pointer (some ⟨w.heap.size, 0, none⟩)]) ∧ w' = w.alloc (.cells (WS s) 89) := by
  go_enter Tryz.func134, Tryz.ntmps134
  go_wp2
  go_ret
  exact ⟨rfl, rfl⟩

theorem enters_bytes : ∀ args w, (callFunc 137 args).run Tryz.prog w = .ok (.enter 137 args) w := enters_of Tryz.func137 (by kernel_rfl) rfl

/-- The least of some bytes that go up. -/
def leastV (l : List Nat) : Value := .tuple #[.int .u8 (l.headD 0), .bool (!l.isEmpty)]

set_option maxRecDepth 100000 in
set_option maxHeartbeats 1000000 in
theorem least_in (s : BitVec 256) (w : World) (hT : TabAt w) :
    CallsIn Fence.wide 0 Tryz.prog 81 #[SV s] w fun e w' => e = .returned (leastV (bytesOf s)) ∧ Below w.heap.size w w' ∧ w.drawn ≤ w'.drawn := by
  refine callsIn_of_wp_marks Tryz.func81 rfl trivial ?_ rfl
  simp only [Tryz.ntmps81, List.size_toArray, List.length_cons, List.length_nil, Nat.reduceAdd, Nat.reduceSub, Array.replicate_succ, Array.replicate_zero, List.push_toArray, List.append_toArray, List.nil_append, List.cons_append]
  gi_wp2_with fail
  refine ⟨trivial, rfl, ?_⟩
  refine (callsIn_wide.2 (bytes_any s _)).mono ?_
  rintro e w1 ⟨rfl, rfl⟩
  gi_wp2
  refine wpIn_world (fun W => Blk W (w.heap.size + 1) #[.int .u8 0] 5 ∧ Blk W (w.heap.size + 2) #[.bool false] 4 ∧ Blk W (w.heap.size + 3) (WS s) 89 ∧ Below w.heap.size w W ∧ w.drawn ≤ W.drawn) ⟨?_, ?_, ?_, ?_, Nat.le_refl _⟩ ?_
  · exact ((Blk.newAt (by simp) _ _).alloc _).alloc _
  · exact (Blk.newAt (by simp) _ _).alloc _
  · exact Blk.newAt (by simp) _ _
  · exact ((((Below.refl _ _).alloc (Nat.le_refl _) _).alloc (by simp) _).alloc (by simp; omega) _).alloc (by simp; omega) _
  rintro W0 ⟨k1, k2, k3, hbel, hdr⟩
  have z1 := k1.lt; have z2 := k2.lt; have z3 := k3.lt
  have hT0 : TabAt W0 := hT.agree (Agree.of_all (K := fun _ => True) hbel) trivial
  have hG : 0 < w.heap.size := World.block_lt_of_cell? _ _ (hT 0 (by omega))
  have HT := hide hT0
  have HB := hide hbel
  clear hT hT0 hbel
  refine wpIn_rangeM (gf := 137) (lb := #[.pointer (some ⟨w.heap.size + 3, 0, none⟩)]) rfl enters_bytes (encs := fun x : Nat => #[.int .u8 x]) (xs := bytesOf s)
    (own := fun k => k = w.heap.size + 3 ∨ k = 0)
    (fun W1 hb => bytes1_any s _ W1 (k3.below hb z3) (HT.out.agree (Agree.of_all (K := fun _ => True) hb) trivial)) (fun _ => rfl)
    (fun pre M W => pre = [] ∧ M (w.heap.size + 1) ∧ M (w.heap.size + 2) ∧ Blk W (w.heap.size + 1) #[.int .u8 0] 5 ∧ Blk W (w.heap.size + 2) #[.bool false] 4)
    (fun c pre M W => c = .ret ∧ ∃ x, pre = [x] ∧ Blk W (w.heap.size + 1) #[.int .u8 (x : Nat)] 5 ∧ Blk W (w.heap.size + 2) #[.bool true] 4 ∧ M (w.heap.size + 1) ∧ M (w.heap.size + 2))
    (fun _ M A B h ha => ⟨h.1, h.2.1, h.2.2.1, h.2.2.2.1.agree ha h.2.1, h.2.2.2.2.agree ha h.2.2.1⟩)
    (fun _ _ M A B h ha => by obtain ⟨rfl, x, rfl, b1, b2, m1, m2⟩ := h; exact ⟨rfl, x, rfl, b1.agree ha m1, b2.agree ha m2, m1, m2⟩)
    (fun k => k = w.heap.size + 1 ∨ k = w.heap.size + 2) (fun k hk => by rcases hk with rfl | rfl <;> assumption)
    (fun k hk => by rcases hk with rfl | rfl <;> exact ⟨fun h => by omega, by omega⟩) ⟨rfl, .inl rfl, .inr rfl, k1, k2⟩
    (fun x => { tmps := #[SV s, .pointer (some ⟨w.heap.size, 0, none⟩), .pointer (some ⟨w.heap.size + 1, 0, none⟩), .pointer (some ⟨w.heap.size + 1 + 1, 0, none⟩), .int .u8 x, SV s,
      .func (.func 137) #[] #[.pointer (some ⟨w.heap.size + 1 + 1 + 1, 0, none⟩)], .int .u8 x, undef], defers := [] }) ?assign ?body ?done ?stop
  case assign =>
    intro l x W K hK
    gi_wp2
    exact hK
  case body =>
    rintro l pre x M W hpre ⟨rfl, m1, m2, b1, b2⟩ hM
    have f1 := b1.frozen 0; have f2 := b2.frozen 0
    have g1 := b1.cell 0; have g2 := b2.cell 0
    simp only [List.getElem?_toArray, List.getElem?_cons_zero] at g1 g2
    gi_wp2
    have b3 := (b1.set 0 (.int .u8 x)).setOther ⟨w.heap.size + 1 + 1, 0, none⟩ (.bool true) (by simp)
    have b4 := (b2.setOther ⟨w.heap.size + 1, 0, none⟩ (.int .u8 x) (by simp)).set 0 (.bool true)
    exact ⟨M, Foot.same hM ((Agree.setCell _ _ _ (fun h => h m1)).trans (Agree.setCell _ _ _ (fun h => h m2))), rfl, x, rfl, b3, b4, m1, m2⟩
  case done =>
    rintro D M' W ⟨hnil, m1, m2, b1, b2⟩ hF hD hK hn
    have f1 := b1.frozen 0; have f2 := b2.frozen 0
    have g1 := b1.cell 0; have g2 := b2.cell 0
    simp only [List.getElem?_toArray, List.getElem?_cons_zero] at g1 g2
    have HN := hide hnil
    have HF := hide hF
    have HK := hide hK
    clear hnil hF hK
    gi_wp2
    have e1 := ((b1.set 0 (.int .u8 0)).setOther ⟨w.heap.size + 1 + 1, 0, none⟩ (.bool false) (by simp)).putObj D (.deferred none) (by omega)
    have e2 := ((b2.setOther ⟨w.heap.size + 1, 0, none⟩ (.int .u8 0) (by simp)).set 0 (.bool false)).putObj D (.deferred none) (by omega)
    have q1 := e1.cell 0; have q2 := e2.cell 0
    simp only [List.setIfInBounds_toArray, List.set_cons_zero, List.getElem?_toArray, List.getElem?_cons_zero] at q1 q2
    refine leave_mark (v := leastV (bytesOf s)) ?_ ?_ ⟨rfl, ?_, Nat.le_trans hdr HF.out.agree.drawn⟩
    · rw [Below.heap_setCell _ _ _ _ (by simp; omega), Below.heap_setCell _ _ _ _ (by simp; omega)]; exact HK.out
    · rw [HN.out]; simp [results, Tryz.results81, go_sem, q1, q2, leastV]
    · have hb : Below w.heap.size W0 W := HF.out.agree.below w.heap.size (by omega) (fun k hk h => by omega)
      exact below_put (((HB.out.trans hb).setCell (p := ⟨w.heap.size + 1, 0, none⟩) (by simp) _).setCell (p := ⟨w.heap.size + 1 + 1, 0, none⟩) (by simp; omega) _) (by omega) _
  case stop =>
    rintro D c pre M' W hp ⟨rfl, x, rfl, b1, b2, m1, m2⟩ hF hD hK hn
    have HF := hide hF
    have HK := hide hK
    have HP := hide hp
    clear hF hK hp
    gi_wp2
    have e1 := b1.putObj D (.deferred none) (by omega)
    have e2 := b2.putObj D (.deferred none) (by omega)
    have q1 := e1.cell 0; have q2 := e2.cell 0
    simp only [List.getElem?_toArray, List.getElem?_cons_zero] at q1 q2
    refine leave_mark (v := leastV (bytesOf s)) HK.out ?_ ⟨rfl, ?_, Nat.le_trans hdr HF.out.agree.drawn⟩
    · obtain ⟨q, hq⟩ := HP.out
      rw [← hq]; simp [results, Tryz.results81, go_sem, q1, q2, leastV]
    · have hb : Below w.heap.size W0 W := HF.out.agree.below w.heap.size (by omega) (fun k hk h => by omega)
      exact below_put (HB.out.trans hb) (by omega) _

theorem least_any (s : BitVec 256) (w : World) (hT : TabAt w) :
    Calls Tryz.prog 81 #[SV s] w fun e w' => e = .returned (leastV (bytesOf s)) ∧ Below w.heap.size w w' := callsIn_wide.1 ((least_in s w hT).mono fun _ _ h => ⟨h.1, h.2.1⟩)
theorem least_drawn (s : BitVec 256) (w : World) (hT : TabAt w) :
    Calls Tryz.prog 81 #[SV s] w fun e w' => e = .returned (leastV (bytesOf s)) ∧ Below w.heap.size w w' ∧ w.drawn ≤ w'.drawn := callsIn_wide.1 (least_in s w hT)
end Go.Proofs.YtjcfnmjjkadaeaaGreatDoor
/- Operations within a region that draws its order. -/
namespace Go.Proofs.YtjcfnmjjkadaeaaGreatDoor
set_option maxRecDepth 100000
open Go.RowKit

theorem x_notBool (ρ : Operand → Value) (d : Option Tmp) (x : Operand) (t : TypeId) (pos : String) (af : Array Edge) (g : Option (Nat × Bool)) (u : Bool) (hx : ρ x = .bool u) (w : World) :
    (execOp ρ { dst := d, op := .unOp .not 4 x, type := t, pos := pos, after := af, guard := g }).run Tryz.prog w = .ok (.value (.bool (!u))) w := by
  simp [go_sem, hx]
end Go.Proofs.YtjcfnmjjkadaeaaGreatDoor
/- The quiet walk behind a structure, so that no tactic unfolds a goal with guarded operations. -/
namespace Go.Proofs.YtjcfnmjjkadaeaaGreatDoor
set_option maxRecDepth 100000
open Go.RowKit

structure WQ (ops : Array Oper) (C : World → Prop) (Q : Act → Prop) (l : List Oper) (a : Act) : Prop where
  out : wpQuiet Tryz.prog ops C Q l a

section
variable {C : World → Prop} {ops : Array Oper} {Q : Act → Prop} {a : Act} {o : Oper} {rest : List Oper}
theorem w_skip (hw : Region.wanted o (yielded ops a.tmps) = false) (h : WQ ops C Q rest (a.put o.dst undef)) : WQ ops C Q (o :: rest) a := ⟨q_skip hw h.out⟩
theorem w_value (v : Value) (hw : Region.wanted o (yielded ops a.tmps) = true) (h : ∀ w, C w → (execOp a.eval o).run Tryz.prog w = .ok (.value v) w) (hk : WQ ops C Q rest (a.put o.dst v)) : WQ ops C Q (o :: rest) a :=
  ⟨q_want hw fun _ hK => q_value v h (hK _ hk.out)⟩
theorem w_call (hG : Grows C) (f : FuncId) (vs : Array Value) (v : Value) (hw : Region.wanted o (yielded ops a.tmps) = true) (h : ∀ w, (execOp a.eval o).run Tryz.prog w = .ok (.enter f vs) w)
    (hc : ∀ w, C w → Calls Tryz.prog f vs w fun e w' => e = .returned v ∧ Below w.heap.size w w') (hk : WQ ops C Q rest (a.put o.dst v)) : WQ ops C Q (o :: rest) a :=
  ⟨q_want hw fun _ hK => q_call hG f vs v h hc (hK _ hk.out)⟩
theorem w_nil (h : Q a) : WQ ops C Q [] a := ⟨wpQuiet_nil h⟩
theorem w_lit {id : Nat} {Q' : Exit → Act → World → Prop} {w : World} {l : List Oper} (hm : (Tryz.prog).follows .mixedOrders = true) (hB : Region.lexB .any l.toArray = true) (hC : C { w with drawn := w.drawn + 1 })
    (h : WQ l.toArray C (fun a' => ∀ w', C w' → Q' .normal a' w') l a) : (Code.region id l.toArray true).wp Tryz.prog Q' a w :=
  quiet_lit hm hB hC h.out
end
end Go.Proofs.YtjcfnmjjkadaeaaGreatDoor
/- Moves of a walk through a region that draws its order, whose loads are taken first. -/
namespace Go.Proofs.YtjcfnmjjkadaeaaGreatDoor
set_option maxRecDepth 100000
open Go.RowKit

section
variable {ops : Array Oper} {S : World → Prop} {Q : Exit → Act → World → Prop} {fuel : Nat} {listed : Array Bool} {a : Act} {w : World} {oi : Oper} {rest : List Oper}
theorem at_drop {i : Nat} (hd : ops.toList.drop i = oi :: rest) : ops[i]? = some oi := by
  have h : (ops.toList.drop i)[0]? = some oi := by rw [hd]; rfl
  rw [List.getElem?_drop] at h
  simpa using h
theorem h_take (i : Nat) (v : Value) (hi : ops.toList.drop i = oi :: rest) (hs : Region.noSelect ops = true) (hf : Region.free .any ops listed i = true) (hr : (Region.ready .any ops listed).contains i = true)
    (hw : Region.wanted oi (yielded ops a.tmps) = true) (hv : ∀ w, S w → (execOp a.eval oi).run Tryz.prog w = .ok (.value v) w) (hS : S w)
    (h : wpAnyH Tryz.prog .any ops (NoPanic Q) S fuel (listed.setIfInBounds i true) (a.put oi.dst v) w) : wpAnyH Tryz.prog .any ops (NoPanic Q) S (fuel + 1) listed a w :=
  wpAnyH_take (at_drop hi) hs hf hr (fun _ _ _ h => (h : False).elim) (.inl ⟨hw, hv⟩) hS h
theorem h_step (i : Nat) (w' : World) (hi : ops.toList.drop i = oi :: rest) (hr : Region.ready .any ops listed = [i])
    (hw : Region.wanted oi (yielded ops a.tmps) = true) (hv : (execOp a.eval oi).run Tryz.prog w = .ok .skip w') (hS : S w')
    (h : wpAnyH Tryz.prog .any ops (NoPanic Q) S fuel (listed.setIfInBounds i true) (a.put oi.dst undef) w') : wpAnyH Tryz.prog .any ops (NoPanic Q) S (fuel + 1) listed a w := by
  refine wpAnyH_all hr (by simp) ?_
  intro j hj
  obtain rfl : j = i := by simpa using hj
  unfold wpOp
  simp only [at_drop hi, hw, if_true]
  refine .inl ?_
  unfold Oper.wp
  rw [hv, Oper.upon_skip]
  exact ⟨hS, h⟩
theorem h_alloc (i : Nat) (v : Value) (w' : World) (hi : ops.toList.drop i = oi :: rest) (hr : Region.ready .any ops listed = [i])
    (hw : Region.wanted oi (yielded ops a.tmps) = true) (hv : (execOp a.eval oi).run Tryz.prog w = .ok (.value v) w') (hS : S w')
    (h : wpAnyH Tryz.prog .any ops (NoPanic Q) S fuel (listed.setIfInBounds i true) (a.put oi.dst v) w') : wpAnyH Tryz.prog .any ops (NoPanic Q) S (fuel + 1) listed a w := by
  refine wpAnyH_all hr (by simp) ?_
  intro j hj
  obtain rfl : j = i := by simpa using hj
  unfold wpOp
  simp only [at_drop hi, hw, if_true]
  refine .inl ?_
  unfold Oper.wp
  rw [hv, Oper.upon_value]
  exact ⟨hS, h⟩
end
end Go.Proofs.YtjcfnmjjkadaeaaGreatDoor
/- Contract: the iterator that Runs hands out. -/
namespace Go.Proofs.YtjcfnmjjkadaeaaGreatDoor
set_option maxRecDepth 100000
open Go.RowKit Go.Shelf
attribute [local go_sem] Oper.semAt_some

/-- The cells of the walk through a set's runs: yield; the first and the last byte of the open run; whether one is open. -/
def RunCells (N l : Nat) (cur : Option (Nat × Nat)) (W : World) : Prop :=
  Blk W N #[.func (.yield l) #[] #[]] 211 ∧ Blk W (N + 1) #[.int .u8 ((cur.map Prod.fst).getD 0 : Nat)] 5 ∧ Blk W (N + 2) #[.int .u8 ((cur.map Prod.snd).getD 0 : Nat)] 5 ∧ Blk W (N + 3) #[.bool cur.isSome] 4

theorem RunCells.agree {N l : Nat} {cur : Option (Nat × Nat)} {K : Nat → Prop} {W W' : World} (h : RunCells N l cur W) (ha : Agree K W W') (hk : ∀ k, N ≤ k → k < N + 4 → K k) : RunCells N l cur W' :=
  ⟨h.1.agree ha (hk _ (by omega) (by omega)), h.2.1.agree ha (hk _ (by omega) (by omega)), h.2.2.1.agree ha (hk _ (by omega) (by omega)), h.2.2.2.agree ha (hk _ (by omega) (by omega))⟩

/-- The body's blocks: those of the loop around, and the four cells. -/
structure RunOwn (N : Nat) (Mi Mo : Nat → Prop) : Prop where
  iff : ∀ k, Mi k ↔ Mo k ∨ (N ≤ k ∧ k < N + 4)
  out : ∀ k, N ≤ k → k < N + 5 → ¬ Mo k

theorem RunOwn.foot {N : Nat} {Mi Mo Mo' : Nat → Prop} {W W' : World} (h : RunOwn N Mi Mo) (hf : Foot Mo Mo' W W') (hN : N + 5 ≤ W.heap.size) :
    RunOwn N (fun k => Mo' k ∨ (N ≤ k ∧ k < N + 4)) Mo' ∧ Foot Mi (fun k => Mo' k ∨ (N ≤ k ∧ k < N + 4)) W W' := by
  refine ⟨⟨fun k => Iff.rfl, fun k h1 h2 => hf.out (by omega) (h.out k h1 h2)⟩, fun k hk => ?_, hf.agree.mono fun k _ hk hm => hk ((h.iff k).2 (.inl hm))⟩
  rcases hk with hk | hk
  · obtain ⟨h1, h2⟩ := hf.into k hk
    exact ⟨h1.elim (fun h1 => .inl ((h.iff k).2 (.inl h1))) .inr, h2⟩
  · exact ⟨.inl ((h.iff k).2 (.inr hk)), by have := hf.agree.size; omega⟩

theorem RunCells.opened {N l : Nat} {cur : Option (Nat × Nat)} {W : World} (h : RunCells N l cur W) (x : Nat) :
    RunCells N l (some (x, x)) (((W.setCell ⟨N + 1, 0, none⟩ (.int .u8 x)).setCell ⟨N + 1 + 1, 0, none⟩ (.int .u8 x)).setCell ⟨N + 1 + 1 + 1, 0, none⟩ (.bool true)) := by
  obtain ⟨g0, g1, g2, g3⟩ := h
  exact ⟨((g0.setOther _ _ (by simp)).setOther _ _ (by simp; omega)).setOther _ _ (by simp; omega), ((g1.set 0 _).setOther _ _ (by simp)).setOther _ _ (by simp),
    ((g2.setOther _ _ (by simp)).set 0 _).setOther _ _ (by simp), ((g3.setOther _ _ (by simp)).setOther _ _ (by simp)).set 0 _⟩
theorem RunCells.last {N l f la : Nat} {W : World} (h : RunCells N l (some (f, la)) W) (x : Nat) : RunCells N l (some (f, x)) (W.setCell ⟨N + 1 + 1, 0, none⟩ (.int .u8 x)) := by
  obtain ⟨g0, g1, g2, g3⟩ := h
  exact ⟨g0.setOther _ _ (by simp; omega), g1.setOther _ _ (by simp), g2.set 0 _, g3.setOther _ _ (by simp)⟩

/-- Between two bytes. -/
def RunI (N l : Nat) (J : List (Nat × Nat) → (Nat → Prop) → World → Prop) (pre : List Nat) (Mi : Nat → Prop) (W : World) : Prop :=
  ∃ Mo, RunOwn N Mi Mo ∧ N + 5 ≤ W.heap.size ∧ (∀ k, Mo k → k < W.heap.size) ∧ J (runSt pre).1 Mo W ∧ RunCells N l (runSt pre).2 W
/-- The loop around has been left. -/
def RunIx (N : Nat) (s : BitVec 256) (Jx : List (Nat × Nat) → (Nat → Prop) → World → Prop) (c : Code) (_ : List Nat) (Mi : Nat → Prop) (W : World) : Prop :=
  c = .ret ∧ ∃ Mo em, RunOwn N Mi Mo ∧ em <+: runsOf s ∧ Jx em Mo W

theorem RunI.mk {N l : Nat} {J : List (Nat × Nat) → (Nat → Prop) → World → Prop} {pre : List Nat} {em : List (Nat × Nat)} {cur : Option (Nat × Nat)} {Mi Mo : Nat → Prop} {W : World}
    (hs : runSt pre = (em, cur)) (ho : RunOwn N Mi Mo) (hz : N + 5 ≤ W.heap.size) (hlt : ∀ k, Mo k → k < W.heap.size) (hj : J em Mo W) (hc : RunCells N l cur W) : RunI N l J pre Mi W :=
  ⟨Mo, ho, hz, hlt, by rw [hs]; exact hj, by rw [hs]; exact hc⟩

theorem runFoot {N : Nat} {M Mi Mo : Nat → Prop} {W W0 W1 : World} (hN : W.heap.size = N) (hb : Below N W W0 ∧ W.drawn ≤ W0.drawn) (hF : Foot (fun k => M k ∨ (N ≤ k ∧ k < N + 4)) Mi W0 W1) (ho : RunOwn N Mi Mo) : Foot M Mo W W1 := by
  have hs := hb.1.size
  refine ⟨fun k hk => ?_, ?_⟩
  · obtain ⟨h1, h2⟩ := hF.into k ((ho.iff k).2 (.inl hk))
    refine ⟨?_, h2⟩
    rcases h1 with (h1 | h1) | h1
    · exact .inl h1
    · exact .inr (by omega)
    · exact .inr (by omega)
  · refine (Agree.of_drawn (K := fun k => ¬ M k) (hN ▸ hb.1) hb.2).trans' hF.agree fun k hk hn h => ?_
    rcases h with h | h
    · exact hn h
    · omega

set_option maxRecDepth 100000 in
set_option maxHeartbeats 2000000 in
theorem runs1_any (s : BitVec 256) (Bs : Nat) (W : World) (hB : Blk W Bs (WS s) 89) (hT : TabAt W) :
    Iter Tryz.prog 158 #[.pointer (some ⟨Bs, 0, none⟩)] (fun x : Nat × Nat => #[.int .u8 x.1, .int .u8 x.2]) (runsOf s) (fun k => k = Bs ∨ k = 0) W := by
  intro l J Jx M hJ hJx hY hM hown h0
  have c0 := hB.cell 0; have c1 := hB.cell 1; have c2 := hB.cell 2; have c3 := hB.cell 3
  simp only [List.getElem?_toArray, List.getElem?_cons_zero, List.getElem?_cons_succ] at c0 c1 c2 c3
  have hBs := hB.lt
  have hBs1 : Bs < W.heap.size + 1 := by omega
  have hBs2 : Bs < W.heap.size + 1 + 1 := by omega
  have hBs3 : Bs < W.heap.size + 1 + 1 + 1 := by omega
  refine callsIn_of_wp_marks Tryz.func158 rfl trivial ?_ rfl
  simp only [Tryz.ntmps158, List.size_toArray, List.length_cons, List.length_nil, Nat.reduceAdd, Nat.reduceSub, Array.replicate_succ, Array.replicate_zero, List.push_toArray, List.append_toArray, List.nil_append, List.cons_append]
  gi_wp2_with fail
  refine ⟨trivial, rfl, ?_⟩
  refine (callsIn_wide.2 (bytes_any s _)).mono ?_
  rintro e w1 ⟨rfl, rfl⟩
  gi_wp2
  refine wpIn_world (fun W' => RunCells W.heap.size l none W' ∧ Blk W' (W.heap.size + 4) (WS s) 89 ∧ Below W.heap.size W W' ∧ W.drawn ≤ W'.drawn) ⟨⟨?_, ?_, ?_, ?_⟩, ?_, ?_, Nat.le_refl _⟩ ?_
  · exact ((((Blk.newAt (by simp) _ _).alloc _).alloc _).alloc _).alloc _
  · exact (((Blk.newAt (by simp) _ _).alloc _).alloc _).alloc _
  · exact ((Blk.newAt (by simp) _ _).alloc _).alloc _
  · exact (Blk.newAt (by simp) _ _).alloc _
  · exact Blk.newAt (by simp) _ _
  · exact (((((Below.refl _ _).alloc (Nat.le_refl _) _).alloc (by simp) _).alloc (by simp; omega) _).alloc (by simp; omega) _).alloc (by simp; omega) _
  rintro W0 ⟨hcells, k6, hbel⟩
  have z6 := k6.lt
  have hT0 : TabAt W0 := hT.agree (Agree.of_all (K := fun _ => True) hbel.1) trivial
  have hG : 0 < W.heap.size := World.block_lt_of_cell? _ _ (hT 0 (by omega))
  have hMG : ¬ M 0 := hown _ (.inr rfl)
  have HT := hide hT0
  have HB := hide hbel
  have HY := hide hY
  clear hT hT0 hbel c0 c1 c2 c3 hBs hBs1 hBs2 hBs3 hY
  have h00 : J [] M W0 := hJ _ _ _ _ h0 (Agree.of_drawn HB.out.1 HB.out.2)
  generalize hN : W.heap.size = N at *
  refine wpIn_rangeM (gf := 137) (lb := #[.pointer (some ⟨N + 4, 0, none⟩)]) rfl enters_bytes (encs := fun x : Nat => #[.int .u8 x]) (xs := bytesOf s)
    (own := fun k => k = N + 4 ∨ k = 0)
    (fun W1 hb => bytes1_any s _ W1 (k6.below hb z6) (HT.out.agree (Agree.of_all (K := fun _ => True) hb) trivial)) (fun _ => rfl)
    (RunI N l J)
    (RunIx N s Jx)
    (fun _ Mi A B h ha => by
      obtain ⟨Mo, ho, hz, hlt, hj, hc⟩ := h
      exact ⟨Mo, ho, Nat.le_trans hz ha.size, fun k hk => Nat.lt_of_lt_of_le (hlt k hk) ha.size, hJ _ _ _ _ hj (ha.mono fun k _ hk => (ho.iff k).2 (.inl hk)), hc.agree ha fun k h1 h2 => (ho.iff k).2 (.inr ⟨h1, h2⟩)⟩)
    (fun _ _ Mi A B h ha => by
      obtain ⟨rfl, Mo, em, ho, hp, hj⟩ := h
      exact ⟨rfl, Mo, em, ho, hp, hJx _ _ _ _ hj (ha.mono fun k _ hk => (ho.iff k).2 (.inl hk))⟩)
    (fun k => M k ∨ (N ≤ k ∧ k < N + 4)) (fun k hk => by rcases hk with h | h; have := hM k h; omega; omega)
    (fun k hk => by
      rcases hk with rfl | rfl
      · exact ⟨fun h => by rcases h with h | h; have := hM _ h; omega; omega, by omega⟩
      · exact ⟨fun h => by rcases h with h | h; exact hMG h; omega, by omega⟩)
    ⟨M, ⟨fun k => Iff.rfl, fun k h1 h2 hm => by have := hM k hm; omega⟩, by omega, fun k hk => by have := hM k hk; omega, h00, hcells⟩
    (fun x => { tmps := #[.func (.yield l) #[] #[], .pointer (some ⟨Bs, 0, none⟩), .pointer (some ⟨N, 0, none⟩), .pointer (some ⟨N + 1, 0, none⟩), .pointer (some ⟨N + 1 + 1, 0, none⟩), .pointer (some ⟨N + 1 + 1 + 1, 0, none⟩), .int .u8 x,
        SV s, .func (.func 137) #[] #[.pointer (some ⟨N + 1 + 1 + 1 + 1, 0, none⟩)], .int .u8 x,
        undef, undef, undef, undef, undef, undef, undef, undef, undef, undef, undef, undef, undef, undef, undef, undef, undef, undef, undef, undef, undef, undef, undef], defers := [] }) ?assign ?body ?done ?stop
  case assign =>
    intro l x W K hK
    gi_wp2
    exact hK
  case body =>
    rintro l' pre x Mi W1 hpre ⟨Mo, ho, hz, hlt, hj, hc⟩ hMi
    obtain ⟨em, cur, hst⟩ : ∃ em cur, runSt pre = (em, cur) := ⟨_, _, rfl⟩
    have hsn := runSt_snoc pre x
    rw [hst] at hj hc hsn
    have hx := bytes_prefix_lt s pre x hpre
    obtain ⟨g0, g1, g2, g3⟩ := hc
    have m1 : Mi (N + 1) := (ho.iff _).2 (.inr (by omega))
    have m2 : Mi (N + 2) := (ho.iff _).2 (.inr (by omega))
    have m3 : Mi (N + 3) := (ho.iff _).2 (.inr (by omega))
    have f1 := g1.frozen 0; have f2 := g2.frozen 0; have f3 := g3.frozen 0
    have e0 := g0.cell 0; have e1 := g1.cell 0; have e2 := g2.cell 0; have e3 := g3.cell 0
    simp only [List.getElem?_toArray, List.getElem?_cons_zero] at e0 e1 e2 e3
    have HPre := hide hpre
    have HO := hide ho
    have HJ := hide hj
    have HS := hide hst
    have HSN := hide hsn
    clear hpre ho hj hst hsn
    have hcc : RunCells N l cur W1 := ⟨g0, g1, g2, g3⟩
    have HC := hide hcc
    clear hcc
    have hag3 : Agree (fun k => ¬ Mi k) W1 (((W1.setCell ⟨N + 1, 0, none⟩ (.int .u8 x)).setCell ⟨N + 1 + 1, 0, none⟩ (.int .u8 x)).setCell ⟨N + 1 + 1 + 1, 0, none⟩ (.bool true)) :=
      ((Agree.setCell _ _ _ (fun h => h m1)).trans (Agree.setCell _ _ _ (fun h => h m2))).trans (Agree.setCell _ _ _ (fun h => h m3))
    have HA3 := hide hag3
    clear hag3
    cases cur with
    | none =>
      simp only [Option.map_none, Option.getD_none, Option.isSome_none] at e1 e2 e3
      gi_wp2
      refine ⟨fun _ _ => trivial, ?_⟩
      gi_wp2
      exact ⟨Mi, Foot.same hMi HA3.out, RunI.mk HSN.out HO.out (Nat.le_trans hz HA3.out.size) (fun k hk => Nat.lt_of_lt_of_le (hlt k hk) HA3.out.size)
        (hJ _ _ _ _ HJ.out (((Agree.setCell _ _ _ (HO.out.out _ (by simp) (by simp))).trans (Agree.setCell _ _ _ (HO.out.out _ (by simp; omega) (by simp)))).trans (Agree.setCell _ _ _ (HO.out.out _ (by simp; omega) (by simp))))) (HC.out.opened x)⟩
    | some r =>
      obtain ⟨f, la⟩ := r
      simp only [Option.map_some, Option.getD_some, Option.isSome_some] at e1 e2 e3
      obtain ⟨q, hq⟩ := runSt_last pre f la (by rw [HS.out])
      have hnx := HPre.out
      rw [hq] at hnx
      obtain ⟨hl1, hl2⟩ := bytes_next s q la x hnx
      clear hq hnx
      by_cases hb : x = la + 1
      · have hb' : ((x : Int) - (la : Int) == 1) = true := by rw [beq_iff_eq]; omega
        have HB1 := hide hb
        clear hb
        gi_wp2
        have hag : Agree (fun k => ¬ Mi k) W1 (W1.setCell ⟨N + 1 + 1, 0, none⟩ (.int .u8 x)) := Agree.setCell _ _ _ (fun h => h m2)
        refine ⟨Mi, Foot.same hMi hag, RunI.mk (cur := some (f, x)) (em := em) ?_ HO.out (Nat.le_trans hz hag.size) (fun k hk => Nat.lt_of_lt_of_le (hlt k hk) hag.size)
          (hJ _ _ _ _ HJ.out (Agree.setCell _ _ _ (HO.out.out _ (by simp; omega) (by simp)))) (HC.out.last x)⟩
        rw [HSN.out]; simp only [runStep]; rw [if_pos HB1.out]
      · have hb' : ((x : Int) - (la : Int) == 1) = false := by rw [beq_eq_false_iff_ne]; omega
        have HB1 := hide hb
        clear hb
        have hsn2 : runSt (pre ++ [x]) = (em ++ [(f, la)], some (x, x)) := by rw [HSN.out]; simp only [runStep]; rw [if_neg HB1.out]
        have hem : em ++ [(f, la)] <+: runsOf s := by
          have := runSt_prefix HPre.out
          rw [hsn2] at this
          exact this
        obtain ⟨fn, tmps, assign, body, hyy, hR⟩ := HY.out em (f, la) Mo W1 hem HJ.out hlt
        have HR := hide hR
        have HE := hide hem
        have HS2 := hide hsn2
        clear hR hem hsn2
        gi_wp2
        refine ⟨rfl, ?_⟩
        refine RoundIn.mono (F := Fence.wide) HR.out ?_
        rintro e W3 ⟨M3, hF3, ⟨rfl, hJ3⟩ | ⟨rfl, hJx3⟩⟩
        · obtain ⟨ho3, hFi⟩ := HO.out.foot hF3 hz
          have hc3 : RunCells N l (some (f, la)) W3 := HC.out.agree hF3.agree (fun k h1 h2 => HO.out.out k h1 (by omega))
          have HC3 := hide hc3
          have HF3 := hide hF3
          have HJ3 := hide hJ3
          obtain ⟨g0, g1, g2, g3⟩ := hc3
          have f1 := g1.frozen 0; have f2 := g2.frozen 0; have f3 := g3.frozen 0
          have e1 := g1.cell 0; have e2 := g2.cell 0; have e3 := g3.cell 0
          simp only [List.getElem?_toArray, List.getElem?_cons_zero] at e1 e2 e3
          have hz3 : N + 5 ≤ W3.heap.size := Nat.le_trans hz hF3.agree.size
          have HO3 := hide ho3
          have HFi := hide hFi
          clear hF3 hJ3 ho3 hFi
          gi_wp2
          have hag : ∀ K : Nat → Prop, ¬ K (N + 1) → ¬ K (N + 2) → ¬ K (N + 3) → Agree K W3 (((W3.setCell ⟨N + 1, 0, none⟩ (.int .u8 x)).setCell ⟨N + 1 + 1, 0, none⟩ (.int .u8 x)).setCell ⟨N + 1 + 1 + 1, 0, none⟩ (.bool true)) :=
            fun K k1 k2 k3 => ((Agree.setCell _ _ _ k1).trans (Agree.setCell _ _ _ k2)).trans (Agree.setCell _ _ _ k3)
          have hm : ∀ k, N ≤ k → k < N + 4 → (M3 k ∨ (N ≤ k ∧ k < N + 4)) := fun k h1 h2 => .inr ⟨h1, h2⟩
          have hag2 := hag (fun k => ¬ (M3 k ∨ (N ≤ k ∧ k < N + 4))) (fun h => h (hm _ (by omega) (by omega))) (fun h => h (hm _ (by omega) (by omega))) (fun h => h (hm _ (by omega) (by omega)))
          exact ⟨_, HFi.out.trans (Foot.same HFi.out.lt hag2), RunI.mk HS2.out HO3.out (Nat.le_trans hz3 hag2.size) (fun k hk => Nat.lt_of_lt_of_le (HF3.out.lt k hk) hag2.size)
            (hJ _ _ _ _ HJ3.out (hag M3 (HO3.out.out _ (by omega) (by omega)) (HO3.out.out _ (by omega) (by omega)) (HO3.out.out _ (by omega) (by omega)))) (HC3.out.opened x)⟩
        · obtain ⟨ho3, hFi⟩ := HO.out.foot hF3 hz
          have HO3 := hide ho3
          have HFi := hide hFi
          have HJ3 := hide hJx3
          clear hF3 hJx3 ho3 hFi
          gi_wp2
          exact ⟨_, HFi.out, rfl, M3, _, HO3.out, HE.out, HJ3.out⟩
  case done =>
    rintro D Mi W1 ⟨Mo, ho, hz, hlt, hj, hc⟩ hF hD hK hn
    obtain ⟨em, cur, hst⟩ : ∃ em cur, runSt (bytesOf s) = (em, cur) := ⟨_, _, rfl⟩
    have hrs : runsOf s = em ++ cur.toList := by unfold runsOf runsL; rw [hst]
    rw [hst] at hj hc
    have HF := hide hF
    have HK := hide hK
    have HO := hide ho
    have HJ := hide hj
    have HRS := hide hrs
    have HC := hide hc
    obtain ⟨g0, g1, g2, g3⟩ := hc
    have e0 := g0.cell 0; have e1 := g1.cell 0; have e2 := g2.cell 0; have e3 := g3.cell 0
    simp only [List.getElem?_toArray, List.getElem?_cons_zero] at e0 e1 e2 e3
    clear hF hK ho hj hrs hst g0 g1 g2 g3
    cases cur with
    | none =>
      simp only [Option.map_none, Option.getD_none, Option.isSome_none] at e1 e2 e3
      gi_wp2
      refine leave_mark_end HK.out (results_none rfl _ _ _) ⟨⟨_, rfl⟩, Mo, (runFoot hN HB.out HF.out HO.out).put (by have := HB.out.1.size; omega) _, .inl ?_⟩
      rw [HRS.out, Option.toList_none, List.append_nil]
      exact hJ _ _ _ _ HJ.out (Agree.putObj _ _ _ (fun h => hn ((HO.out.iff _).2 (.inl h))))
    | some r =>
      obtain ⟨f, la⟩ := r
      simp only [Option.map_some, Option.getD_some, Option.isSome_some] at e1 e2 e3
      have hem : em ++ [(f, la)] <+: runsOf s := by rw [HRS.out]; exact List.prefix_rfl
      obtain ⟨fn, tmps, assign, body, hyy, hR⟩ := HY.out em (f, la) Mo W1 hem HJ.out hlt
      have HR := hide hR
      clear hR hem
      gi_wp2
      refine ⟨rfl, ?_⟩
      refine RoundIn.mono (F := Fence.wide) HR.out ?_
      rintro e W3 ⟨M3, hF3, ⟨rfl, hJ3⟩ | ⟨rfl, hJx3⟩⟩
      · have HF3 := hide hF3
        have HJ3 := hide hJ3
        clear hF3 hJ3
        gi_wp2
        have hD1 : D < W1.heap.size := (Array.getElem?_eq_some_iff.1 HK.out).1
        have hMoD : ¬ Mo D := fun h => hn ((HO.out.iff _).2 (.inl h))
        refine leave_mark_end ((HF3.out.agree.block D hD1 hMoD).trans HK.out) (results_none rfl _ _ _) ⟨⟨_, rfl⟩, M3, ((runFoot hN HB.out HF.out HO.out).trans HF3.out).put (by have := HB.out.1.size; omega) _, .inl ?_⟩
        rw [HRS.out]
        exact hJ _ _ _ _ HJ3.out (Agree.putObj _ _ _ (HF3.out.out hD1 hMoD))
      · have HF3 := hide hF3
        have HJ3 := hide hJx3
        clear hF3 hJx3
        gi_wp2
        have hD1 : D < W1.heap.size := (Array.getElem?_eq_some_iff.1 HK.out).1
        have hMoD : ¬ Mo D := fun h => hn ((HO.out.iff _).2 (.inl h))
        refine leave_mark_end ((HF3.out.agree.block D hD1 hMoD).trans HK.out) (results_none rfl _ _ _) ⟨⟨_, rfl⟩, M3, ((runFoot hN HB.out HF.out HO.out).trans HF3.out).put (by have := HB.out.1.size; omega) _, .inr ⟨_, ?_, hJx _ _ _ _ HJ3.out (Agree.putObj _ _ _ (HF3.out.out hD1 hMoD))⟩⟩
        rw [HRS.out]; exact List.prefix_rfl
  case stop =>
    rintro D c pre Mi W1 hp ⟨rfl, Mo, em, ho, hem, hjx⟩ hF hD hK hn
    have HF := hide hF
    have HK := hide hK
    have HO := hide ho
    have HJ := hide hjx
    have HE := hide hem
    clear hF hK ho hjx hem hp
    gi_wp2
    exact leave_mark HK.out (results_none rfl _ _ _) ⟨⟨_, rfl⟩, Mo, (runFoot hN HB.out HF.out HO.out).put (by have := HB.out.1.size; omega) _, .inr ⟨em, HE.out, hJx _ _ _ _ HJ.out (Agree.putObj _ _ _ (fun h => hn ((HO.out.iff _).2 (.inl h))))⟩⟩
end Go.Proofs.YtjcfnmjjkadaeaaGreatDoor
