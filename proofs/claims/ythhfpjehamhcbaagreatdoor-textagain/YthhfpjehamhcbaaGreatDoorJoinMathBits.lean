/- Texts of this claim put together: Range, MathBits. -/
import Derived.RangeFuncNested
import Derived.RangeFuncBound
import Derived.RangeFuncCalls
import Derived.RangeFuncLeaves
import Derived.Test.YthhfpjehamhcbaaGreatDoorJoinHeap
import Derived.Lib.TrailingZeros
import Derived.Test.YthhfpjehamhcbaaGreatDoorJoinSetA
import Derived.Laws.Bits64b
/- A range over a function, by footprints: the body owns a set M of blocks, the iterator what it lays itself; neither turns what the other owns. -/
namespace Go.Proofs.YthhfpjehamhcbaaGreatDoor
set_option maxRecDepth 100000
open Go.RowKit

/-- Where K holds, W' is as W was; no block has gone. -/
structure Agree (K : Nat → Prop) (W W' : World) : Prop where
  os : W'.os = W.os
  tape : W'.tape = W.tape
  output : W'.output = W.output
  size : W.heap.size ≤ W'.heap.size
  block : ∀ k, k < W.heap.size → K k → W'.heap[k]? = W.heap[k]?
  drawn : W.drawn ≤ W'.drawn
/-- The same of the blocks alone. -/
structure AgreeW (K : Nat → Prop) (W W' : World) : Prop where
  block : ∀ k, k < W.heap.size → K k → W'.heap[k]? = W.heap[k]?
theorem Agree.w {K : Nat → Prop} {A B : World} (h : Agree K A B) : AgreeW K A B := ⟨h.block⟩

theorem Agree.refl (K : Nat → Prop) (W : World) : Agree K W W := ⟨rfl, rfl, rfl, Nat.le_refl _, fun _ _ _ => rfl, Nat.le_refl _⟩
theorem Agree.trans {K : Nat → Prop} {A B C : World} (h : Agree K A B) (k : Agree K B C) : Agree K A C :=
  ⟨k.os.trans h.os, k.tape.trans h.tape, k.output.trans h.output, Nat.le_trans h.size k.size, fun i hi hk => (k.block i (Nat.lt_of_lt_of_le hi h.size) hk).trans (h.block i hi hk), Nat.le_trans h.drawn k.drawn⟩
theorem Agree.trans' {K K' : Nat → Prop} {A B C : World} (h : Agree K A B) (k : Agree K' B C) (hk : ∀ i, i < A.heap.size → K i → K' i) : Agree K A C :=
  ⟨k.os.trans h.os, k.tape.trans h.tape, k.output.trans h.output, Nat.le_trans h.size k.size, fun i hi hi' => (k.block i (Nat.lt_of_lt_of_le hi h.size) (hk i hi hi')).trans (h.block i hi hi'), Nat.le_trans h.drawn k.drawn⟩
theorem Agree.mono {K K' : Nat → Prop} {A B : World} (h : Agree K A B) (hk : ∀ k, k < A.heap.size → K' k → K k) : Agree K' A B :=
  ⟨h.os, h.tape, h.output, h.size, fun i hi hk' => h.block i hi (hk i hi hk'), h.drawn⟩
theorem Agree.alloc (K : Nat → Prop) (W : World) (o : Obj) : Agree K W (W.alloc o) := ⟨rfl, rfl, rfl, by simp, fun k hk _ => Below.heap_alloc _ _ _ hk, Nat.le_refl _⟩
theorem Agree.drew (K : Nat → Prop) (W : World) : Agree K W W.drew := ⟨rfl, rfl, rfl, Nat.le_refl _, fun _ _ _ => rfl, Nat.le_succ _⟩
theorem Agree.setCell {K : Nat → Prop} (W : World) (a : Addr) (v : Value) (h : ¬ K a.block) : Agree K W (W.setCell a v) :=
  ⟨rfl, rfl, rfl, by simp [World.setCell], fun k _ hk => Below.heap_setCell _ _ _ _ (fun e => h (e ▸ hk)), Nat.le_refl _⟩
theorem Agree.putObj {K : Nat → Prop} (W : World) (r : Nat) (o : Obj) (h : ¬ K r) : Agree K W (W.putObj r o) :=
  ⟨rfl, rfl, rfl, by simp, fun k _ hk => World.putObj_heap_other (fun e => h (e ▸ hk)), Nat.le_refl _⟩
theorem Agree.of_all {K : Nat → Prop} {A C : World} (h : Below A.heap.size A C) : AgreeW K A C := ⟨fun k hk _ => h.block k hk⟩
theorem Agree.of_drawn {K : Nat → Prop} {A C : World} (h : Below A.heap.size A C) (hd : A.drawn ≤ C.drawn) : Agree K A C := ⟨h.os, h.tape, h.output, h.size, fun k hk _ => h.block k hk, hd⟩
theorem Agree.below {K : Nat → Prop} {A C : World} (h : Agree K A C) (B : Nat) (hB : B ≤ A.heap.size) (hk : ∀ k, k < B → K k) : Below B A C := ⟨h.os, h.tape, h.output, h.size, fun k hk' => h.block k (by omega) (hk k hk')⟩
theorem Blk.agree {K : Nat → Prop} {w w' : World} {b : Nat} {c : Array Value} {t : TypeId} (h : Blk w b c t) (hb : Agree K w w') (hK : K b) : Blk w' b c t := (hb.block b h.lt hK).trans h

/-- A world under a name, with what is known of it. -/
theorem wpIn_world {F : Fence} {n : Nat} {P : Program} {c : Code} {Q : Exit → Act → World → Prop} {a : Act} {w0 : World} (R : World → Prop) (h : R w0) (k : ∀ w, R w → c.wpIn F n P Q a w) : c.wpIn F n P Q a w0 := k w0 h
theorem wp_world {P : Program} {c : Code} {Q : Exit → Act → World → Prop} {a : Act} {w0 : World} (R : World → Prop) (h : R w0) (k : ∀ w, R w → c.wp P Q a w) : c.wp P Q a w0 := k w0 h

/-- A function that ranged over a function leaves: the block for deferred calls, which is empty, is shut. -/
theorem leave_mark {P : Program} {fn : Func} {R : Ending → World → Prop} {tmps : Array Value} {W : World} {D : Nat} {v : Value} (hK : W.heap[D]? = some (.deferred (some [])))
    (hr : (results fn tmps).run P (W.putObj D (.deferred none)) = .ok v (W.putObj D (.deferred none))) (hR : R (.returned v) (W.putObj D (.deferred none))) :
    bodyPostM Fence.wide 0 P fn R .ret { tmps := tmps, defers := [{ target := .collected D, args := #[] }] } W :=
  ⟨by simp, .inl ⟨_, _, rfl, run_takeDeferred hK, ⟨_, hr, hR⟩⟩⟩
theorem leave_mark_end {P : Program} {fn : Func} {R : Ending → World → Prop} {tmps : Array Value} {W : World} {D : Nat} {v : Value} (hK : W.heap[D]? = some (.deferred (some [])))
    (hr : (results fn tmps).run P (W.putObj D (.deferred none)) = .ok v (W.putObj D (.deferred none))) (hR : R (.returned v) (W.putObj D (.deferred none))) :
    bodyPostM Fence.wide 0 P fn R .normal { tmps := tmps, defers := [{ target := .collected D, args := #[] }] } W :=
  ⟨by simp, .inl ⟨_, _, rfl, run_takeDeferred hK, ⟨_, hr, hR⟩⟩⟩
theorem Blk.putObj {w : World} {b : Nat} {c : Array Value} {t : TypeId} (h : Blk w b c t) (r : Nat) (o : Obj) (hr : b ≠ r) : Blk (w.putObj r o) b c t := (World.putObj_heap_other hr).trans h
theorem below_put {B : Nat} {a w : World} (h : Below B a w) {r : Nat} (hr : B ≤ r) (o : Obj) : Below B a (w.putObj r o) :=
  h.trans ⟨rfl, rfl, rfl, by simp, fun k hk => World.putObj_heap_other (by omega)⟩

/-- What is known of the blocks of M alone. -/
def Stable {α : Type} (J : List α → (Nat → Prop) → World → Prop) : Prop := ∀ s M A B, J s M A → Agree M A B → J s M B

/-- From W to W', M grew to M' by new blocks alone, and nothing outside M has turned. -/
structure Foot (M M' : Nat → Prop) (W W' : World) : Prop where
  into : ∀ k, M' k → (M k ∨ W.heap.size ≤ k) ∧ k < W'.heap.size
  agree : Agree (fun k => ¬ M k) W W'

theorem Foot.refl (M : Nat → Prop) (W : World) (h : ∀ k, M k → k < W.heap.size) : Foot M M W W := ⟨fun k hk => ⟨.inl hk, h k hk⟩, Agree.refl _ _⟩

theorem Foot.same {M : Nat → Prop} {W W' : World} (h : ∀ k, M k → k < W.heap.size) (ha : Agree (fun k => ¬ M k) W W') : Foot M M W W' := ⟨fun k hk => ⟨.inl hk, Nat.lt_of_lt_of_le (h k hk) ha.size⟩, ha⟩
theorem Foot.trans {M M' M'' : Nat → Prop} {A B C : World} (h : Foot M M' A B) (k : Foot M' M'' B C) : Foot M M'' A C := by
  have hs := h.agree.size
  refine ⟨fun i hi => ?_, h.agree.trans' k.agree fun i hi hn hm => ?_⟩
  · obtain ⟨h1, h2⟩ := k.into i hi
    refine ⟨?_, h2⟩
    rcases h1 with h1 | h1
    · exact (h.into i h1).1
    · exact .inr (by omega)
  · rcases (h.into i hm).1 with h1 | h1
    · exact hn h1
    · omega
theorem Foot.lt {M M' : Nat → Prop} {W W' : World} (h : Foot M M' W W') : ∀ k, M' k → k < W'.heap.size := fun k hk => (h.into k hk).2
/-- A block that lay outside M lies outside M' too. -/
theorem Foot.out {M M' : Nat → Prop} {W W' : World} (h : Foot M M' W W') {k : Nat} (hk : k < W.heap.size) (hn : ¬ M k) : ¬ M' k := fun hm => by
  rcases (h.into k hm).1 with h1 | h1
  · exact hn h1
  · omega

theorem Foot.put {M M' : Nat → Prop} {W W' : World} (h : Foot M M' W W') {D : Nat} (hD : W.heap.size ≤ D) (o : Obj) : Foot M M' W (W'.putObj D o) :=
  ⟨fun k hk => by rw [World.putObj_size]; exact h.into k hk, h.agree.os, h.agree.tape, h.agree.output, by rw [World.putObj_size]; exact h.agree.size,
    fun k hk hn => (World.putObj_heap_other (by omega)).trans (h.agree.block k hk hn), h.agree.drawn⟩

/-- The contract of an iterator: it hands xs to its yield, one by one, till it is told to end. own: blocks that the body must leave alone. -/
def Iter {α : Type} (P : Program) (g : Nat) (lb : Array Value) (encs : α → Array Value) (xs : List α) (own : Nat → Prop) (W : World) : Prop :=
  ∀ (l : Nat) (J Jx : List α → (Nat → Prop) → World → Prop) (M : Nat → Prop), Stable J → Stable Jx →
    (∀ pre x M1 W1, pre ++ [x] <+: xs → J pre M1 W1 → (∀ k, M1 k → k < W1.heap.size) → YieldAt Fence.wide 0 P l (encs x) W1 fun e W' =>
      ∃ M', Foot M1 M' W1 W' ∧ ((e = .returned (.bool true) ∧ J (pre ++ [x]) M' W') ∨ (e = .returned (.bool false) ∧ Jx (pre ++ [x]) M' W'))) →
    (∀ k, M k → k < W.heap.size) → (∀ k, own k → ¬ M k) → J [] M W →
    CallsIn Fence.wide 0 P g (#[.func (.yield l) #[] #[]] ++ lb) W fun e W' => (∃ v, e = .returned v) ∧
      ∃ M', Foot M M' W W' ∧ (J xs M' W' ∨ ∃ pre, pre <+: xs ∧ Jx pre M' W')

/-- How the body of a round may be left. -/
def postM {α : Type} (I : List α → (Nat → Prop) → World → Prop) (Ix : Code → List α → (Nat → Prop) → World → Prop) (xs : List α) (M : Nat → Prop) (W : World) : Exit → Act → World → Prop
  | .normal, _, W' => ∃ M', Foot M M' W W' ∧ I xs M' W'
  | .ret, _, W' => ∃ M', Foot M M' W W' ∧ Ix .ret xs M' W'
  | .exit id, _, W' => ∃ M', Foot M M' W W' ∧ Ix (.exit id) xs M' W'
  | .goto t, _, W' => ∃ M', Foot M M' W W' ∧ Ix (.goto t) xs M' W'
  | .panic _, _, _ => False
  | .outgrown, _, _ => False

theorem wpIn_rangeM {P : Program} {α : Type} {g : Operand} {ps : Array Tmp} {assign body : Code} {Q : Exit → Act → World → Prop} {a : Act} {w : World}
    {gf : Nat} {lb : Array Value} (hg : a.eval g = .func (.func gf) #[] lb) (eg : ∀ args w, (callFunc gf args).run P w = .ok (.enter gf args) w)
    {encs : α → Array Value} {xs : List α} {own : Nat → Prop} (hiter : ∀ W1, Below w.heap.size w W1 → Iter P gf lb encs xs own W1) (hps : ∀ x, (encs x).size = ps.size)
    (I : List α → (Nat → Prop) → World → Prop) (Ix : Code → List α → (Nat → Prop) → World → Prop) (hI : Stable I) (hIx : ∀ c, Stable (Ix c))
    (M : Nat → Prop) (hM : ∀ k, M k → k < w.heap.size) (hown : ∀ k, own k → ¬ M k ∧ k < w.heap.size) (h0 : I [] M w) (a₁ : α → Act)
    (hassign : ∀ (l : Nat) (x : α) (W : World) (K : Act → World → Prop), K (a₁ x) W →
      assign.wpIn (Fence.wide.inRound l) 0 P (Exit.then K (fun _ _ _ => False)) { tmps := (ps.zip (encs x)).foldl (fun t (p, v) => t.setIfInBounds p v) a.tmps, defers := [] } W)
    (hbody : ∀ (l : Nat) (pre : List α) (x : α) (M : Nat → Prop) (W : World), pre ++ [x] <+: xs → I pre M W → (∀ k, M k → k < W.heap.size) → body.wpIn (Fence.wide.inRound l) 0 P (postM I Ix (pre ++ [x]) M W) (a₁ x) W)
    (hdone : ∀ (D : Nat) (M' : Nat → Prop) (W : World), I xs M' W → Foot M M' w W → w.heap.size ≤ D → W.heap[D]? = some (.deferred (some [])) → ¬ M' D →
      Q .normal { a with defers := { target := .collected D, args := #[] } :: a.defers } W)
    (hstop : ∀ (D : Nat) (c : Code) (pre : List α) (M' : Nat → Prop) (W : World), pre <+: xs → Ix c pre M' W → Foot M M' w W → w.heap.size ≤ D → W.heap[D]? = some (.deferred (some [])) → ¬ M' D →
      c.wpIn Fence.wide 0 P Q { a with defers := { target := .collected D, args := #[] } :: a.defers } W) :
    (Code.rangeFunc g ps assign body).wpIn Fence.wide 0 P Q a w := by
  refine wpIn_rangeFunc ?_
  intro fn hfn
  obtain ⟨rec, hrec⟩ : ∃ rec : LoopState → Option Code → Loop, rec = fun st pe => { state := st, pending := pe, fn, tmps := a.tmps, params := ps, assign, body, defers := w.heap.size } := ⟨_, rfl⟩
  obtain ⟨W1, hW1⟩ : ∃ W1, (w.alloc (.deferred (some []))).alloc (.loop (rec .ready none)) = W1 := ⟨_, rfl⟩
  have hL1 : W1.heap[w.heap.size + 1]? = some (.loop (rec .ready none)) := by
    rw [← hW1]; have := World.alloc_heap_new (w.alloc (.deferred (some []))) (.loop (rec .ready none)); rwa [World.size_alloc] at this
  have hK1 : W1.heap[w.heap.size]? = some (.deferred (some [])) := by
    rw [← hW1]; exact (Below.heap_alloc _ _ _ (by simp)).trans (World.alloc_heap_new w _)
  have hb1 : Below w.heap.size w W1 := by
    rw [← hW1]; exact ((Below.refl _ w).alloc (Nat.le_refl _) _).alloc (by simp) _
  have hd1 : w.drawn ≤ W1.drawn := by rw [← hW1]; exact Nat.le_refl _
  have hz1 : W1.heap.size = w.heap.size + 2 := by rw [← hW1]; simp
  have hI1 : I [] M W1 := hI _ _ _ _ h0 (Agree.of_drawn hb1 hd1)
  refine ⟨w.heap.size + 1, [{ target := .collected w.heap.size, args := #[] }], W1, { target := .fn (.func gf) lb, args := #[.func (.yield (w.heap.size + 1)) #[] #[]] }, W1, gf,
    #[.func (.yield (w.heap.size + 1)) #[] #[]] ++ lb, W1, ?_, ?_, ?_, ?_, fun h => by simp [Fence.wide] at h, ?_⟩
  · rw [← hW1, hrec]; exact run_enterLoop_outer _ _ _ _ _
  · simp only [resolve, hg]
    simp [go_sem]
  · intro f' _; trivial
  · simp [invoke, go_sem, eg]
  · obtain ⟨l, hl⟩ : ∃ l, l = w.heap.size + 1 := ⟨_, rfl⟩
    obtain ⟨D, hD⟩ : ∃ D, D = w.heap.size := ⟨_, rfl⟩
    rw [← hl] at hL1 ⊢
    rw [← hD] at hK1 ⊢
    have hlD : l ≠ D := by omega
    refine (hiter W1 hb1 l
      (fun pre Mo W => ∃ M', (∀ k, Mo k ↔ M' k ∨ k = l ∨ k = D) ∧ ¬ M' l ∧ ¬ M' D ∧ (∀ k, M' k → k < W.heap.size) ∧ I pre M' W ∧ W.heap[l]? = some (.loop (rec .ready none)) ∧ W.heap[D]? = some (.deferred (some [])))
      (fun pre Mo W => ∃ M', (∀ k, Mo k ↔ M' k ∨ k = l ∨ k = D) ∧ ¬ M' l ∧ ¬ M' D ∧ ∃ c, Ix c pre M' W ∧ W.heap[l]? = some (.loop (rec .done (some c))) ∧ W.heap[D]? = some (.deferred (some [])))
      (fun k => M k ∨ k = l ∨ k = D) ?_ ?_ ?_ ?_ ?_ ?_).mono ?_
    · rintro s Mo A B ⟨M', e, n1, n2, hlt, hi, h1, h2⟩ hag
      have q1 : l < A.heap.size := (Array.getElem?_eq_some_iff.1 h1).1
      have q2 : D < A.heap.size := (Array.getElem?_eq_some_iff.1 h2).1
      exact ⟨M', e, n1, n2, fun k hk => Nat.lt_of_lt_of_le (hlt k hk) hag.size, hI _ _ _ _ hi (hag.mono fun k _ hk => (e k).2 (.inl hk)), (hag.block l q1 ((e l).2 (.inr (.inl rfl)))).trans h1, (hag.block D q2 ((e D).2 (.inr (.inr rfl)))).trans h2⟩
    · rintro s Mo A B ⟨M', e, n1, n2, c, hi, h1, h2⟩ hag
      have q1 : l < A.heap.size := (Array.getElem?_eq_some_iff.1 h1).1
      have q2 : D < A.heap.size := (Array.getElem?_eq_some_iff.1 h2).1
      exact ⟨M', e, n1, n2, c, hIx _ _ _ _ _ hi (hag.mono fun k _ hk => (e k).2 (.inl hk)), (hag.block l q1 ((e l).2 (.inr (.inl rfl)))).trans h1, (hag.block D q2 ((e D).2 (.inr (.inr rfl)))).trans h2⟩
    · -- one round
      rintro pre x Mo W hpre ⟨M', e, n1, n2, hlt, hi, h1, h2⟩ hMo
      have q1 : l < W.heap.size := (Array.getElem?_eq_some_iff.1 h1).1
      have q2 : D < W.heap.size := (Array.getElem?_eq_some_iff.1 h2).1
      have hy := run_yield (P := P) (args := encs x) h1 (by rw [hrec]; exact hps x)
      rw [hrec] at hy
      refine ⟨fn, _, assign, body, hy, roundIn_of_wpIn hfn (hassign _ x W _ ⟨_, run_beginRound h1 (by rw [hrec]), ?_⟩)⟩
      obtain ⟨W2, hW2⟩ : ∃ W2, W.putObj l (.loop { rec .ready none with state := .busy }) = W2 := ⟨_, rfl⟩
      rw [hW2]
      have a2 : Agree M' W W2 := by rw [← hW2]; exact Agree.putObj _ _ _ n1
      have b2 : Agree (fun k => ¬ Mo k) W W2 := by rw [← hW2]; exact Agree.putObj _ _ _ (fun h => h ((e l).2 (.inr (.inl rfl))))
      have z2 : W2.heap.size = W.heap.size := by rw [← hW2]; simp
      have h12 : W2.heap[l]? = some (.loop { rec .ready none with state := .busy }) := by rw [← hW2]; exact World.putObj_heap_same q1
      have h22 : W2.heap[D]? = some (.deferred (some [])) := by rw [← hW2]; exact (World.putObj_heap_other (Ne.symm hlD)).trans h2
      refine wpIn_mono (hbody _ pre x M' W2 hpre (hI _ _ _ _ hi a2) (fun k hk => by rw [z2]; exact hlt k hk)) ?_
      have fin : ∀ (jump : Option Code) (M'' : Nat → Prop) (W3 : World), Foot M' M'' W2 W3 →
          ∃ W4, (Instr.endRound l jump).run P W3 = .ok (.bool jump.isNone) W4 ∧ Agree M'' W3 W4 ∧ W4.heap[l]? = some (.loop (rec (if jump.isNone then .ready else .done) jump)) ∧ W4.heap[D]? = some (.deferred (some [])) ∧
            ¬ M'' l ∧ ¬ M'' D ∧ (∀ k, M'' k → k < W4.heap.size) ∧ Foot Mo (fun k => M'' k ∨ k = l ∨ k = D) W W4 := fun jump M'' W3 hf => by
        have m1 : ¬ M'' l := fun h => by rcases (hf.into l h).1 with h | h; exact n1 h; omega
        have m2 : ¬ M'' D := fun h => by rcases (hf.into D h).1 with h | h; exact n2 h; omega
        have h13 : W3.heap[l]? = some (.loop { rec .ready none with state := .busy }) := (hf.agree.block l (by omega) n1).trans h12
        have h23 : W3.heap[D]? = some (.deferred (some [])) := (hf.agree.block D (by omega) n2).trans h22
        have q3 : l < W3.heap.size := (Array.getElem?_eq_some_iff.1 h13).1
        have q4 : D < W3.heap.size := (Array.getElem?_eq_some_iff.1 h23).1
        have hr := run_endRound (P := P) jump h13
        rw [hrec] at hr
        refine ⟨_, hr, Agree.putObj _ _ _ m1, ?_, (World.putObj_heap_other (Ne.symm hlD)).trans h23, m1, m2, fun k hk => by simp; exact (hf.into k hk).2, ?_, ?_⟩
        · rw [World.putObj_heap_same q3, hrec]
        · intro k hk
          simp only [World.putObj_size]
          rcases hk with hk | rfl | rfl
          · obtain ⟨hk1, hk2⟩ := hf.into k hk
            exact ⟨hk1.elim (fun h => .inl ((e k).2 (.inl h))) (fun h => .inr (by omega)), hk2⟩
          · exact ⟨.inl ((e _).2 (.inr (.inl rfl))), q3⟩
          · exact ⟨.inl ((e _).2 (.inr (.inr rfl))), q4⟩
        · exact (b2.trans (hf.agree.mono fun k _ hk h => hk ((e k).2 (.inl h)))).trans (Agree.putObj _ _ _ (fun h => h ((e l).2 (.inr (.inl rfl)))))
      rintro ex a3 W3 hp
      cases ex with
      | normal =>
        obtain ⟨M'', hf, hi3⟩ := hp
        obtain ⟨W4, hr, hag, hl4, hD4, m1, m2, hlt4, hF⟩ := fin none M'' W3 hf
        exact ⟨_, _, hr, _, hF, .inl ⟨rfl, M'', fun k => Iff.rfl, m1, m2, hlt4, hI _ _ _ _ hi3 hag, hl4, hD4⟩⟩
      | ret =>
        obtain ⟨M'', hf, hi3⟩ := hp
        obtain ⟨W4, hr, hag, hl4, hD4, m1, m2, hlt4, hF⟩ := fin (some .ret) M'' W3 hf
        exact ⟨_, _, hr, _, hF, .inr ⟨rfl, M'', fun k => Iff.rfl, m1, m2, _, hIx _ _ _ _ _ hi3 hag, hl4, hD4⟩⟩
      | exit id =>
        obtain ⟨M'', hf, hi3⟩ := hp
        obtain ⟨W4, hr, hag, hl4, hD4, m1, m2, hlt4, hF⟩ := fin (some (.exit id)) M'' W3 hf
        exact ⟨_, _, hr, _, hF, .inr ⟨rfl, M'', fun k => Iff.rfl, m1, m2, _, hIx _ _ _ _ _ hi3 hag, hl4, hD4⟩⟩
      | goto t =>
        obtain ⟨M'', hf, hi3⟩ := hp
        obtain ⟨W4, hr, hag, hl4, hD4, m1, m2, hlt4, hF⟩ := fin (some (.goto t)) M'' W3 hf
        exact ⟨_, _, hr, _, hF, .inr ⟨rfl, M'', fun k => Iff.rfl, m1, m2, _, hIx _ _ _ _ _ hi3 hag, hl4, hD4⟩⟩
      | panic ch => exact hp.elim
      | outgrown => exact hp.elim
    · rintro k (hk | rfl | rfl)
      · have := hM k hk; omega
      · omega
      · omega
    · intro k hk h
      obtain ⟨o1, o2⟩ := hown k hk
      rcases h with h | h | h
      · exact o1 h
      · omega
      · omega
    · exact ⟨M, fun k => Iff.rfl, fun h => by have := hM _ h; omega, fun h => by have := hM _ h; omega, fun k hk => by have := hM _ hk; omega, hI1, hL1, hK1⟩
    · -- behind the iterator
      rintro e W2 ⟨⟨v, rfl⟩, Mo, hF, hcase⟩
      have out : ∀ (M' : Nat → Prop) (st : LoopState) (pe : Option Code), (∀ k, Mo k ↔ M' k ∨ k = l ∨ k = D) → ¬ M' l → ¬ M' D → W2.heap[l]? = some (.loop (rec st pe)) → st ≠ .busy → W2.heap[D]? = some (.deferred (some [])) →
          ∃ W3, (Instr.endLoop l).run P W2 = .ok pe W3 ∧ Agree M' W2 W3 ∧ Foot M M' w W3 ∧ W3.heap[D]? = some (.deferred (some [])) := fun M' st pe he n1 n2 hl2 hb hD2 => by
        have hr := run_endLoop (P := P) hl2 (by rw [hrec]; exact hb)
        have hp : (rec st pe).pending = pe := by rw [hrec]
        rw [hp] at hr
        refine ⟨_, hr, Agree.putObj _ _ _ n1, ⟨fun k hk => ?_, ?_⟩, (World.putObj_heap_other (Ne.symm hlD)).trans hD2⟩
        · obtain ⟨k1, k2⟩ := hF.into k ((he k).2 (.inl hk))
          refine ⟨?_, by simpa using k2⟩
          rcases k1 with (k1 | k1 | k1) | k1
          · exact .inl k1
          · exact .inr (by omega)
          · exact .inr (by omega)
          · exact .inr (by omega)
        · have c1 : Agree (fun k => ¬ M k) w W1 := Agree.of_drawn hb1 hd1
          have c2 : Agree (fun k => k < w.heap.size ∧ ¬ M k) W1 W2 := hF.agree.mono fun k _ hk h => by
            rcases h with h | h | h
            · exact hk.2 h
            · omega
            · omega
          have c3 : ∀ o, Agree (fun k => k < w.heap.size ∧ ¬ M k) W2 (W2.putObj l o) := fun o => Agree.putObj _ _ _ (fun h => by omega)
          exact (((c1.mono (K' := fun k => k < w.heap.size ∧ ¬ M k) fun k _ hk => hk.2).trans c2).trans (c3 _)).mono fun k hk hn => ⟨hk, hn⟩
      rcases hcase with ⟨M', he, n1, n2, hlt, hi, hl2, hD2⟩ | ⟨pre, hpre, M', he, n1, n2, c, hi, hl2, hD2⟩
      · obtain ⟨W3, hr, hag, hf, hD3⟩ := out M' .ready none he n1 n2 hl2 (by simp) hD2
        exact ⟨none, W3, hr, hdone D M' W3 (hI _ _ _ _ hi hag) hf (by omega) hD3 n2⟩
      · obtain ⟨W3, hr, hag, hf, hD3⟩ := out M' .done (some c) he n1 n2 hl2 (by simp) hD2
        exact ⟨some c, W3, hr, hstop D c pre M' W3 hpre (hIx _ _ _ _ _ hi hag) hf (by omega) hD3 n2⟩

end Go.Proofs.YthhfpjehamhcbaaGreatDoor
/- The bits of a word, the lowest first; the bytes of a set, in order. -/
namespace Go.Proofs.YthhfpjehamhcbaaGreatDoor
set_option maxRecDepth 100000

/-- The lowest bit cut off. -/
theorem cut_low (f x : Nat) (h0 : 0 < x) (h : x < 2 ^ f) (j : Nat) : (x &&& (x - 1)).testBit j = (x.testBit j && !decide (j = Lib.ctzFrom f x)) := by
  obtain ⟨m, hm, _⟩ := Lib.ctzFrom_spec f x h0 h
  generalize Lib.ctzFrom f x = k at *
  have hp : 0 < 2 ^ k := Nat.two_pow_pos k
  have e1 : x = 2 ^ k * (2 * m + 1) + 0 := by omega
  have e2 : x - 1 = 2 ^ k * (2 * m) + (2 ^ k - 1) := by
    rw [hm, Nat.mul_add, Nat.mul_one]; omega
  rw [Nat.testBit_and, e2, Nat.testBit_two_pow_mul_add _ (by omega)]
  conv => lhs; rw [e1, Nat.testBit_two_pow_mul_add _ hp]
  conv => rhs; rw [e1, Nat.testBit_two_pow_mul_add _ hp]
  by_cases hj : j < k
  · simp [hj]
  · simp only [hj, if_false]
    by_cases he : j = k
    · subst he; simp
    · obtain ⟨i, rfl⟩ : ∃ i, j = k + (i + 1) := ⟨j - k - 1, by omega⟩
      have e3 : k + (i + 1) - k = i + 1 := by omega
      rw [e3, Nat.testBit_succ, Nat.testBit_succ, show (2 * m + 1) / 2 = m from by omega, show 2 * m / 2 = m from by omega]
      have hne : (k + (i + 1) = k) = False := by simp
      simp only [hne, decide_false]
      cases m.testBit i <;> rfl
theorem low_bit (f x : Nat) (h0 : 0 < x) (h : x < 2 ^ f) : x.testBit (Lib.ctzFrom f x) = true ∧ ∀ j, j < Lib.ctzFrom f x → x.testBit j = false := by
  obtain ⟨m, hm, _⟩ := Lib.ctzFrom_spec f x h0 h
  generalize Lib.ctzFrom f x = k at *
  have hp : 0 < 2 ^ k := Nat.two_pow_pos k
  have e1 : x = 2 ^ k * (2 * m + 1) + 0 := by omega
  constructor
  · rw [e1, Nat.testBit_two_pow_mul_add _ hp]; simp
  · intro j hj; rw [e1, Nat.testBit_two_pow_mul_add _ hp]; simp [hj]

/-- The places of the bits of x that are 1, of the first 64. -/
def bitsL (x : Nat) : List Nat := (List.range 64).filter fun j => x.testBit j
theorem range_split (n c : Nat) (h : c < n) : List.range n = List.range c ++ c :: List.range' (c + 1) (n - c - 1) := by
  rw [List.range_eq_range', List.range_eq_range', show c :: List.range' (c + 1) (n - c - 1) = List.range' c (n - c) from by
    rw [show n - c = (n - c - 1) + 1 from by omega, List.range'_succ]; simp]
  have := List.range'_append (s := 0) (m := c) (n := n - c) (step := 1)
  rw [Nat.one_mul, Nat.zero_add, show c + (n - c) = n from by omega] at this
  exact this.symm
theorem bitsL_zero : bitsL 0 = [] := by simp [bitsL]
theorem bitsL_step (x : Nat) (h0 : 0 < x) (h : x < 2 ^ 64) : bitsL x = Lib.ctzFrom 64 x :: bitsL (x &&& (x - 1)) := by
  obtain ⟨h1, h2⟩ := low_bit 64 x h0 h
  have h3 := cut_low 64 x h0 h
  obtain ⟨_, _, hk⟩ := Lib.ctzFrom_spec 64 x h0 h
  generalize Lib.ctzFrom 64 x = c at *
  unfold bitsL
  simp only [h3]
  rw [range_split 64 c hk, List.filter_append, List.filter_append, List.filter_cons, List.filter_cons]
  have e1 : (List.range c).filter (fun j => x.testBit j) = [] := by
    rw [List.filter_eq_nil_iff]; intro j hj; rw [h2 j (by simpa using hj)]; simp
  have e2 : (List.range c).filter (fun j => x.testBit j && !decide (j = c)) = [] := by
    rw [List.filter_eq_nil_iff]; intro j hj; rw [h2 j (by simpa using hj)]; simp
  rw [e1, e2]
  simp only [h1, decide_true, Bool.not_true, Bool.and_false, if_true, List.nil_append]
  congr 1
  apply List.filter_congr
  intro j hj
  have : ¬ j = c := by have := List.mem_range'_1.1 hj; omega
  simp [this]
theorem and_pred_lt (x : Nat) (h0 : 0 < x) : x &&& (x - 1) < x := Nat.lt_of_le_of_lt Nat.and_le_right (by omega)

/-- The bytes of word i of a set. -/
def wb (s : BitVec 256) (i : Nat) : List Nat := (bitsL (wd s i)).map (64 * i + ·)
/-- The bytes of the first k words. -/
def upto (s : BitVec 256) : Nat → List Nat
  | 0 => []
  | k + 1 => upto s k ++ wb s k
/-- The bytes of a set, in order. -/
def bytesOf (s : BitVec 256) : List Nat := upto s 4
theorem upto_prefix (s : BitVec 256) (k : Nat) (hk : k ≤ 4) : upto s k <+: bytesOf s := by
  have h1 : ∀ j, upto s j <+: upto s (j + 1) := fun j => ⟨_, rfl⟩
  match k, hk with
  | 0, _ => exact ((h1 0).trans (h1 1)).trans ((h1 2).trans (h1 3))
  | 1, _ => exact (h1 1).trans ((h1 2).trans (h1 3))
  | 2, _ => exact (h1 2).trans (h1 3)
  | 3, _ => exact h1 3
  | 4, _ => exact List.prefix_rfl

theorem upto_filter (s : BitVec 256) (k : Nat) : upto s k = (List.range (64 * k)).filter (fun b => s.getLsbD b) := by
  induction k with
  | zero => rfl
  | succ k ih =>
    rw [upto, ih, show 64 * (k + 1) = 64 * k + 64 from by omega, List.range_add, List.filter_append]
    congr 1
    unfold wb bitsL
    rw [List.filter_map]
    congr 1
    apply List.filter_congr
    intro j hj
    rw [wd_testBit]
    have : j < 64 := by simpa using hj
    simp [this, Function.comp]
theorem bytesOf_filter (s : BitVec 256) : bytesOf s = (List.range 256).filter (fun b => s.getLsbD b) := upto_filter s 4

end Go.Proofs.YthhfpjehamhcbaaGreatDoor
