/- Texts of this claim put together: SetD, Quiet. -/
import Derived.Test.YthhfpjehamhcbaaGreatDoorJoinHeap
/- Contracts: Of, From. -/
namespace Go.Proofs.YthhfpjehamhcbaaGreatDoor
set_option maxRecDepth 100000
open Go.RowKit

/-- The set of some bytes. -/
def setOf (l : List Nat) : BitVec 256 := l.foldl (fun s b => s ||| (1#256 <<< b)) 0#256
theorem setOf_snoc (l : List Nat) (x : Nat) : setOf (l ++ [x]) = setOf l ||| (1#256 <<< x) := by simp [setOf]
theorem getLsbD_one_shl (x i : Nat) (hi : i < 256) : (1#256 <<< x).getLsbD i = decide (i = x) := by
  rw [BitVec.getLsbD_shiftLeft, BitVec.getLsbD_one]
  by_cases h : i = x
  · subst h; simp [hi]
  · by_cases h2 : i < x
    · simp [h, h2]
    · have : ¬ i - x = 0 := by omega
      simp [h, this]
theorem setOf_has (l : List Nat) (i : Nat) (hi : i < 256) : (setOf l).getLsbD i = decide (i ∈ l) := by
  have key : ∀ (l : List Nat) (s : BitVec 256), (l.foldl (fun s b => s ||| (1#256 <<< b)) s).getLsbD i = (s.getLsbD i || decide (i ∈ l)) := by
    intro l
    induction l with
    | nil => intro s; simp
    | cons a l ih =>
      intro s
      rw [List.foldl_cons, ih, BitVec.getLsbD_or, getLsbD_one_shl a i hi, Bool.or_assoc]
      congr 1
      by_cases h : i = a <;> simp [h]
  rw [setOf, key]; simp

theorem wd_or_same (s : BitVec 256) (x : Nat) (hx : x < 256) : bits .or .u64 (wd s (x / 64) : Int) (IntKind.u64.wrap (2 ^ (x % 64))) = (wd (s ||| (1#256 <<< x)) (x / 64) : Int) := by
  have e : IntKind.u64.wrap (2 ^ (x % 64)) = (wd (1#256 <<< x) (x / 64) : Int) := by
    have h64 : x % 64 < 64 := by omega
    have h2 : 2 ^ (x % 64) < 2 ^ 64 := Nat.pow_lt_pow_right (by omega) h64
    have e2 : wd (1#256 <<< x) (x / 64) = 2 ^ (x % 64) := by
      apply Nat.eq_of_testBit_eq; intro j
      rw [wd_testBit, Nat.testBit_two_pow]
      by_cases hj : j < 64
      · rw [getLsbD_one_shl x _ (by omega)]
        simp only [hj, decide_true, Bool.true_and]
        congr 1
        apply propext; omega
      · have : ¬ x % 64 = j := by omega
        simp [hj, this]
    rw [e2, IntKind.wrap_u64]
    have : ((2 ^ (x % 64) : Nat) : Int) = (2 : Int) ^ (x % 64) := by rw [Int.natCast_pow]; rfl
    omega
  rw [e, bits_or_wd]
theorem wd_or_other (s : BitVec 256) (x k : Nat) (hk : k < 4) (h : k ≠ x / 64) : wd (s ||| (1#256 <<< x)) k = wd s k := by
  rw [← wd_or]
  have : wd (1#256 <<< x) k = 0 := by
    apply Nat.eq_of_testBit_eq; intro j
    rw [wd_testBit, Nat.zero_testBit]
    by_cases hj : j < 64
    · rw [getLsbD_one_shl x _ (by omega)]
      have : ¬ 64 * k + j = x := by omega
      simp [this]
    · simp [hj]
  rw [this, Nat.or_zero]

/-- The cells of a set. -/
abbrev WS (s : BitVec 256) : Array Value := #[.int .u64 (wd s 0), .int .u64 (wd s 1), .int .u64 (wd s 2), .int .u64 (wd s 3)]
theorem WS_set (s : BitVec 256) (x : Nat) (hx : x < 256) : (WS s).setIfInBounds (x / 64) (.int .u64 (wd (s ||| (1#256 <<< x)) (x / 64))) = WS (s ||| (1#256 <<< x)) := by
  have h4 : x / 64 < 4 := by omega
  generalize hk : x / 64 = k at *
  have ho : ∀ j, j < 4 → j ≠ k → wd (s ||| (1#256 <<< x)) j = wd s j := fun j hj hne => wd_or_other s x j hj (by omega)
  match k, h4 with
  | 0, _ => simp [ho 1, ho 2, ho 3]
  | 1, _ => simp [ho 0, ho 2, ho 3]
  | 2, _ => simp [ho 0, ho 1, ho 3]
  | 3, _ => simp [ho 0, ho 1, ho 2]
theorem WS_get (s : BitVec 256) (k : Nat) (hk : k < 4) : (WS s)[k]? = some (.int .u64 (wd s k)) := by
  have := wd_at s k hk
  simpa using this
theorem WS_zero : (#[.int .u64 0, .int .u64 0, .int .u64 0, .int .u64 0] : Array Value) = WS 0#256 := by simp [WS, wd_zero]

set_option maxHeartbeats 400000 in
theorem of_any (l : List Nat) (hl : ∀ x ∈ l, x < 256) (w : World) (a : Option Addr) (cap : Nat)
    (hc : ∀ k, k < l.length → ∃ b off, a = some ⟨b, off, none⟩ ∧ b < w.heap.size ∧ w.cell? ⟨b, off + k, none⟩ = some (.int .u8 (l.getD k 0))) (hlen : l.length ≤ 1000000) :
    Calls Tryz.prog 22 #[.slice a l.length cap] w fun e w' => e = .returned (SV (setOf l)) ∧ Below w.heap.size w w' := by
  go_enter Tryz.func22, Tryz.ntmps22
  go_wp2
  go_loopw [8] (fun i wr => ∃ k : Nat, k ≤ l.length ∧ i = .int .i64 k ∧ Blk wr (w.heap.size + 1) (WS (setOf (l.take k))) 49 ∧ Blk wr w.heap.size (WS 0#256) 49 ∧ Below w.heap.size w wr) (fun i _ => l.length - (intOf i).toNat)
  case atStart =>
    refine ⟨0, Nat.zero_le _, rfl, ?_, ?_, ?_⟩
    · have := Blk.new (w.alloc (.cells #[.int .u64 0, .int .u64 0, .int .u64 0, .int .u64 0] 49)) #[.int .u64 0, .int .u64 0, .int .u64 0, .int .u64 0] 49
      rw [World.size_alloc] at this
      rw [WS_zero] at this
      simpa [setOf, WS_zero] using this
    · have := (Blk.new w #[.int .u64 0, .int .u64 0, .int .u64 0, .int .u64 0] 49).alloc (.cells #[.int .u64 0, .int .u64 0, .int .u64 0, .int .u64 0] 49)
      rw [WS_zero] at this
      simpa [WS_zero] using this
    · exact ((Below.refl _ _).alloc (Nat.le_refl _) _).alloc (by simp) _
  case round =>
    obtain ⟨k, hk, rfl, hB1, hB0, hbel⟩ := hrel
    by_cases hlt : k < l.length
    · obtain ⟨b, off, rfl, hb, hcell⟩ := hc k hlt
      have hx : l.getD k 0 < 256 := hl _ (by rw [List.getD_eq_getElem?_getD, List.getElem?_eq_getElem hlt]; simp)
      have htake : l.take (k + 1) = l.take k ++ [l.getD k 0] := by
        rw [List.take_succ_eq_append_getElem hlt]; simp [List.getD_eq_getElem?_getD, hlt]
      have hcr : wr.cell? ⟨b, off + k, none⟩ = some (.int .u8 (l.getD k 0)) := (hbel.cell (p := ⟨b, off + k, none⟩) hb).trans hcell
      generalize l.getD k 0 = x at *
      have HT : Hid (l.take (k + 1) = l.take k ++ [x]) := htake
      have HC : Hid (wr.cell? ⟨b, off + k, none⟩ = some (.int .u8 x)) := hcr
      clear htake hc hcell
      generalize hs : setOf (l.take k) = s at *
      have HS : Hid (setOf (l.take k) = s) := hs
      clear hs
      have e1 : ((x : Int) / 64).toNat = x / 64 := by omega
      have e2 : ((x : Int) % 64).toNat = x % 64 := by omega
      have hw := hB1.cell (x / 64)
      rw [WS_get s _ (by omega)] at hw
      have hf := hB1.frozen (x / 64)
      go_wp2
      have hbits := wd_or_same s x hx
      rw [hbits]
      refine ⟨⟨k + 1, by omega, by go_num, ?_, hB0.setOther _ _ (by simp), hbel.setCell (by simp) _⟩, by simp [intOf]; omega⟩
      have h2 := hB1.set (x / 64) (.int .u64 (wd (s ||| (1#256 <<< x)) (x / 64)))
      rw [WS_set s x hx] at h2
      rw [HT.out, setOf_snoc, HS.out]
      exact h2
    · obtain rfl : k = l.length := by omega
      rw [List.take_length] at hB1
      generalize hs : setOf l = s at *
      have HS : Hid (setOf l = s) := hs
      clear hs hc
      have c0 := hB1.cell 0; have c1 := hB1.cell 1; have c2 := hB1.cell 2; have c3 := hB1.cell 3
      have d0 := hB0.cell 0; have d1 := hB0.cell 1; have d2 := hB0.cell 2; have d3 := hB0.cell 3
      have f0 := hB0.frozen 0; have f1 := hB0.frozen 1; have f2 := hB0.frozen 2; have f3 := hB0.frozen 3
      simp only [List.getElem?_toArray, List.getElem?_cons_zero, List.getElem?_cons_succ] at c0 c1 c2 c3 d0 d1 d2 d3
      go_wp2
      refine bodyPost_ret (v := SV s) (by simp [results, Tryz.results22, go_sem, d0, d1, d2, d3]) rfl ⟨by rw [HS.out], ?_⟩
      exact (((hbel.setCell (by simp) _).setCell (by simp) _).setCell (by simp) _).setCell (by simp) _

/-- The bytes from a to b - 1. -/
def span (a b : Nat) : BitVec 256 := setOf (List.range' a (b - a))
theorem span_succ (a b : Nat) (h : a ≤ b) : span a (b + 1) = span a b ||| (1#256 <<< b) := by
  unfold span
  rw [show b + 1 - a = (b - a) + 1 from by omega, List.range'_concat, setOf_snoc, Nat.one_mul, show a + (b - a) = b from by omega]

set_option maxHeartbeats 400000 in
theorem from_any (lo hi : Nat) (h1 : lo < 256) (h2 : hi < 256) (w : World) :
    Calls Tryz.prog 41 #[.int .u8 lo, .int .u8 hi] w fun e w' => e = .returned (SV (span lo (hi + 1))) ∧ Below w.heap.size w w' := by
  go_enter Tryz.func41, Tryz.ntmps41
  go_wp2
  go_loopw [6] (fun i wr => ∃ k : Nat, lo ≤ k ∧ (k ≤ hi + 1 ∨ k = lo) ∧ i = .int .i64 k ∧ Blk wr (w.heap.size + 1) (WS (span lo k)) 49 ∧ Blk wr w.heap.size (WS 0#256) 49 ∧ Below w.heap.size w wr) (fun i _ => 256 - (intOf i).toNat)
  case atStart =>
    refine ⟨lo, Nat.le_refl _, .inr rfl, rfl, ?_, ?_, ?_⟩
    · have := Blk.new (w.alloc (.cells #[.int .u64 0, .int .u64 0, .int .u64 0, .int .u64 0] 49)) #[.int .u64 0, .int .u64 0, .int .u64 0, .int .u64 0] 49
      rw [World.size_alloc] at this
      rw [WS_zero] at this
      simpa [span, setOf, WS_zero] using this
    · have := (Blk.new w #[.int .u64 0, .int .u64 0, .int .u64 0, .int .u64 0] 49).alloc (.cells #[.int .u64 0, .int .u64 0, .int .u64 0, .int .u64 0] 49)
      rw [WS_zero] at this
      simpa [WS_zero] using this
    · exact ((Below.refl _ _).alloc (Nat.le_refl _) _).alloc (by simp) _
  case round =>
    obtain ⟨x, hlo, hor, rfl, hB1, hB0, hbel⟩ := hrel
    have hsp := span_succ lo x hlo
    have HP : Hid (span lo (x + 1) = span lo x ||| (1#256 <<< x)) := hsp
    clear hsp
    by_cases hlt : x ≤ hi
    · generalize hs : span lo x = s at *
      clear hs
      have e1 : ((x : Int) / 64).toNat = x / 64 := by omega
      have e2 : ((x : Int) % 64).toNat = x % 64 := by omega
      have hw := hB1.cell (x / 64)
      rw [WS_get s _ (by omega)] at hw
      have hf := hB1.frozen (x / 64)
      go_wp2
      go_region
      go_wp2
      have hbits := wd_or_same s x (by omega)
      rw [hbits]
      refine ⟨⟨x + 1, by omega, by omega, by go_num, ?_, (hB0.setOther _ _ (by simp)).drew, (hbel.setCell (by simp) _).drew⟩, by simp [intOf]; omega⟩
      have h2 := hB1.set (x / 64) (.int .u64 (wd (s ||| (1#256 <<< x)) (x / 64)))
      rw [WS_set s x (by omega)] at h2
      rw [HP.out]
      exact h2.drew
    · have hend : span lo (hi + 1) = span lo x := by
        rcases hor with h | h
        · rw [show x = hi + 1 from by omega]
        · subst h; unfold span; rw [show hi + 1 - x = 0 from by omega, Nat.sub_self]
      generalize hs : span lo x = s at *
      have HS : Hid (span lo (hi + 1) = s) := hend
      clear hs hend HP
      have c0 := hB1.cell 0; have c1 := hB1.cell 1; have c2 := hB1.cell 2; have c3 := hB1.cell 3
      have d0 := hB0.cell 0; have d1 := hB0.cell 1; have d2 := hB0.cell 2; have d3 := hB0.cell 3
      have f0 := hB0.frozen 0; have f1 := hB0.frozen 1; have f2 := hB0.frozen 2; have f3 := hB0.frozen 3
      simp only [List.getElem?_toArray, List.getElem?_cons_zero, List.getElem?_cons_succ] at c0 c1 c2 c3 d0 d1 d2 d3
      go_wp2
      refine bodyPost_ret (v := SV s) (by simp [results, Tryz.results41, go_sem, d0, d1, d2, d3]) rfl ⟨by rw [HS.out], ?_⟩
      exact (((hbel.setCell (by simp) _).setCell (by simp) _).setCell (by simp) _).setCell (by simp) _

theorem span_has (a b i : Nat) (hi : i < 256) : (span a b).getLsbD i = decide (a ≤ i ∧ i < b) := by
  unfold span
  rw [setOf_has _ _ hi]
  congr 1; rw [List.mem_range'_1]
  apply propext; omega
end Go.Proofs.YthhfpjehamhcbaaGreatDoor
/- A region that draws its order, whose operations make new memory alone: one walk in the text's order serves every order. The class of worlds: C, closed under new memory. -/
namespace Go.Proofs.YthhfpjehamhcbaaGreatDoor
set_option maxRecDepth 100000
open Go.RowKit

/-- A class of worlds that new memory does not leave. -/
def Grows (C : World → Prop) : Prop := ∀ W W', C W → Below W.heap.size W W' → C W'

section
variable {C : World → Prop} {ops : Array Oper} {Q : Act → Prop} {a : Act} {o : Oper} {rest : List Oper} {K : Act → Prop}

theorem q_want (hw : Region.wanted o (yielded ops a.tmps) = true) (h : ∀ K : Act → Prop, (∀ a, wpQuiet Tryz.prog ops C Q rest a → K a) → o.quiet Tryz.prog a C K) : wpQuiet Tryz.prog ops C Q (o :: rest) a :=
  BigFrame.wpQuiet_want hw h
theorem q_skip (hw : Region.wanted o (yielded ops a.tmps) = false) (h : wpQuiet Tryz.prog ops C Q rest (a.put o.dst undef)) : wpQuiet Tryz.prog ops C Q (o :: rest) a :=
  BigFrame.wpQuiet_skip hw h

theorem quiet_lit {id : Nat} {Q' : Exit → Act → World → Prop} {w : World} {l : List Oper} (hm : (Tryz.prog).follows .mixedOrders = true) (hB : Region.lexB .any l.toArray = true) (hC : C { w with drawn := w.drawn + 1 })
    (h : wpQuiet Tryz.prog l.toArray C (fun a' => ∀ w', C w' → Q' .normal a' w') l a) : (Code.region id l.toArray true).wp Tryz.prog Q' a w :=
  wp_region_quiet hm hB hC (by simpa using h)

/-- What an operation yields in every world of the class. -/
theorem q_value (v : Value) (h : ∀ w, C w → (execOp a.eval o).run Tryz.prog w = .ok (.value v) w) (hk : K (a.put o.dst v)) : o.quiet Tryz.prog a C K :=
  ⟨v, fun w hw => by unfold Oper.quietAt; rw [h w hw]; exact ⟨rfl, rfl⟩, hk⟩
theorem q_call (hG : Grows C) (f : FuncId) (vs : Array Value) (v : Value) (h : ∀ w, (execOp a.eval o).run Tryz.prog w = .ok (.enter f vs) w)
    (hc : ∀ w, C w → Calls Tryz.prog f vs w fun e w' => e = .returned v ∧ Below w.heap.size w w') (hk : K (a.put o.dst v)) : o.quiet Tryz.prog a C K :=
  ⟨v, fun w hw => by unfold Oper.quietAt; rw [h w]; exact ⟨rfl, (hc w hw).mono fun e w' ⟨he, hb⟩ => ⟨he, hG w w' hw hb⟩⟩, hk⟩
end

theorem x_loadSet (ρ : Operand → Value) (d : Option Tmp) (k : Tmp) (t : TypeId) (pos : String) (af : Array Edge) (g : Option (Nat × Bool)) (B : Nat) (s : BitVec 256) (hx : ρ (.tmp k) = .pointer (some ⟨B, 0, none⟩)) (w : World) (hB : Blk w B (WS s) 49) :
    (execOp ρ { dst := d, op := .load 49 (.tmp k), type := t, pos := pos, after := af, guard := g }).run Tryz.prog w = .ok (.value (SV s)) w := by
  have c0 := hB.cell 0; have c1 := hB.cell 1; have c2 := hB.cell 2; have c3 := hB.cell 3
  simp only [List.getElem?_toArray, List.getElem?_cons_zero, List.getElem?_cons_succ] at c0 c1 c2 c3
  simp [go_sem, hx, c0, c1, c2, c3]
theorem x_eqSet (ρ : Operand → Value) (d : Option Tmp) (x y : Operand) (t : TypeId) (pos : String) (af : Array Edge) (g : Option (Nat × Bool)) (u v : BitVec 256) (hx : ρ x = SV u) (hy : ρ y = SV v) (w : World) :
    (execOp ρ { dst := d, op := .binOp .eql 49 x y 49, type := t, pos := pos, after := af, guard := g }).run Tryz.prog w = .ok (.value (.bool (u == v))) w := by
  have h := eqSV u v
  simp [go_sem, hx, hy, h]
theorem x_call1 (ρ : Operand → Value) (d : Option Tmp) (f : FuncId) (x : Operand) (t t1 : TypeId) (pos : String) (af : Array Edge) (g : Option (Nat × Bool)) (v : Value) (hx : ρ x = v) (hfn : ρ (.func f) = .func (.func f) #[] #[]) (hf : ∀ args w, (callFunc f args).run Tryz.prog w = .ok (.enter f args) w) (w : World) :
    (execOp ρ { dst := d, op := .call { callee := .value (.func f), args := #[x], argTypes := #[t1] }, type := t, pos := pos, after := af, guard := g }).run Tryz.prog w = .ok (.enter f #[v]) w := by
  simp [go_sem, hfn, hx, hf]
theorem x_call2 (ρ : Operand → Value) (d : Option Tmp) (f : FuncId) (x y : Operand) (t t1 t2 : TypeId) (pos : String) (af : Array Edge) (g : Option (Nat × Bool)) (u v : Value) (hx : ρ x = u) (hy : ρ y = v) (hfn : ρ (.func f) = .func (.func f) #[] #[]) (hf : ∀ args w, (callFunc f args).run Tryz.prog w = .ok (.enter f args) w) (w : World) :
    (execOp ρ { dst := d, op := .call { callee := .value (.func f), args := #[x, y], argTypes := #[t1, t2] }, type := t, pos := pos, after := af, guard := g }).run Tryz.prog w = .ok (.enter f #[u, v]) w := by
  simp [go_sem, hfn, hx, hy, hf]
theorem x_call0 (ρ : Operand → Value) (d : Option Tmp) (f : FuncId) (t : TypeId) (pos : String) (af : Array Edge) (g : Option (Nat × Bool)) (hfn : ρ (.func f) = .func (.func f) #[] #[]) (hf : ∀ args w, (callFunc f args).run Tryz.prog w = .ok (.enter f args) w) (w : World) :
    (execOp ρ { dst := d, op := .call { callee := .value (.func f), args := #[], argTypes := #[] }, type := t, pos := pos, after := af, guard := g }).run Tryz.prog w = .ok (.enter f #[]) w := by
  simp [go_sem, hfn, hf]
theorem x_pick (ρ : Operand → Value) (d : Option Tmp) (c x y : Operand) (t : TypeId) (pos : String) (af : Array Edge) (g : Option (Nat × Bool)) (b : Bool) (u v : Value) (hc : ρ c = .bool b) (hx : ρ x = u) (hy : ρ y = v) (w : World) :
    (execOp ρ { dst := d, op := .pick c x y, type := t, pos := pos, after := af, guard := g }).run Tryz.prog w = .ok (.value (if b then u else v)) w := by
  cases b <;> simp [go_sem, hc, hx, hy]
theorem x_move (ρ : Operand → Value) (d : Option Tmp) (x : Operand) (t : TypeId) (pos : String) (af : Array Edge) (g : Option (Nat × Bool)) (v : Value) (hx : ρ x = v) (w : World) :
    (execOp ρ { dst := d, op := .move x, type := t, pos := pos, after := af, guard := g }).run Tryz.prog w = .ok (.value v) w := by
  simp [go_sem, hx]
theorem x_assign (ρ : Operand → Value) (d : Option Tmp) (x : Operand) (t : TypeId) (pos : String) (af : Array Edge) (g : Option (Nat × Bool)) (v : Value) (hx : ρ x = v) (w : World) :
    (execOp ρ { dst := d, op := .assign x, type := t, pos := pos, after := af, guard := g }).run Tryz.prog w = .ok (.value v) w := by
  simp [go_sem, hx]
theorem x_addInt (ρ : Operand → Value) (d : Option Tmp) (x y : Operand) (t : TypeId) (pos : String) (af : Array Edge) (g : Option (Nat × Bool)) (u v : Int) (hx : ρ x = .int .i64 u) (hy : ρ y = .int .i64 v) (h0 : -9223372036854775808 ≤ u + v) (h1 : u + v ≤ 9223372036854775807) (w : World) :
    (execOp ρ { dst := d, op := .binOp .add 3 x y 3, type := t, pos := pos, after := af, guard := g }).run Tryz.prog w = .ok (.value (.int .i64 (u + v))) w := by
  have e : IntKind.i64.wrap (u + v) = u + v := by rw [IntKind.wrap_i64]; omega
  simp [go_sem, hx, hy, e]
theorem x_eqInt (ρ : Operand → Value) (d : Option Tmp) (x y : Operand) (t : TypeId) (pos : String) (af : Array Edge) (g : Option (Nat × Bool)) (u v : Int) (hx : ρ x = .int .i64 u) (hy : ρ y = .int .i64 v) (w : World) :
    (execOp ρ { dst := d, op := .binOp .eql 3 x y 3, type := t, pos := pos, after := af, guard := g }).run Tryz.prog w = .ok (.value (.bool (u == v))) w := by
  simp [go_sem, hx, hy]
end Go.Proofs.YthhfpjehamhcbaaGreatDoor
