/- General laws: operations of regions, appends, what is kept. -/
import Derived.Test.YtkjmjppmpcnejaaGreatDoorQuiet3
import Derived.Test.YtkjmjppmpcnejaaGreatDoorHeld
import Derived.Test.YtkjmjppmpcnejaaGreatDoorSetG
import Derived.Test.YtkjmjppmpcnejaaGreatDoorRow
import Derived.Test.YtkjmjppmpcnejaaGreatDoorMathNext
import Derived.Test.YtkjmjppmpcnejaaGreatDoorMarks
import Derived.Deep.AppendLies
import Derived.Deep.MidRow
import Derived.Laws.BytesArg
import Derived.BigGuardIn
namespace Go.Proofs.YtkjmjppmpcnejaaGreatDoor
set_option maxRecDepth 100000
open Go.RowKit

def sA : BitVec 256 := setOf [97]
def sAB : BitVec 256 := setOf [97, 98]
def sB : BitVec 256 := setOf [98]

theorem own_below {base e size n : Nat} {v : Value} {xs : List Value} {W W' : World} (h : W.ownsRow base e size v n xs) (hb : Below W.heap.size W W') : W'.ownsRow base e size v n xs := by
  refine ⟨h.1, ?_⟩
  rcases h.2 with h2 | ⟨g, cap, cur, h1, h2, h3, h4⟩
  · exact .inl h2
  · exact .inr ⟨g, cap, cur, h1, h2, (hb.block g (Array.getElem?_eq_some_iff.1 h3).1).trans h3, h4⟩

theorem below_setCells {B : Nat} {a : World} (b : Nat) (hb : B ≤ b) : ∀ (vs : List Value) (o : Nat) {w : World}, Below B a w → Below B a (w.setCells b o vs)
  | [], _, _, h => h
  | _ :: r, _, _, h => below_setCells b hb r _ (h.setCell hb _)
theorem heap_setCells (b k : Nat) (hk : k ≠ b) : ∀ (vs : List Value) (o : Nat) (w : World), (w.setCells b o vs).heap[k]? = w.heap[k]?
  | [], _, _ => rfl
  | _ :: r, _, _ => (heap_setCells b k hk r _ _).trans (Below.heap_setCell _ _ _ _ hk)

theorem range_below {w w' : World} {b : Nat} {cs : List Value} (h : w.rangeAt b 0 cs) (hb : Below w.heap.size w w') (hlt : b < w.heap.size) : w'.rangeAt b 0 cs := fun j v hv => by
  rw [← h j v hv]
  exact World.cell?_of_block (w := w) (hb.block b hlt)
theorem size_setCells (b : Nat) : ∀ (vs : List Value) (o : Nat) (w : World), (w.setCells b o vs).heap.size = w.heap.size
  | [], _, _ => rfl
  | _ :: r, _, _ => (size_setCells b r _ _).trans (by simp [World.setCell])

theorem x_loadAt (ρ : Operand → Value) (d : Option Tmp) (x : Operand) (t : TypeId) (pos : String) (af : Array Edge) (g : Option (Nat × Bool)) (b o : Nat) (s : BitVec 256) (hx : ρ x = .pointer (some ⟨b, o, none⟩)) (w : World) (hB : ∀ j, j < 4 → w.cell? ⟨b, o + j, none⟩ = some (.int .u64 (wd s j))) :
    (execOp ρ { dst := d, op := .load 42 x, type := t, pos := pos, after := af, guard := g }).run Tryz.prog w = .ok (.value (SV s)) w := by
  have c0 := hB 0 (by omega); have c1 := hB 1 (by omega); have c2 := hB 2 (by omega); have c3 := hB 3 (by omega)
  rw [Nat.add_zero] at c0
  simp [go_sem, hx, c0, c1, c2, c3]
theorem x_buildS (ρ : Operand → Value) (d : Option Tmp) (x : Operand) (t : TypeId) (pos : String) (af : Array Edge) (g : Option (Nat × Bool)) (c : Nat) (w : World) (hx : ρ x = .int .u8 c) :
    (execOp ρ { dst := d, op := .buildSlice 61 1 #[(0, x)], type := t, pos := pos, after := af, guard := g }).run Tryz.prog w = .ok (.value (.slice (some ⟨w.heap.size, 0, none⟩) 1 1)) (w.alloc (.cells #[.int .u8 c] 5)) := by
  simp [go_sem, hx]

section
variable {ops : Array Oper} {S : World → Prop} {Q : Exit → Act → World → Prop} {fuel : Nat} {listed : Array Bool} {a : Act} {w : World} {oi : Oper} {rest : List Oper}
/-- Whatever is ready alone. -/
theorem h_oper (i : Nat) (hi : ops.toList.drop i = oi :: rest) (hr : Region.ready .any ops listed = [i]) (hw : Region.wanted oi (yielded ops a.tmps) = true)
    (h : oi.wp Tryz.prog a w (fun a' w' => S w' ∧ wpAnyH Tryz.prog .any ops (NoPanic Q) S fuel (listed.setIfInBounds i true) a' w') (NoPanic Q)) : wpAnyH Tryz.prog .any ops (NoPanic Q) S (fuel + 1) listed a w := by
  refine wpAnyH_all hr (by simp) ?_
  intro j hj
  obtain rfl : j = i := by simpa using hj
  unfold wpOp
  simp only [at_drop hi, hw, if_true]
  exact .inl h
/-- A call that is ready alone, with all that it tells. -/
theorem h_callE (i : Nat) (f : FuncId) (vs : Array Value) (R : Value → World → Prop) (hi : ops.toList.drop i = oi :: rest) (hr : Region.ready .any ops listed = [i])
    (hw : Region.wanted oi (yielded ops a.tmps) = true) (hv : (execOp a.eval oi).run Tryz.prog w = .ok (.enter f vs) w)
    (hc : Calls Tryz.prog f vs w fun e w' => ∃ v, e = .returned v ∧ R v w') (hRS : ∀ v w', R v w' → S w')
    (h : ∀ v w', R v w' → wpAnyH Tryz.prog .any ops (NoPanic Q) S fuel (listed.setIfInBounds i true) (a.put oi.dst v) w') : wpAnyH Tryz.prog .any ops (NoPanic Q) S (fuel + 1) listed a w := by
  refine h_oper i hi hr hw ?_
  unfold Oper.wp
  rw [hv, Oper.upon_enter]
  refine hc.mono ?_
  rintro e w' ⟨v, rfl, hR⟩
  exact ⟨hRS v w' hR, h v w' hR⟩
end

/-- append of whatever lies there, none too. -/
theorem wp_append_at {o : Oper} {a : Act} {w : World} {K : Act → World → Prop} {Q : Exit → Act → World → Prop} (s x : Operand) (t : TypeId)
    (ho : o.op = .call { callee := .builtin .append, args := #[s, x], argTypes := #[t, t] })
    (base : Nat) (e : TypeId) (i : TypeInfo) (z : Value) (size bytes : Nat) (ht : (Tryz.prog).underlying t = some (.slice e)) (hi : (Tryz.prog).info? e = some i) (hz : i.zero = some z)
    (hsize : i.size = size) (hby : i.bytes = bytes) (hzs : z.cells.size = size) (hsz : 0 < size)
    (v : Value) (n : Nat) (xs : List Value) (hs : a.eval s = v) (hown : w.ownsRow base e size v n xs)
    (ad : Addr) (m c : Nat) (news : List Value) (hx : a.eval x = .slice (some ad) m c) (hl : news.length = m * size) (hnews : ∀ j u, news[j]? = some u → w.cell? (ad.add j) = some u) (h1 : ∀ u ∈ news, u.oneCell' = true)
    (h63 : n + m ≤ maxLen) (hbytes : (n + m) * bytes ≤ 140737488355328) (hbase : base ≤ w.heap.size)
    (h : ∀ v' w', w'.ownsRow base e size v' (n + m) (xs ++ news) → w.grownBy w' v.ownBlock → K (a.put o.dst v') w') : o.wp Tryz.prog a w K Q := by
  obtain ⟨v', w', hr, h2, h3, -⟩ := run_append_own_at (P := Tryz.prog) w base t o.type e i z size bytes ht hi hz hsize hby hzs hsz v n xs hown ad m c news hl hnews h1 h63 hbytes hbase
  unfold Oper.wp execOp
  simp only [ho, resolve, invoke, builtin, Sem.run_bind, Sem.run_pure, Result.andThen_ok, List.map_toArray, List.map_cons, List.map_nil, hs, hx, hr]
  exact h v' w' h2 h3
theorem x_neqS (ρ : Operand → Value) (d : Option Tmp) (x y : Operand) (t : TypeId) (pos : String) (af : Array Edge) (g : Option (Nat × Bool)) (u v : BitVec 256) (hx : ρ x = SV u) (hy : ρ y = SV v) (w : World) :
    (execOp ρ { dst := d, op := .binOp .neq 42 x y 42, type := t, pos := pos, after := af, guard := g }).run Tryz.prog w = .ok (.value (.bool (u != v))) w := by
  have h := eqSV u v
  simp [go_sem, hx, hy, h, bne]
theorem below_grown {N : Nat} {w0 W W' : World} {v : Value} {e size n : Nat} {xs : List Value} (h : Below N w0 W) (hg : W.grownBy W' v.ownBlock) (ho : W.ownsRow N e size v n xs) (hN : N ≤ w0.heap.size) : Below N w0 W' := by
  have hne : ∀ k, k < N → some k ≠ v.ownBlock := fun k hk e => by
    rcases ho.2 with ⟨rfl, -⟩ | ⟨g, cap, cur, rfl, h2, -⟩
    · cases e
    · simp [Value.ownBlock] at e; omega
  exact ⟨hg.os.trans h.os, hg.tape.trans h.tape, hg.output.trans h.output, Nat.le_trans h.size hg.size, fun k hk => (hg.block k (by have := h.size; omega) (hne k hk)).trans (h.block k hk)⟩
theorem i64_and255 (n : Int) : bits .and .i64 n 255 = n % 256 := by
  have h15 : (BitVec.ofInt 64 255).toNat = 2 ^ 8 - 1 := by decide
  have key : (BitVec.ofInt 64 n &&& BitVec.ofInt 64 255).toNat = (n % ((2 ^ 64 : Nat) : Int)).toNat % 2 ^ 8 := by
    rw [BitVec.toNat_and, BitVec.toNat_ofInt, h15, Nat.and_two_pow_sub_one_eq_mod]
  show IntKind.i64.wrap ((BitVec.ofInt 64 n &&& BitVec.ofInt 64 255).toNat : Nat) = n % 256
  rw [key, IntKind.wrap_i64]
  omega
theorem and255 (n : Int) : ∃ m : Nat, m < 256 ∧ bits .and .i64 n 255 = (m : Int) := ⟨(n % 256).toNat, by omega, by rw [i64_and255]; omega⟩

/-- The number in a block of one cell. -/
def cellNat (W : World) (b : Nat) : Nat := match W.cell? ⟨b, 0, none⟩ with | some v => (intOf v).toNat | none => 0
theorem cellNat_of {W : World} {b k : Nat} {t : TypeId} (h : Blk W b #[.int .i64 k] t) : cellNat W b = k := by
  unfold cellNat; rw [h.cell]; simp [intOf]
theorem x_loadInt (ρ : Operand → Value) (d : Option Tmp) (x : Operand) (t : TypeId) (pos : String) (af : Array Edge) (g : Option (Nat × Bool)) (b n : Nat) (v : Int) (hx : ρ x = .pointer (some ⟨b, n, none⟩)) (w : World) (hc : w.cell? ⟨b, n, none⟩ = some (.int .i64 v)) :
    (execOp ρ { dst := d, op := .load 3 x, type := t, pos := pos, after := af, guard := g }).run Tryz.prog w = .ok (.value (.int .i64 v)) w := by
  simp [go_sem, hx, hc]
theorem x_neqInt (ρ : Operand → Value) (d : Option Tmp) (x y : Operand) (t : TypeId) (pos : String) (af : Array Edge) (g : Option (Nat × Bool)) (u v : Int) (hx : ρ x = .int .i64 u) (hy : ρ y = .int .i64 v) (w : World) :
    (execOp ρ { dst := d, op := .binOp .neq 3 x y 3, type := t, pos := pos, after := af, guard := g }).run Tryz.prog w = .ok (.value (.bool (u != v))) w := by
  simp [go_sem, hx, hy]
theorem x_min (ρ : Operand → Value) (d : Option Tmp) (x y : Operand) (t : TypeId) (pos : String) (af : Array Edge) (g : Option (Nat × Bool)) (u v : Int) (hx : ρ x = .int .i64 u) (hy : ρ y = .int .i64 v) (w : World) :
    (execOp ρ { dst := d, op := .call { callee := .builtin .min, args := #[x, y], argTypes := #[3, 3] }, type := t, pos := pos, after := af, guard := g }).run Tryz.prog w = .ok (.value (.int .i64 (min u v))) w := by
  simp [go_sem, hx, hy]
  rw [Int.min_def]; split <;> split <;> omega
theorem x_storeBool (ρ : Operand → Value) (d : Option Tmp) (x y : Operand) (t : TypeId) (pos : String) (af : Array Edge) (g : Option (Nat × Bool)) (b : Nat) (v r : Bool) (hx : ρ x = .pointer (some ⟨b, 0, none⟩)) (hy : ρ y = .bool v) (w : World) (hc : Blk w b #[.bool r] 4) :
    (execOp ρ { dst := d, op := .store 4 x y, type := t, pos := pos, after := af, guard := g }).run Tryz.prog w = .ok .skip (w.setCell ⟨b, 0, none⟩ (.bool v)) := by
  have h1 := hc.cell 0; have h2 := hc.frozen 0
  simp only [List.getElem?_toArray, List.getElem?_cons_zero] at h1
  simp [go_sem, hx, hy, h1, h2]
theorem i64_and15 (n : Int) : bits .and .i64 n 15 = n % 16 := by
  have h15 : (BitVec.ofInt 64 15).toNat = 2 ^ 4 - 1 := by decide
  have key : (BitVec.ofInt 64 n &&& BitVec.ofInt 64 15).toNat = (n % ((2 ^ 64 : Nat) : Int)).toNat % 2 ^ 4 := by
    rw [BitVec.toNat_and, BitVec.toNat_ofInt, h15, Nat.and_two_pow_sub_one_eq_mod]
  show IntKind.i64.wrap ((BitVec.ofInt 64 n &&& BitVec.ofInt 64 15).toNat : Nat) = n % 16
  rw [key, IntKind.wrap_i64]
  omega
theorem and15 (n : Int) : ∃ m : Nat, m < 16 ∧ bits .and .i64 n 15 = (m : Int) := ⟨(n % 16).toNat, by omega, by rw [i64_and15]; omega⟩
/-- A range over a function that is left by its own 'break' alone. -/
theorem wpIn_rangeB {P : Program} {α : Type} {g : Operand} {ps : Array Tmp} {assign body : Code} {Q : Exit → Act → World → Prop} {a : Act} {w : World} {id : Nat}
    {gf : Nat} {lb : Array Value} (hg : a.eval g = .func (.func gf) #[] lb) (eg : ∀ args w, (callFunc gf args).run P w = .ok (.enter gf args) w)
    {encs : α → Array Value} {xs : List α} {own : Nat → Prop} (hiter : ∀ W1, Below w.heap.size w W1 → Iter P gf lb encs xs own W1) (hps : ∀ x, (encs x).size = ps.size)
    (I Ix : List α → (Nat → Prop) → World → Prop) (hI : Stable I) (hIx : Stable Ix)
    (M : Nat → Prop) (hM : ∀ k, M k → k < w.heap.size) (hown : ∀ k, own k → ¬ M k ∧ k < w.heap.size) (h0 : I [] M w) (a₁ : α → Act)
    (hassign : ∀ (l : Nat) (x : α) (W : World) (K : Act → World → Prop), K (a₁ x) W →
      assign.wpIn (Fence.wide.inRound l) 0 P (Exit.then K (fun _ _ _ => False)) { tmps := (ps.zip (encs x)).foldl (fun t (p, v) => t.setIfInBounds p v) a.tmps, defers := [] } W)
    (hbody : ∀ (l : Nat) (pre : List α) (x : α) (M : Nat → Prop) (W : World), pre ++ [x] <+: xs → I pre M W → (∀ k, M k → k < W.heap.size) → body.wpIn (Fence.wide.inRound l) 0 P (postM I (fun c pre M W => c = .exit id ∧ Ix pre M W) (pre ++ [x]) M W) (a₁ x) W)
    (hend : ∀ (D : Nat) (M' : Nat → Prop) (W : World), (I xs M' W ∨ ∃ pre, pre <+: xs ∧ Ix pre M' W) → Foot M M' w W → w.heap.size ≤ D → W.heap[D]? = some (.deferred (some [])) → ¬ M' D →
      Q .normal { a with defers := { target := .collected D, args := #[] } :: a.defers } W) :
    (Code.rangeFunc g ps assign body).wpIn Fence.wide 0 P (Exit.inBlock id Q) a w := by
  refine wpIn_rangeM hg eg hiter hps I (fun c pre M W => c = .exit id ∧ Ix pre M W) hI (fun c s M A B h ha => ⟨h.1, hIx _ _ _ _ h.2 ha⟩) M hM hown h0 a₁ hassign hbody ?_ ?_
  · intro D M' W h hF hD hK hn
    exact hend D M' W (.inl h) hF hD hK hn
  · rintro D c pre M' W hp ⟨rfl, h⟩ hF hD hK hn
    refine wpIn_exit ?_
    simp only [Exit.inBlock, if_true]
    exact hend D M' W (.inr ⟨pre, hp, h⟩) hF hD hK hn
theorem cases4 {p q c : Prop} (h1 : p → q → c) (h2 : p → ¬ q → c) (h3 : ¬ p → q → c) (h4 : ¬ p → ¬ q → c) : c := by
  by_cases hp : p
  · by_cases hq : q
    · exact h1 hp hq
    · exact h2 hp hq
  · by_cases hq : q
    · exact h3 hp hq
    · exact h4 hp hq
theorem bytesOf_le (s : BitVec 256) : (bytesOf s).length ≤ 256 := by
  have h2 := List.length_filter_le (fun b => s.getLsbD b) (List.range 256)
  rw [← bytesOf_filter] at h2
  simpa using h2

theorem enters_runs : ∀ args w, (callFunc 105 args).run Tryz.prog w = .ok (.enter 105 args) w := enters_of Tryz.func105 (by kernel_rfl) rfl
/-- The text that the example gathers. -/
def outS (l : List (Nat × Nat)) : ByteArray := ⟨(l.flatMap fun r => [UInt8.ofNat r.1, UInt8.ofNat r.2]).toArray⟩
theorem outS_snoc (l : List (Nat × Nat)) (x : Nat × Nat) : outS (l ++ [x]) = outS l ++ strOfNums [(x.1 : Int), (x.2 : Int)] := by
  apply ByteArray.ext
  simp [outS, strOfNums, ByteArray.data_append]
theorem outS_size (l : List (Nat × Nat)) : (outS l).size = 2 * l.length := by
  induction l with
  | nil => rfl
  | cons a l ih =>
    simp [outS, ByteArray.size] at *
    omega
theorem two_bytes (W : World) (a b : Nat) : (convert 61 9 (.slice (some ⟨W.heap.size, 0, none⟩) 2 2)).run Tryz.prog (W.alloc (.cells #[.int .u8 a, .int .u8 b] 5)) = .ok (.string (strOfNums [(a : Int), (b : Int)])) (W.alloc (.cells #[.int .u8 a, .int .u8 b] 5)) := by
  refine run_convert_bytes_arg _ 61 5 Tryz.underlying61 Tryz.underlying5 _ 0 2 2 [(a : Int), (b : Int)] rfl ?_ 9 Tryz.underlying9
  intro i hi
  rw [(Blk.new W _ _).cell]
  match i, hi with
  | 0, _ => rfl
  | 1, _ => rfl

end Go.Proofs.YtkjmjppmpcnejaaGreatDoor
