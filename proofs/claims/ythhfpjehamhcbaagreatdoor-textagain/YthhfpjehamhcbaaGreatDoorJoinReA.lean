/- Texts of this claim put together: Gen, ReA. -/
import Derived.Test.YthhfpjehamhcbaaGreatDoorJoinHeld
import Derived.Test.YthhfpjehamhcbaaGreatDoorJoinRow
import Derived.Test.YthhfpjehamhcbaaGreatDoorJoinMarks
import Derived.Deep.AppendLies
import Derived.Deep.MidRow
import Derived.Laws.BytesArg
import Derived.BigGuardIn
/- General laws: operations of regions, appends, what is kept. -/
namespace Go.Proofs.YthhfpjehamhcbaaGreatDoor
set_option maxRecDepth 100000
open Go.RowKit

def sA : BitVec 256 := setOf [97]
def sAB : BitVec 256 := setOf [97, 98]
def sB : BitVec 256 := setOf [98]

theorem own_below {base e size n : Nat} {v : Value} {xs : List Value} {W W' : World} (h : W.ownsRow base e size v n xs) (hb : Below W.heap.size W W') : W'.ownsRow base e size v n xs := by
  refine ⟨h.1, ?_⟩
  rcases h.2 with h2 | ⟨g, cap, cur, h1, h2, h3, h4⟩
  · exact .inl h2
  · exact .inr ⟨g, cap, cur, h1, h2, (hb.block g (Array.getElem?_eq_some_iff.1 h3).1).trans h3, h4⟩

theorem below_setCells {B : Nat} {a : World} (b : Nat) (hb : B ≤ b) : ∀ (vs : List Value) (o : Nat) {w : World}, Below B a w → Below B a (w.setCells b o vs)
  | [], _, _, h => h
  | _ :: r, _, _, h => below_setCells b hb r _ (h.setCell hb _)
theorem heap_setCells (b k : Nat) (hk : k ≠ b) : ∀ (vs : List Value) (o : Nat) (w : World), (w.setCells b o vs).heap[k]? = w.heap[k]?
  | [], _, _ => rfl
  | _ :: r, _, _ => (heap_setCells b k hk r _ _).trans (Below.heap_setCell _ _ _ _ hk)

theorem range_below {w w' : World} {b : Nat} {cs : List Value} (h : w.rangeAt b 0 cs) (hb : Below w.heap.size w w') (hlt : b < w.heap.size) : w'.rangeAt b 0 cs := fun j v hv => by
  rw [← h j v hv]
  exact World.cell?_of_block (w := w) (hb.block b hlt)
theorem size_setCells (b : Nat) : ∀ (vs : List Value) (o : Nat) (w : World), (w.setCells b o vs).heap.size = w.heap.size
  | [], _, _ => rfl
  | _ :: r, _, _ => (size_setCells b r _ _).trans (by simp [World.setCell])

theorem x_len3 (ρ : Operand → Value) (d : Option Tmp) (x : Operand) (t : TypeId) (pos : String) (af : Array Edge) (g : Option (Nat × Bool)) (a : Option Addr) (n cap : Nat) (hx : ρ x = .slice a n cap) (w : World) :
    (execOp ρ { dst := d, op := .call { callee := .builtin .len, args := #[x], argTypes := #[64] }, type := t, pos := pos, after := af, guard := g }).run Tryz.prog w = .ok (.value (.int .i64 n)) w := by
  simp [go_sem, hx]
theorem x_idxS (ρ : Operand → Value) (d : Option Tmp) (x y : Operand) (t : TypeId) (pos : String) (af : Array Edge) (g : Option (Nat × Bool)) (b off len cap n : Nat) (hx : ρ x = .slice (some ⟨b, off, none⟩) len cap) (hy : ρ y = .int .i64 n) (h1 : n < len) (w : World) :
    (execOp ρ { dst := d, op := .indexAddr 64 x y, type := t, pos := pos, after := af, guard := g }).run Tryz.prog w = .ok (.value (.pointer (some ⟨b, off + n * 4, none⟩))) w := by
  simp [go_sem, hx, hy, h1]
theorem x_loadAt (ρ : Operand → Value) (d : Option Tmp) (x : Operand) (t : TypeId) (pos : String) (af : Array Edge) (g : Option (Nat × Bool)) (b o : Nat) (s : BitVec 256) (hx : ρ x = .pointer (some ⟨b, o, none⟩)) (w : World) (hB : ∀ j, j < 4 → w.cell? ⟨b, o + j, none⟩ = some (.int .u64 (wd s j))) :
    (execOp ρ { dst := d, op := .load 49 x, type := t, pos := pos, after := af, guard := g }).run Tryz.prog w = .ok (.value (SV s)) w := by
  have c0 := hB 0 (by omega); have c1 := hB 1 (by omega); have c2 := hB 2 (by omega); have c3 := hB 3 (by omega)
  rw [Nat.add_zero] at c0
  simp [go_sem, hx, c0, c1, c2, c3]
theorem x_buildS (ρ : Operand → Value) (d : Option Tmp) (x : Operand) (t : TypeId) (pos : String) (af : Array Edge) (g : Option (Nat × Bool)) (c : Nat) (w : World) (hx : ρ x = .int .u8 c) :
    (execOp ρ { dst := d, op := .buildSlice 57 1 #[(0, x)], type := t, pos := pos, after := af, guard := g }).run Tryz.prog w = .ok (.value (.slice (some ⟨w.heap.size, 0, none⟩) 1 1)) (w.alloc (.cells #[.int .u8 c] 5)) := by
  simp [go_sem, hx]

section
variable {ops : Array Oper} {S : World → Prop} {Q : Exit → Act → World → Prop} {fuel : Nat} {listed : Array Bool} {a : Act} {w : World} {oi : Oper} {rest : List Oper}
/-- Whatever is ready alone. -/
theorem h_oper (i : Nat) (hi : ops.toList.drop i = oi :: rest) (hr : Region.ready .any ops listed = [i]) (hw : Region.wanted oi (yielded ops a.tmps) = true)
    (h : oi.wp Tryz.prog a w (fun a' w' => S w' ∧ wpAnyH Tryz.prog .any ops (NoPanic Q) S fuel (listed.setIfInBounds i true) a' w') (NoPanic Q)) : wpAnyH Tryz.prog .any ops (NoPanic Q) S (fuel + 1) listed a w := by
  refine wpAnyH_all hr (by simp) ?_
  intro j hj
  obtain rfl : j = i := by simpa using hj
  unfold wpOp
  simp only [at_drop hi, hw, if_true]
  exact .inl h
/-- A call that is ready alone, with all that it tells. -/
theorem h_callE (i : Nat) (f : FuncId) (vs : Array Value) (R : Value → World → Prop) (hi : ops.toList.drop i = oi :: rest) (hr : Region.ready .any ops listed = [i])
    (hw : Region.wanted oi (yielded ops a.tmps) = true) (hv : (execOp a.eval oi).run Tryz.prog w = .ok (.enter f vs) w)
    (hc : Calls Tryz.prog f vs w fun e w' => ∃ v, e = .returned v ∧ R v w') (hRS : ∀ v w', R v w' → S w')
    (h : ∀ v w', R v w' → wpAnyH Tryz.prog .any ops (NoPanic Q) S fuel (listed.setIfInBounds i true) (a.put oi.dst v) w') : wpAnyH Tryz.prog .any ops (NoPanic Q) S (fuel + 1) listed a w := by
  refine h_oper i hi hr hw ?_
  unfold Oper.wp
  rw [hv, Oper.upon_enter]
  refine hc.mono ?_
  rintro e w' ⟨v, rfl, hR⟩
  exact ⟨hRS v w' hR, h v w' hR⟩
end

/-- append of whatever lies there, none too. -/
theorem wp_append_at {o : Oper} {a : Act} {w : World} {K : Act → World → Prop} {Q : Exit → Act → World → Prop} (s x : Operand) (t : TypeId)
    (ho : o.op = .call { callee := .builtin .append, args := #[s, x], argTypes := #[t, t] })
    (base : Nat) (e : TypeId) (i : TypeInfo) (z : Value) (size bytes : Nat) (ht : (Tryz.prog).underlying t = some (.slice e)) (hi : (Tryz.prog).info? e = some i) (hz : i.zero = some z)
    (hsize : i.size = size) (hby : i.bytes = bytes) (hzs : z.cells.size = size) (hsz : 0 < size)
    (v : Value) (n : Nat) (xs : List Value) (hs : a.eval s = v) (hown : w.ownsRow base e size v n xs)
    (ad : Addr) (m c : Nat) (news : List Value) (hx : a.eval x = .slice (some ad) m c) (hl : news.length = m * size) (hnews : ∀ j u, news[j]? = some u → w.cell? (ad.add j) = some u) (h1 : ∀ u ∈ news, u.oneCell' = true)
    (h63 : n + m ≤ maxLen) (hbytes : (n + m) * bytes ≤ 140737488355328) (hbase : base ≤ w.heap.size)
    (h : ∀ v' w', w'.ownsRow base e size v' (n + m) (xs ++ news) → w.grownBy w' v.ownBlock → K (a.put o.dst v') w') : o.wp Tryz.prog a w K Q := by
  obtain ⟨v', w', hr, h2, h3, -⟩ := run_append_own_at (P := Tryz.prog) w base t o.type e i z size bytes ht hi hz hsize hby hzs hsz v n xs hown ad m c news hl hnews h1 h63 hbytes hbase
  unfold Oper.wp execOp
  simp only [ho, resolve, invoke, builtin, Sem.run_bind, Sem.run_pure, Result.andThen_ok, List.map_toArray, List.map_cons, List.map_nil, hs, hx, hr]
  exact h v' w' h2 h3
theorem x_neqS (ρ : Operand → Value) (d : Option Tmp) (x y : Operand) (t : TypeId) (pos : String) (af : Array Edge) (g : Option (Nat × Bool)) (u v : BitVec 256) (hx : ρ x = SV u) (hy : ρ y = SV v) (w : World) :
    (execOp ρ { dst := d, op := .binOp .neq 49 x y 49, type := t, pos := pos, after := af, guard := g }).run Tryz.prog w = .ok (.value (.bool (u != v))) w := by
  have h := eqSV u v
  simp [go_sem, hx, hy, h, bne]
theorem x_sliceLo (ρ : Operand → Value) (d : Option Tmp) (x y : Operand) (ty : TypeId) (pos : String) (af : Array Edge) (g : Option (Nat × Bool)) (b off len cap t : Nat) (hx : ρ x = .slice (some ⟨b, off, none⟩) len cap) (hy : ρ y = .int .i64 t) (h1 : t < len) (h2 : len ≤ cap) (w : World) :
    (execOp ρ { dst := d, op := .slice 64 x (some y) none none, type := ty, pos := pos, after := af, guard := g }).run Tryz.prog w = .ok (.value (.slice (some ⟨b, off + t * 4, none⟩) (len - t) (cap - t))) w := by
  have e1 : t ≤ len := by omega
  have e2 : ¬ cap = t := by omega
  simp [go_sem, hx, hy, e1, e2]
theorem x_sliceHi (ρ : Operand → Value) (d : Option Tmp) (x y : Operand) (ty : TypeId) (pos : String) (af : Array Edge) (g : Option (Nat × Bool)) (b off len cap t : Nat) (hx : ρ x = .slice (some ⟨b, off, none⟩) len cap) (hy : ρ y = .int .i64 t) (h1 : t < len) (h2 : len ≤ cap) (w : World) :
    (execOp ρ { dst := d, op := .slice 64 x none (some y) none, type := ty, pos := pos, after := af, guard := g }).run Tryz.prog w = .ok (.value (.slice (some ⟨b, off, none⟩) t cap)) w := by
  simp [go_sem, hx, hy]
  omega
theorem x_buildNil (ρ : Operand → Value) (d : Option Tmp) (ty : TypeId) (pos : String) (af : Array Edge) (g : Option (Nat × Bool)) (w : World) :
    (execOp ρ { dst := d, op := .buildSlice 64 0 #[], type := ty, pos := pos, after := af, guard := g }).run Tryz.prog w = .ok (.value (.slice (some ⟨w.heap.size, 0, none⟩) 0 0)) (w.alloc (.cells #[] 49)) := by
  simp [go_sem]
theorem below_grown {N : Nat} {w0 W W' : World} {v : Value} {e size n : Nat} {xs : List Value} (h : Below N w0 W) (hg : W.grownBy W' v.ownBlock) (ho : W.ownsRow N e size v n xs) (hN : N ≤ w0.heap.size) : Below N w0 W' := by
  have hne : ∀ k, k < N → some k ≠ v.ownBlock := fun k hk e => by
    rcases ho.2 with ⟨rfl, -⟩ | ⟨g, cap, cur, rfl, h2, -⟩
    · cases e
    · simp [Value.ownBlock] at e; omega
  exact ⟨hg.os.trans h.os, hg.tape.trans h.tape, hg.output.trans h.output, Nat.le_trans h.size hg.size, fun k hk => (hg.block k (by have := h.size; omega) (hne k hk)).trans (h.block k hk)⟩
theorem i64_and255 (n : Int) : bits .and .i64 n 255 = n % 256 := by
  have h15 : (BitVec.ofInt 64 255).toNat = 2 ^ 8 - 1 := by decide
  have key : (BitVec.ofInt 64 n &&& BitVec.ofInt 64 255).toNat = (n % ((2 ^ 64 : Nat) : Int)).toNat % 2 ^ 8 := by
    rw [BitVec.toNat_and, BitVec.toNat_ofInt, h15, Nat.and_two_pow_sub_one_eq_mod]
  show IntKind.i64.wrap ((BitVec.ofInt 64 n &&& BitVec.ofInt 64 255).toNat : Nat) = n % 256
  rw [key, IntKind.wrap_i64]
  omega
theorem and255 (n : Int) : ∃ m : Nat, m < 256 ∧ bits .and .i64 n 255 = (m : Int) := ⟨(n % 256).toNat, by omega, by rw [i64_and255]; omega⟩

/-- The number in a block of one cell. -/
def cellNat (W : World) (b : Nat) : Nat := match W.cell? ⟨b, 0, none⟩ with | some v => (intOf v).toNat | none => 0
theorem cellNat_of {W : World} {b k : Nat} {t : TypeId} (h : Blk W b #[.int .i64 k] t) : cellNat W b = k := by
  unfold cellNat; rw [h.cell]; simp [intOf]
theorem x_loadInt (ρ : Operand → Value) (d : Option Tmp) (x : Operand) (t : TypeId) (pos : String) (af : Array Edge) (g : Option (Nat × Bool)) (b n : Nat) (v : Int) (hx : ρ x = .pointer (some ⟨b, n, none⟩)) (w : World) (hc : w.cell? ⟨b, n, none⟩ = some (.int .i64 v)) :
    (execOp ρ { dst := d, op := .load 3 x, type := t, pos := pos, after := af, guard := g }).run Tryz.prog w = .ok (.value (.int .i64 v)) w := by
  simp [go_sem, hx, hc]
theorem x_neqInt (ρ : Operand → Value) (d : Option Tmp) (x y : Operand) (t : TypeId) (pos : String) (af : Array Edge) (g : Option (Nat × Bool)) (u v : Int) (hx : ρ x = .int .i64 u) (hy : ρ y = .int .i64 v) (w : World) :
    (execOp ρ { dst := d, op := .binOp .neq 3 x y 3, type := t, pos := pos, after := af, guard := g }).run Tryz.prog w = .ok (.value (.bool (u != v))) w := by
  simp [go_sem, hx, hy]
theorem x_min (ρ : Operand → Value) (d : Option Tmp) (x y : Operand) (t : TypeId) (pos : String) (af : Array Edge) (g : Option (Nat × Bool)) (u v : Int) (hx : ρ x = .int .i64 u) (hy : ρ y = .int .i64 v) (w : World) :
    (execOp ρ { dst := d, op := .call { callee := .builtin .min, args := #[x, y], argTypes := #[3, 3] }, type := t, pos := pos, after := af, guard := g }).run Tryz.prog w = .ok (.value (.int .i64 (min u v))) w := by
  simp [go_sem, hx, hy]
  rw [Int.min_def]; split <;> split <;> omega
theorem x_storeBool (ρ : Operand → Value) (d : Option Tmp) (x y : Operand) (t : TypeId) (pos : String) (af : Array Edge) (g : Option (Nat × Bool)) (b : Nat) (v r : Bool) (hx : ρ x = .pointer (some ⟨b, 0, none⟩)) (hy : ρ y = .bool v) (w : World) (hc : Blk w b #[.bool r] 4) :
    (execOp ρ { dst := d, op := .store 4 x y, type := t, pos := pos, after := af, guard := g }).run Tryz.prog w = .ok .skip (w.setCell ⟨b, 0, none⟩ (.bool v)) := by
  have h1 := hc.cell 0; have h2 := hc.frozen 0
  simp only [List.getElem?_toArray, List.getElem?_cons_zero] at h1
  simp [go_sem, hx, hy, h1, h2]
theorem i64_and15 (n : Int) : bits .and .i64 n 15 = n % 16 := by
  have h15 : (BitVec.ofInt 64 15).toNat = 2 ^ 4 - 1 := by decide
  have key : (BitVec.ofInt 64 n &&& BitVec.ofInt 64 15).toNat = (n % ((2 ^ 64 : Nat) : Int)).toNat % 2 ^ 4 := by
    rw [BitVec.toNat_and, BitVec.toNat_ofInt, h15, Nat.and_two_pow_sub_one_eq_mod]
  show IntKind.i64.wrap ((BitVec.ofInt 64 n &&& BitVec.ofInt 64 15).toNat : Nat) = n % 16
  rw [key, IntKind.wrap_i64]
  omega
theorem and15 (n : Int) : ∃ m : Nat, m < 16 ∧ bits .and .i64 n 15 = (m : Int) := ⟨(n % 16).toNat, by omega, by rw [i64_and15]; omega⟩
/-- A range over a function that is left by its own 'break' alone. -/
theorem wpIn_rangeB {P : Program} {α : Type} {g : Operand} {ps : Array Tmp} {assign body : Code} {Q : Exit → Act → World → Prop} {a : Act} {w : World} {id : Nat}
    {gf : Nat} {lb : Array Value} (hg : a.eval g = .func (.func gf) #[] lb) (eg : ∀ args w, (callFunc gf args).run P w = .ok (.enter gf args) w)
    {encs : α → Array Value} {xs : List α} {own : Nat → Prop} (hiter : ∀ W1, Below w.heap.size w W1 → Iter P gf lb encs xs own W1) (hps : ∀ x, (encs x).size = ps.size)
    (I Ix : List α → (Nat → Prop) → World → Prop) (hI : Stable I) (hIx : Stable Ix)
    (M : Nat → Prop) (hM : ∀ k, M k → k < w.heap.size) (hown : ∀ k, own k → ¬ M k ∧ k < w.heap.size) (h0 : I [] M w) (a₁ : α → Act)
    (hassign : ∀ (l : Nat) (x : α) (W : World) (K : Act → World → Prop), K (a₁ x) W →
      assign.wpIn (Fence.wide.inRound l) 0 P (Exit.then K (fun _ _ _ => False)) { tmps := (ps.zip (encs x)).foldl (fun t (p, v) => t.setIfInBounds p v) a.tmps, defers := [] } W)
    (hbody : ∀ (l : Nat) (pre : List α) (x : α) (M : Nat → Prop) (W : World), pre ++ [x] <+: xs → I pre M W → (∀ k, M k → k < W.heap.size) → body.wpIn (Fence.wide.inRound l) 0 P (postM I (fun c pre M W => c = .exit id ∧ Ix pre M W) (pre ++ [x]) M W) (a₁ x) W)
    (hend : ∀ (D : Nat) (M' : Nat → Prop) (W : World), (I xs M' W ∨ ∃ pre, pre <+: xs ∧ Ix pre M' W) → Foot M M' w W → w.heap.size ≤ D → W.heap[D]? = some (.deferred (some [])) → ¬ M' D →
      Q .normal { a with defers := { target := .collected D, args := #[] } :: a.defers } W) :
    (Code.rangeFunc g ps assign body).wpIn Fence.wide 0 P (Exit.inBlock id Q) a w := by
  refine wpIn_rangeM hg eg hiter hps I (fun c pre M W => c = .exit id ∧ Ix pre M W) hI (fun c s M A B h ha => ⟨h.1, hIx _ _ _ _ h.2 ha⟩) M hM hown h0 a₁ hassign hbody ?_ ?_
  · intro D M' W h hF hD hK hn
    exact hend D M' W (.inl h) hF hD hK hn
  · rintro D c pre M' W hp ⟨rfl, h⟩ hF hD hK hn
    refine wpIn_exit ?_
    simp only [Exit.inBlock, if_true]
    exact hend D M' W (.inr ⟨pre, hp, h⟩) hF hD hK hn
theorem cases4 {p q c : Prop} (h1 : p → q → c) (h2 : p → ¬ q → c) (h3 : ¬ p → q → c) (h4 : ¬ p → ¬ q → c) : c := by
  by_cases hp : p
  · by_cases hq : q
    · exact h1 hp hq
    · exact h2 hp hq
  · by_cases hq : q
    · exact h3 hp hq
    · exact h4 hp hq
theorem bytesOf_le (s : BitVec 256) : (bytesOf s).length ≤ 256 := by
  have h2 := List.length_filter_le (fun b => s.getLsbD b) (List.range 256)
  rw [← bytesOf_filter] at h2
  simpa using h2

theorem enters_runs : ∀ args w, (callFunc 144 args).run Tryz.prog w = .ok (.enter 144 args) w := enters_of Tryz.func144 (by kernel_rfl) rfl
/-- The text that the example gathers. -/
def outS (l : List (Nat × Nat)) : ByteArray := ⟨(l.flatMap fun r => [UInt8.ofNat r.1, UInt8.ofNat r.2]).toArray⟩
theorem outS_snoc (l : List (Nat × Nat)) (x : Nat × Nat) : outS (l ++ [x]) = outS l ++ strOfNums [(x.1 : Int), (x.2 : Int)] := by
  apply ByteArray.ext
  simp [outS, strOfNums, ByteArray.data_append]
theorem outS_size (l : List (Nat × Nat)) : (outS l).size = 2 * l.length := by
  induction l with
  | nil => rfl
  | cons a l ih =>
    simp [outS, ByteArray.size] at *
    omega
theorem two_bytes (W : World) (a b : Nat) : (convert 57 9 (.slice (some ⟨W.heap.size, 0, none⟩) 2 2)).run Tryz.prog (W.alloc (.cells #[.int .u8 a, .int .u8 b] 5)) = .ok (.string (strOfNums [(a : Int), (b : Int)])) (W.alloc (.cells #[.int .u8 a, .int .u8 b] 5)) := by
  refine run_convert_bytes_arg _ 57 5 Tryz.underlying57 Tryz.underlying5 _ 0 2 2 [(a : Int), (b : Int)] rfl ?_ 9 Tryz.underlying9
  intro i hi
  rw [(Blk.new W _ _).cell]
  match i, hi with
  | 0, _ => rfl
  | 1, _ => rfl

end Go.Proofs.YthhfpjehamhcbaaGreatDoor
/- Expressions: trees, and how they lie in memory. -/
namespace Go.Proofs.YthhfpjehamhcbaaGreatDoor
set_option maxRecDepth 100000
set_option linter.unusedSimpArgs false
set_option linter.unusedVariables false
open Go.RowKit

/-- An expression: its op, its set, its kids. -/
inductive RE : Type where
  | mk (op : Nat) (set : BitVec 256) (kids : List RE) : RE
def RE.op : RE → Nat | .mk o _ _ => o
def RE.set : RE → BitVec 256 | .mk _ s _ => s
def RE.kids : RE → List RE | .mk _ _ ks => ks
theorem RE.eta (r : RE) : r = .mk r.op r.set r.kids := by cases r; rfl

theorem RE.ind {P : RE → Prop} (h : ∀ o s ks, (∀ k ∈ ks, P k) → P (.mk o s ks)) (r : RE) : P r := by
  cases r with
  | mk o s ks => exact h o s ks fun k hk => RE.ind h k
termination_by SizeOf.sizeOf r
decreasing_by
  have := List.sizeOf_lt_of_mem hk
  simp; omega

/-- One and the sizes of the kids, up to the greatest int. -/
def sat (n k : Nat) : Nat := min (n + k) 9223372036854775807
def RE.size : RE → Nat
  | .mk _ _ ks => (ks.map fun k => k.size).foldl sat 1
theorem RE.size_mk (o : Nat) (s : BitVec 256) (ks : List RE) : (RE.mk o s ks).size = (ks.map RE.size).foldl sat 1 := by rw [RE.size]
def sizeL (ks : List RE) : Nat := (ks.map RE.size).foldl sat 1
theorem sat_le (n k : Nat) : sat n k ≤ 9223372036854775807 := by unfold sat; omega
theorem foldl_sat_le : ∀ (l : List Nat) (n : Nat), n ≤ 9223372036854775807 → l.foldl sat n ≤ 9223372036854775807
  | [], n, h => h
  | x :: r, n, _ => foldl_sat_le r (sat n x) (sat_le n x)
theorem sizeL_le (ks : List RE) : sizeL ks ≤ 9223372036854775807 := foldl_sat_le _ 1 (by omega)
theorem RE.size_le (r : RE) : r.size ≤ 9223372036854775807 := by cases r; rw [RE.size_mk]; exact sizeL_le _
theorem sizeL_succ (ks : List RE) (k : Nat) (h : k < ks.length) : sizeL (ks.take (k + 1)) = sat (sizeL (ks.take k)) (ks[k]).size := by
  unfold sizeL
  rw [List.take_succ_eq_append_getElem h, List.map_append, List.foldl_append]; rfl

/-- Is the text of no bytes one of its texts? -/
def RE.null : RE → Bool
  | .mk o _ ks =>
    let ns := ks.map fun k => k.null
    if o = 1 ∨ o = 5 then true else if o = 3 ∨ o = 6 then ns.all id else if o = 4 then ns.any id else if o = 7 then ns.getD 0 false && !(ns.getD 1 false) else false
theorem RE.null_mk (o : Nat) (s : BitVec 256) (ks : List RE) : (RE.mk o s ks).null =
    if o = 1 ∨ o = 5 then true else if o = 3 ∨ o = 6 then (ks.map RE.null).all id else if o = 4 then (ks.map RE.null).any id else if o = 7 then (ks.map RE.null).getD 0 false && !((ks.map RE.null).getD 1 false) else false := by rw [RE.null]

/-- A pointer to a block's first cell. -/
def PT (b : Nat) : Value := .pointer (some ⟨b, 0, none⟩)
/-- A slice is as long as its capacity at most. -/
def capOk (v : Value) : Prop := ∀ a m c, v = .slice a m c → m ≤ c
theorem capOk.mk {a : Option Addr} {m c : Nat} (h : m ≤ c) : capOk (.slice a m c) := fun _ _ _ e => by injection e with _ e2 e3; omega
/-- A slice of n pointers. -/
def PtrRow (w : World) (v : Value) (bs : Nat → Nat) (n : Nat) : Prop :=
  (n ≤ 4611686018427387904 ∧ capOk v) ∧ ∃ a cap, v = .slice a n cap ∧ ∀ k, k < n → ∃ b off, a = some ⟨b, off, none⟩ ∧ b < w.heap.size ∧ w.cell? ⟨b, off + k, none⟩ = some (PT (bs k))
theorem PtrRow.below {w w' : World} {v : Value} {bs : Nat → Nat} {n : Nat} (h : PtrRow w v bs n) (hb : Below w.heap.size w w') : PtrRow w' v bs n := by
  obtain ⟨h1, a, cap, rfl, h2⟩ := h
  refine ⟨h1, a, cap, rfl, fun k hk => ?_⟩
  obtain ⟨b, off, e, hlt, hc⟩ := h2 k hk
  refine ⟨b, off, e, Nat.lt_of_lt_of_le hlt hb.size, ?_⟩
  rw [← hc]
  exact World.cell?_of_block (w := w) (hb.block b hlt)

/-- The cells of an expression. -/
def reC (b o : Nat) (s : BitVec 256) (v : Value) (nul : Bool) (sz : Nat) : Array Value :=
  #[.int .i64 o, .int .u64 (wd s 0), .int .u64 (wd s 1), .int .u64 (wd s 2), .int .u64 (wd s 3), v, PT b, .bool nul, .int .i64 sz]

/-- Block b holds an expression that package re made. -/
inductive ReAt (w : World) : Nat → RE → Prop where
  | mk (b o : Nat) (s : BitVec 256) (ks : List RE) (v : Value) (bs : Nat → Nat) (blk : Blk w b (reC b o s v (RE.mk o s ks).null (RE.mk o s ks).size) 77)
      (row : PtrRow w v bs ks.length) (kid : ∀ i k, ks[i]? = some k → ReAt w (bs i) k) : ReAt w b (.mk o s ks)
theorem ReAt.keep {w w' : World} {b : Nat} {r : RE} (h : ReAt w b r) (hb : Below w.heap.size w w') : ReAt w' b r := by
  induction h with
  | mk b o s ks v bs blk row kid ih => exact .mk b o s ks v bs (blk.below hb blk.lt) (row.below hb) ih
theorem ReAt.open {w : World} {b : Nat} {r : RE} (h : ReAt w b r) : ∃ v bs, Blk w b (reC b r.op r.set v r.null r.size) 77 ∧ PtrRow w v bs r.kids.length ∧ ∀ i k, r.kids[i]? = some k → ReAt w (bs i) k := by
  cases h with
  | mk b o s ks v bs blk row kid => exact ⟨v, bs, blk, row, kid⟩
theorem ReAt.lt {w : World} {b : Nat} {r : RE} (h : ReAt w b r) : b < w.heap.size := by
  obtain ⟨_, _, blk, _⟩ := h.open
  exact blk.lt
/-- A block holds one expression at most. -/
theorem ReAt.one {w : World} {b : Nat} {r r' : RE} (h : ReAt w b r) (h' : ReAt w b r') : r = r' := by
  induction h generalizing r' with
  | mk b o s ks v bs blk row kid ih =>
    cases h' with
    | mk _ o' s' ks' v' bs' blk' row' kid' =>
      have e : reC b o s v (RE.mk o s ks).null (RE.mk o s ks).size = reC b o' s' v' (RE.mk o' s' ks').null (RE.mk o' s' ks').size := by
        have h1 := blk.of_cells.symm.trans blk'.of_cells
        injection h1 with h1; injection h1
      simp only [reC, Array.mk.injEq, List.cons.injEq, Value.int.injEq, true_and] at e
      obtain ⟨e0, e1, e2, e3, e4, rfl, -⟩ := e
      have hs : s = s' := wd_ext (by omega) (by omega) (by omega) (by omega)
      have ho : o = o' := by omega
      obtain ⟨_, a, cap, hv, hc⟩ := row
      obtain ⟨_, a', cap', hv', hc'⟩ := row'
      rw [hv] at hv'
      injection hv' with ha hn hcap
      subst ha hs ho
      have hks : ks = ks' := by
        apply List.ext_getElem hn
        intro i h1 h2
        obtain ⟨b1, o1, e1, _, c1⟩ := hc i h1
        obtain ⟨b2, o2, e2, _, c2⟩ := hc' i h2
        rw [e1] at e2
        injection e2 with e2; injection e2 with e3 e4; subst e3 e4
        have e5 : PT (bs i) = PT (bs' i) := Option.some.inj (c1.symm.trans c2)
        have e6 : bs i = bs' i := by simpa [PT] using e5
        exact ih i _ (List.getElem?_eq_getElem h1) (e6 ▸ kid' i _ (List.getElem?_eq_getElem h2))
      rw [hks]

/-- A slice of expressions that package re made. -/
def ResRow (w : World) (v : Value) (l : List RE) : Prop := ∃ bs, PtrRow w v bs l.length ∧ ∀ i k, l[i]? = some k → ReAt w (bs i) k
theorem ResRow.below {w w' : World} {v : Value} {l : List RE} (h : ResRow w v l) (hb : Below w.heap.size w w') : ResRow w' v l := by
  obtain ⟨bs, h1, h2⟩ := h
  exact ⟨bs, h1.below hb, fun i k hk => (h2 i k hk).keep hb⟩
theorem ReAt.row {w : World} {b : Nat} {r : RE} (h : ReAt w b r) : ∃ v, Blk w b (reC b r.op r.set v r.null r.size) 77 ∧ ResRow w v r.kids := by
  obtain ⟨v, bs, h1, h2, h3⟩ := h.open
  exact ⟨v, h1, bs, h2, h3⟩
theorem ReAt.ofRow {w : World} {b o : Nat} {s : BitVec 256} {ks : List RE} {v : Value} (hb : Blk w b (reC b o s v (RE.mk o s ks).null (RE.mk o s ks).size) 77) (h : ResRow w v ks) : ReAt w b (.mk o s ks) := by
  obtain ⟨bs, h1, h2⟩ := h
  exact .mk b o s ks v bs hb h1 h2
/-- What lies at one place of a slice. -/
theorem ResRow.at {w : World} {v : Value} {l : List RE} (h : ResRow w v l) : l.length ≤ 4611686018427387904 ∧ ∃ a cap, v = .slice a l.length cap ∧ ∀ k (hk : k < l.length), ∃ b off bk, a = some ⟨b, off, none⟩ ∧ b < w.heap.size ∧ w.cell? ⟨b, off + k, none⟩ = some (PT bk) ∧ ReAt w bk l[k] := by
  obtain ⟨bs, ⟨h0, a, cap, rfl, h1⟩, h2⟩ := h
  refine ⟨h0.1, a, cap, rfl, fun k hk => ?_⟩
  obtain ⟨b, off, e, hlt, hc⟩ := h1 k hk
  exact ⟨b, off, bs k, e, hlt, hc, h2 k _ (List.getElem?_eq_getElem hk)⟩
theorem ResRow.cap {w : World} {v : Value} {l : List RE} (h : ResRow w v l) : capOk v := by
  obtain ⟨bs, ⟨h0, -⟩, -⟩ := h
  exact h0.2
end Go.Proofs.YthhfpjehamhcbaaGreatDoor
