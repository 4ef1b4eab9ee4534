/- SetRuns: a set's bytes, and its runs, in order; left early they go no further. -/
import Derived.Test.YtfoamihjmmgnlaaDoorSetH
import Derived.BigGuardIn
import Derived.Deep.RegionHeld3
import Derived.Test.YtfoamihjmmgnlaaDoorHeld
import Derived.Test.YtfoamihjmmgnlaaDoorQuiet2
import Derived.Test.YtfoamihjmmgnlaaDoorMathNext
import Derived.Test.YtfoamihjmmgnlaaDoorMathCnt
import Derived.Test.YtfoamihjmmgnlaaDoorMarks
namespace Go.Proofs.YtfoamihjmmgnlaaDoor
set_option maxRecDepth 100000
open Go.RowKit Go.Shelf
attribute [local go_sem] Oper.semAt_some

/-- What SetRuns keeps all along. -/
structure RW (s : BitVec 256) (stop : Int) (B xb N5 : Nat) (W : World) : Prop where
  s0 : Blk W B (WS s) 24
  st : Blk W (B + 1) #[.int .i64 stop] 3
  rs : Blk W (B + 2) #[.bool false] 4
  x0 : Blk W xb (bArr s.getLsbD) 4
  x5 : Blk W N5 #[.slice (some ⟨xb, 0, none⟩) 256 256] 26
theorem RW.agree {s : BitVec 256} {stop : Int} {B xb N5 : Nat} {K : Nat → Prop} {W W' : World} (h : RW s stop B xb N5 W) (ha : Agree K W W') (k0 : K B) (k1 : K (B + 1)) (k2 : K (B + 2)) (k3 : K xb) (k4 : K N5) : RW s stop B xb N5 W' :=
  ⟨h.s0.agree ha k0, h.st.agree ha k1, h.rs.agree ha k2, h.x0.agree ha k3, h.x5.agree ha k4⟩
theorem RW.set {s : BitVec 256} {stop : Int} {B xb N5 : Nat} {W : World} (h : RW s stop B xb N5 W) (b : Nat) (v : Value) (h1 : B + 2 < b) (h2 : xb ≠ b) (h3 : N5 ≠ b) : RW s stop B xb N5 (W.setCell ⟨b, 0, none⟩ v) :=
  ⟨h.s0.setOther _ _ (by simp; omega), h.st.setOther _ _ (by simp; omega), h.rs.setOther _ _ (by simp; omega), h.x0.setOther _ _ (by simp; omega), h.x5.setOther _ _ (by simp; omega)⟩
theorem RW.alloc {s : BitVec 256} {stop : Int} {B xb N5 : Nat} {W : World} (h : RW s stop B xb N5 W) (o : Obj) : RW s stop B xb N5 (W.alloc o) :=
  ⟨h.s0.alloc o, h.st.alloc o, h.rs.alloc o, h.x0.alloc o, h.x5.alloc o⟩
theorem RW.step {s : BitVec 256} {stop : Int} {B xb N5 : Nat} {W W' : World} (h : RW s stop B xb N5 W) (hb : Below W.heap.size W W') : RW s stop B xb N5 W' :=
  ⟨h.s0.below hb h.s0.lt, h.st.below hb h.st.lt, h.rs.below hb h.rs.lt, h.x0.below hb h.x0.lt, h.x5.below hb h.x5.lt⟩

/-- The number in a block of one cell. -/
def cellNat (W : World) (b : Nat) : Nat := match W.cell? ⟨b, 0, none⟩ with | some v => (intOf v).toNat | none => 0
theorem cellNat_of {W : World} {b k : Nat} {t : TypeId} (h : Blk W b #[.int .i64 k] t) : cellNat W b = k := by
  unfold cellNat; rw [h.cell]; simp [intOf]

theorem x_loadInt (ρ : Operand → Value) (d : Option Tmp) (x : Operand) (t : TypeId) (pos : String) (af : Array Edge) (g : Option (Nat × Bool)) (b n : Nat) (v : Int) (hx : ρ x = .pointer (some ⟨b, n, none⟩)) (w : World) (hc : w.cell? ⟨b, n, none⟩ = some (.int .i64 v)) :
    (execOp ρ { dst := d, op := .load 3 x, type := t, pos := pos, after := af, guard := g }).run Tryd.prog w = .ok (.value (.int .i64 v)) w := by
  simp [go_sem, hx, hc]
theorem x_neqInt (ρ : Operand → Value) (d : Option Tmp) (x y : Operand) (t : TypeId) (pos : String) (af : Array Edge) (g : Option (Nat × Bool)) (u v : Int) (hx : ρ x = .int .i64 u) (hy : ρ y = .int .i64 v) (w : World) :
    (execOp ρ { dst := d, op := .binOp .neq 3 x y 3, type := t, pos := pos, after := af, guard := g }).run Tryd.prog w = .ok (.value (.bool (u != v))) w := by
  simp [go_sem, hx, hy]
theorem x_min (ρ : Operand → Value) (d : Option Tmp) (x y : Operand) (t : TypeId) (pos : String) (af : Array Edge) (g : Option (Nat × Bool)) (u v : Int) (hx : ρ x = .int .i64 u) (hy : ρ y = .int .i64 v) (w : World) :
    (execOp ρ { dst := d, op := .call { callee := .builtin .min, args := #[x, y], argTypes := #[3, 3] }, type := t, pos := pos, after := af, guard := g }).run Tryd.prog w = .ok (.value (.int .i64 (min u v))) w := by
  simp [go_sem, hx, hy]
  rw [Int.min_def]; split <;> split <;> omega

/-- What SetRuns keeps, and its count, and the blocks for deferred calls. -/
structure RQ (s : BitVec 256) (stop : Int) (B xb N : Nat) (n : Nat) (Ds : List Nat) (w W : World) : Prop where
  rw : RW s stop B xb N W
  n0 : Blk W (N + 2) #[.int .i64 n] 3
  ds : ∀ D ∈ Ds, W.heap[D]? = some (.deferred (some []))
  below : Below B w W
theorem RQ.step {s : BitVec 256} {stop : Int} {B xb N n : Nat} {Ds : List Nat} {w W W' : World} (h : RQ s stop B xb N n Ds w W) (hb : Below W.heap.size W W') : RQ s stop B xb N n Ds w W' :=
  ⟨h.rw.step hb, h.n0.below hb h.n0.lt, fun D hD => (hb.block D (Array.getElem?_eq_some_iff.1 (h.ds D hD)).1).trans (h.ds D hD), h.below.trans (hb.mono (by have := h.rw.s0.lt; omega))⟩
theorem RQ.drew {s : BitVec 256} {stop : Int} {B xb N n : Nat} {Ds : List Nat} {w W : World} (h : RQ s stop B xb N n Ds w W) : RQ s stop B xb N n Ds w { W with drawn := W.drawn + 1 } :=
  ⟨⟨h.rw.s0, h.rw.st, h.rw.rs, h.rw.x0, h.rw.x5⟩, h.n0, h.ds, ⟨h.below.os, h.below.tape, h.below.output, h.below.size, h.below.block⟩⟩

/-- What the last region of SetRuns reads and keeps. -/
structure RS (s : BitVec 256) (m B N N3 q : Nat) (Ds : List Nat) (w W : World) : Prop where
  s0 : Blk W B (WS s) 24
  st : Blk W (B + 1) #[.int .i64 m] 3
  rs : ∃ r, Blk W (B + 2) #[.bool r] 4
  n0 : Blk W (N + 2) #[.int .i64 0] 3
  sn : Blk W N3 #[.int .i64 q] 3
  ds : ∀ D ∈ Ds, W.heap[D]? = some (.deferred (some []))
  below : Below B w W
theorem RS.step {s : BitVec 256} {m B N N3 q : Nat} {Ds : List Nat} {w W W' : World} (h : RS s m B N N3 q Ds w W) (hb : Below W.heap.size W W') : RS s m B N N3 q Ds w W' := by
  obtain ⟨r, hr⟩ := h.rs
  exact ⟨h.s0.below hb h.s0.lt, h.st.below hb h.st.lt, ⟨r, hr.below hb hr.lt⟩, h.n0.below hb h.n0.lt, h.sn.below hb h.sn.lt, fun D hD => (hb.block D (Array.getElem?_eq_some_iff.1 (h.ds D hD)).1).trans (h.ds D hD), h.below.trans (hb.mono (by have := h.s0.lt; omega))⟩
theorem RS.drew {s : BitVec 256} {m B N N3 q : Nat} {Ds : List Nat} {w W : World} (h : RS s m B N N3 q Ds w W) : RS s m B N N3 q Ds w { W with drawn := W.drawn + 1 } :=
  ⟨h.s0, h.st, h.rs, h.n0, h.sn, h.ds, ⟨h.below.os, h.below.tape, h.below.output, h.below.size, h.below.block⟩⟩
theorem RS.store {s : BitVec 256} {m B N N3 q : Nat} {Ds : List Nat} {w W : World} (h : RS s m B N N3 q Ds w W) (v : Bool) (hN : B + 2 < N + 2) (hN3 : B + 2 < N3) (hD : ∀ D ∈ Ds, B + 2 < D) : RS s m B N N3 q Ds w (W.setCell ⟨B + 2, 0, none⟩ (.bool v)) := by
  obtain ⟨r, hr⟩ := h.rs
  exact ⟨h.s0.setOther _ _ (by simp), h.st.setOther _ _ (by simp), ⟨v, hr.set 0 _⟩, h.n0.setOther _ _ (by simp; omega), h.sn.setOther _ _ (by simp; omega), fun D h' => (Below.heap_setCell _ _ _ _ (by have := hD D h'; simp; omega)).trans (h.ds D h'), h.below.setCell (by simp) _⟩

theorem x_storeBool (ρ : Operand → Value) (d : Option Tmp) (x y : Operand) (t : TypeId) (pos : String) (af : Array Edge) (g : Option (Nat × Bool)) (b : Nat) (v r : Bool) (hx : ρ x = .pointer (some ⟨b, 0, none⟩)) (hy : ρ y = .bool v) (w : World) (hc : Blk w b #[.bool r] 4) :
    (execOp ρ { dst := d, op := .store 4 x y, type := t, pos := pos, after := af, guard := g }).run Tryd.prog w = .ok .skip (w.setCell ⟨b, 0, none⟩ (.bool v)) := by
  have h1 := hc.cell 0; have h2 := hc.frozen 0
  simp only [List.getElem?_toArray, List.getElem?_cons_zero] at h1
  simp [go_sem, hx, hy, h1, h2]
theorem i64_and15 (n : Int) : bits .and .i64 n 15 = n % 16 := by
  have h15 : (BitVec.ofInt 64 15).toNat = 2 ^ 4 - 1 := by decide
  have key : (BitVec.ofInt 64 n &&& BitVec.ofInt 64 15).toNat = (n % ((2 ^ 64 : Nat) : Int)).toNat % 2 ^ 4 := by
    rw [BitVec.toNat_and, BitVec.toNat_ofInt, h15, Nat.and_two_pow_sub_one_eq_mod]
  show IntKind.i64.wrap ((BitVec.ofInt 64 n &&& BitVec.ofInt 64 15).toNat : Nat) = n % 16
  rw [key, IntKind.wrap_i64]
  omega
theorem and15 (n : Int) : ∃ m : Nat, m < 16 ∧ bits .and .i64 n 15 = (m : Int) := ⟨(n % 16).toNat, by omega, by rw [i64_and15]; omega⟩

/-- A range over a function that is left by its own 'break' alone. -/
theorem wpIn_rangeB {P : Program} {α : Type} {g : Operand} {ps : Array Tmp} {assign body : Code} {Q : Exit → Act → World → Prop} {a : Act} {w : World} {id : Nat}
    {gf : Nat} {lb : Array Value} (hg : a.eval g = .func (.func gf) #[] lb) (eg : ∀ args w, (callFunc gf args).run P w = .ok (.enter gf args) w)
    {encs : α → Array Value} {xs : List α} {own : Nat → Prop} (hiter : ∀ W1, Below w.heap.size w W1 → Iter P gf lb encs xs own W1) (hps : ∀ x, (encs x).size = ps.size)
    (I Ix : List α → (Nat → Prop) → World → Prop) (hI : Stable I) (hIx : Stable Ix)
    (M : Nat → Prop) (hM : ∀ k, M k → k < w.heap.size) (hown : ∀ k, own k → ¬ M k ∧ k < w.heap.size) (h0 : I [] M w) (a₁ : α → Act)
    (hassign : ∀ (l : Nat) (x : α) (W : World) (K : Act → World → Prop), K (a₁ x) W →
      assign.wpIn (Fence.wide.inRound l) 0 P (Exit.then K (fun _ _ _ => False)) { tmps := (ps.zip (encs x)).foldl (fun t (p, v) => t.setIfInBounds p v) a.tmps, defers := [] } W)
    (hbody : ∀ (l : Nat) (pre : List α) (x : α) (M : Nat → Prop) (W : World), pre ++ [x] <+: xs → I pre M W → (∀ k, M k → k < W.heap.size) → body.wpIn (Fence.wide.inRound l) 0 P (postM I (fun c pre M W => c = .exit id ∧ Ix pre M W) (pre ++ [x]) M W) (a₁ x) W)
    (hend : ∀ (D : Nat) (M' : Nat → Prop) (W : World), (I xs M' W ∨ ∃ pre, pre <+: xs ∧ Ix pre M' W) → Foot M M' w W → w.heap.size ≤ D → W.heap[D]? = some (.deferred (some [])) → ¬ M' D →
      Q .normal { a with defers := { target := .collected D, args := #[] } :: a.defers } W) :
    (Code.rangeFunc g ps assign body).wpIn Fence.wide 0 P (Exit.inBlock id Q) a w := by
  refine wpIn_rangeM hg eg hiter hps I (fun c pre M W => c = .exit id ∧ Ix pre M W) hI (fun c s M A B h ha => ⟨h.1, hIx _ _ _ _ h.2 ha⟩) M hM hown h0 a₁ hassign hbody ?_ ?_
  · intro D M' W h hF hD hK hn
    exact hend D M' W (.inl h) hF hD hK hn
  · rintro D c pre M' W hp ⟨rfl, h⟩ hF hD hK hn
    refine wpIn_exit ?_
    simp only [Exit.inBlock, if_true]
    exact hend D M' W (.inr ⟨pre, hp, h⟩) hF hD hK hn
theorem cases4 {p q c : Prop} (h1 : p → q → c) (h2 : p → ¬ q → c) (h3 : ¬ p → q → c) (h4 : ¬ p → ¬ q → c) : c := by
  by_cases hp : p
  · by_cases hq : q
    · exact h1 hp hq
    · exact h2 hp hq
  · by_cases hq : q
    · exact h3 hp hq
    · exact h4 hp hq
theorem bytesOf_le (s : BitVec 256) : (bytesOf s).length ≤ 256 := by
  have h2 := List.length_filter_le (fun b => s.getLsbD b) (List.range 256)
  rw [← bytesOf_filter] at h2
  simpa using h2

set_option maxRecDepth 100000 in
set_option maxHeartbeats 1500000 in
theorem setRuns_in (s : BitVec 256) (stop : Int) (w : World) (hT : TabAt w) :
    CallsIn Fence.wide 0 Tryd.prog 5 #[SV s, .int .i64 stop] w fun e w' => e = .returned (.bool true) ∧ Below w.heap.size w w' := by
  have HT := hide hT
  have hG : 0 < w.heap.size := World.block_lt_of_cell? _ _ (hT 0 (by omega))
  clear hT
  refine callsIn_of_wp_marks Tryd.func5 rfl trivial ?_ rfl
  simp only [Tryd.ntmps5, List.size_toArray, List.length_cons, List.length_nil, Nat.reduceAdd, Nat.reduceSub, Array.replicate_succ, Array.replicate_zero, List.push_toArray, List.append_toArray, List.nil_append, List.cons_append]
  gi_wp2_with fail
  refine ⟨trivial, rfl, ?_⟩
  refine (callsIn_wide.2 (head1_any _ (HT.out.agree (Agree.of_all (K := fun _ => True) (((((Below.refl w.heap.size w).alloc (Nat.le_refl _) _).alloc (by simp) _).alloc (by simp; omega) _))) trivial))).mono ?_
  rintro e w1 ⟨rfl, hb⟩
  have ks := (((Blk.newAt (w := w) rfl (WS s) 24).alloc (.cells #[.int .i64 stop] 3)).alloc (.cells #[.bool false] 4)).below hb (by simp; omega)
  have kst := ((Blk.newAt (w := w.alloc (.cells (WS s) 24)) (n := w.heap.size + 1) (by simp) #[.int .i64 stop] 3).alloc (.cells #[.bool false] 4)).below hb (by simp)
  have krs := (Blk.newAt (w := (w.alloc (.cells (WS s) 24)).alloc (.cells #[.int .i64 stop] 3)) (n := w.heap.size + 2) (by simp) #[.bool false] 4).below hb (by simp)
  have HB1 := hide (((((Below.refl w.heap.size w).alloc (Nat.le_refl _) (.cells (WS s) 24)).alloc (by simp) (.cells #[.int .i64 stop] 3)).alloc (by simp; omega) (.cells #[.bool false] 4)).trans (hb.mono (by simp; omega)))
  clear hb
  have hxb : w.heap.size + 2 < w1.heap.size + 1 := by have := krs.lt; omega
  have c0 := ks.cell 0; have c1 := ks.cell 1; have c2 := ks.cell 2; have c3 := ks.cell 3
  simp only [List.getElem?_toArray, List.getElem?_cons_zero, List.getElem?_cons_succ] at c0 c1 c2 c3
  gi_wp2_with fail
  refine ⟨trivial, rfl, ?_⟩
  refine (callsIn_wide.2 (bools_any s _)).mono ?_
  rintro e w2 ⟨rfl, hb, kx⟩
  have ks := ks.below hb ks.lt
  have kst := kst.below hb kst.lt
  have krs := krs.below hb krs.lt
  have HB2 := hide (HB1.out.trans (hb.mono HB1.out.size))
  clear hb c0 c1 c2 c3
  have hx2 := kx.lt
  generalize w1.heap.size + 1 = xb at *
  have c0 := ks.cell 0; have c1 := ks.cell 1; have c2 := ks.cell 2; have c3 := ks.cell 3
  simp only [List.getElem?_toArray, List.getElem?_cons_zero, List.getElem?_cons_succ] at c0 c1 c2 c3
  have z0 := ks.lt
  have z1 : w.heap.size < w2.heap.size + 1 := by omega
  have z2 : w.heap.size < w2.heap.size + 1 + 1 := by omega
  gi_wp2_with fail
  refine ⟨trivial, rfl, ?_⟩
  refine (callsIn_wide.2 (bytes_any s _)).mono ?_
  rintro e w3 ⟨rfl, rfl⟩
  gi_wp2
  clear c0 c1 c2 c3 z0 z1 z2
  refine wpIn_world (fun W => RW s stop w.heap.size xb w2.heap.size W ∧ Blk W (w2.heap.size + 1) #[.int .i64 0] 3 ∧ Blk W (w2.heap.size + 2) #[.int .i64 0] 3 ∧ Blk W (w2.heap.size + 3) (WS s) 24 ∧ Below w.heap.size w W) ⟨⟨?_, ?_, ?_, ?_, ?_⟩, ?_, ?_, ?_, ?_⟩ ?_
  · exact (((ks.alloc _).alloc _).alloc _).alloc _
  · exact (((kst.alloc _).alloc _).alloc _).alloc _
  · exact (((krs.alloc _).alloc _).alloc _).alloc _
  · exact (((kx.alloc _).alloc _).alloc _).alloc _
  · exact (((Blk.newAt rfl _ _).alloc _).alloc _).alloc _
  · exact ((Blk.newAt (by simp) _ _).alloc _).alloc _
  · exact (Blk.newAt (by simp) _ _).alloc _
  · exact Blk.newAt (by simp) _ _
  · have := HB2.out.size
    exact (((HB2.out.alloc this _).alloc (by simp; omega) _).alloc (by simp; omega) _).alloc (by simp; omega) _
  rintro W0 ⟨hRW, k6, k7, k8, hbel⟩
  have HB3 := hide hbel
  have z8 := k8.lt
  have hN5 : w.heap.size + 2 < w2.heap.size := krs.lt
  clear ks kst krs kx hbel
  have HT0 := hide (HT.out.agree (Agree.of_all (K := fun _ => True) HB3.out) trivial)
  have hB := HB1.out.size
  generalize hB0 : w.heap.size = B at *
  generalize hN5' : w2.heap.size = N at *
  -- the bytes, one by one
  refine wpIn_rangeM (gf := 54) (lb := #[.pointer (some ⟨N + 3, 0, none⟩)]) rfl enters_bytes (encs := fun x : Nat => #[.int .u8 x]) (xs := bytesOf s)
    (own := fun k => k = N + 3 ∨ k = 0)
    (fun W1 hb => bytes1_any s _ W1 (k8.below hb z8) (HT0.out.agree (Agree.of_all (K := fun _ => True) hb) trivial)) (fun _ => rfl)
    (fun pre M W => (∀ k, B ≤ k → k < N + 3 → M k) ∧ RW s stop B xb N W ∧ Blk W (N + 1) #[.int .i64 (nxt pre)] 3 ∧ Blk W (N + 2) #[.int .i64 pre.length] 3)
    (fun _ _ _ _ => False)
    (fun _ M X Y h ha => ⟨h.1, h.2.1.agree ha (h.1 _ (by omega) (by omega)) (h.1 _ (by omega) (by omega)) (h.1 _ (by omega) (by omega)) (h.1 _ (by omega) (by omega)) (h.1 _ (by omega) (by omega)), h.2.2.1.agree ha (h.1 _ (by omega) (by omega)), h.2.2.2.agree ha (h.1 _ (by omega) (by omega))⟩)
    (fun _ _ M A B h ha => h)
    (fun k => B ≤ k ∧ k < N + 3) (fun k hk => by omega)
    (fun k hk => by rcases hk with rfl | rfl <;> exact ⟨fun h => by omega, by omega⟩) ⟨fun k h1 h2 => ⟨h1, h2⟩, hRW, k6, k7⟩
    (fun x => { tmps := #[SV s, .int .i64 stop, .pointer (some ⟨B, 0, none⟩), .pointer (some ⟨B + 1, 0, none⟩), .pointer (some ⟨B + 1 + 1, 0, none⟩), .pointer (some ⟨N, 0, none⟩), .pointer (some ⟨N + 1, 0, none⟩), .pointer (some ⟨N + 1 + 1, 0, none⟩), .int .u8 x,
        undef, undef, undef, undef, undef, .bool true, .bool false, SV s, .slice (some ⟨xb, 0, none⟩) 256 256, SV s, .func (.func 54) #[] #[.pointer (some ⟨N + 1 + 1 + 1, 0, none⟩)], .int .u8 x, undef, undef, undef, undef, undef, undef, undef, undef, undef, undef, undef, undef, undef, undef, undef, undef, undef, undef, undef, undef, undef, undef, undef, undef, undef, undef, undef, undef, undef, undef, undef, undef, undef, undef, undef, undef, undef, undef, undef, undef, undef, undef, undef, undef, undef, undef, undef, undef, undef, undef, undef, undef, undef, undef, undef, undef, undef, undef, undef, undef, undef, undef, undef, undef, undef, undef, undef, undef, undef, undef, undef, undef, undef, undef, undef, undef, undef, undef, undef, undef, undef, undef, undef, undef, undef, undef, undef, undef, undef, undef, undef, undef, undef, undef, undef, undef, undef, undef, undef, undef], defers := [] }) ?assign ?body ?done ?stop
  case assign =>
    intro l x W K hK
    gi_wp2
    exact hK
  case body =>
    rintro l pre x M W hpre ⟨hMk, hR, h6, h7⟩ hM
    obtain ⟨n1, n2, n3, n4⟩ := next_byte s pre x hpre
    have hlen : pre.length ≤ 256 := by
      have := hpre.length_le
      have h2 := List.length_filter_le (fun b => s.getLsbD b) (List.range 256)
      rw [← bytesOf_filter] at h2
      simp at this h2; omega
    have HN := hide n4
    have HX := hide n3
    have HM := hide hM
    have HMK := hide hMk
    clear n3 n4 hpre hM hMk
    gi_wp2
    gi_loopw [21] (fun _ wr => ∃ k : Nat, nxt pre ≤ k ∧ k ≤ x ∧ RW s stop B xb N wr ∧ Blk wr (N + 1) #[.int .i64 k] 3 ∧ Blk wr (N + 2) #[.int .i64 pre.length] 3 ∧ Agree (fun k => ¬ M k) W wr) (fun _ wr => 256 - cellNat wr (N + 1))
    case atStart => exact ⟨nxt pre, Nat.le_refl _, n1, hR, h6, h7, Agree.refl _ _⟩
    case round =>
      obtain ⟨k, k1, k2, hR1, h61, h71, hag⟩ := hrel
      have e6 := h61.cell 0; have e7 := h71.cell 0; have e5 := hR1.x5.cell 0; have ex := hR1.x0.cell k
      rw [bArr_get _ k (by omega)] at ex
      simp only [List.getElem?_toArray, List.getElem?_cons_zero] at e6 e7 e5
      have f6 := h61.frozen 0; have f7 := h71.frozen 0
      have hd : decide ((k : Int) < 256) = true := by simp; omega
      by_cases hkx : k < x
      · rw [HN.out k k1 hkx] at ex
        gi_wp2
        have hK1 := cellNat_of h61
        have h62 := h61.set 0 (.int .i64 (k + 1))
        have hK2 := cellNat_of (k := k + 1) h62
        refine ⟨⟨k + 1, by omega, by omega, hR1.set _ _ (by omega) (by omega) (by omega), h62, h71.setOther _ _ (by simp), hag.trans (Agree.setCell _ _ _ (fun h => h (HMK.out _ (by simp; omega) (by simp))))⟩, ?_⟩
        rw [hK1, hK2]; omega
      · obtain rfl : k = x := by omega
        rw [HX.out] at ex
        gi_wp2
        have h62 := (h61.set 0 (.int .i64 (k + 1))).setOther ⟨N + 1 + 1, 0, none⟩ (.int .i64 (pre.length + 1)) (by simp)
        have h72 := (h71.setOther ⟨N + 1, 0, none⟩ (.int .i64 (k + 1)) (by simp)).set 0 (.int .i64 (pre.length + 1))
        refine ⟨M, Foot.same HM.out ((hag.trans (Agree.setCell _ _ _ (fun h => h (HMK.out _ (by simp; omega) (by simp))))).trans (Agree.setCell _ _ _ (fun h => h (HMK.out _ (by simp; omega) (by simp))))), HMK.out, (hR1.set _ _ (by omega) (by omega) (by omega)).set _ _ (by omega) (by omega) (by omega), ?_, ?_⟩
        · rw [nxt_snoc]; exact h62
        · rw [List.length_append]; exact h72
  case done =>
    rintro D1 M1 W1 ⟨hMk, hR, h6, h7⟩ hF hD hK hn
    have HF1 := hide hF
    have HK1 := hide hK
    have HB4 := hide (HB3.out.trans (hF.agree.below B (by have := HB3.out.size; omega) (fun k hk h => by omega)))
    have hQ : RQ s stop B xb N (bytesOf s).length [D1] w W1 := ⟨hR, h7, fun D h => by simp at h; subst h; exact hK, HB4.out⟩
    have hlen := (bytesOf_le s)
    have hcard : card s = (bytesOf s).length := by rw [card_cnt, cnt_bytes]
    have hND : N + 3 < D1 := by omega
    clear hF hK hMk HK1 HF1 HB4 hR h6 h7 hn k6 k7 k8 hRW HT0 HB3 z8
    generalize hn0 : (bytesOf s).length = n at *
    gi_wp2
    have hGr : Grows (RQ s stop B xb N n [D1] w) := fun W W' h hb => h.step hb
    refine wpIn_wide.2 (quiet_lit (C := RQ s stop B xb N n [D1] w) (by kernel_rfl) (by kernel_rfl) hQ.drew ?_)
    refine q_want rfl fun K hK => q_value (.int .i64 n) (fun w hw => x_loadInt _ _ _ _ _ _ _ (N + 1 + 1) 0 n rfl w (hw.n0.cell 0)) ?_
    simp only [Act.put, List.setIfInBounds_toArray, List.set_cons_succ, List.set_cons_zero]
    refine hK _ ?_
    clear hK K
    refine q_want rfl fun K hK => q_value (SV s) (fun w hw => x_loadSet _ _ _ _ _ _ _ _ s rfl w hw.rw.s0) ?_
    simp only [Act.put, List.setIfInBounds_toArray, List.set_cons_succ, List.set_cons_zero]
    refine hK _ ?_
    clear hK K
    refine q_want rfl fun K hK => q_call hGr 22 #[SV s] (.int .i64 n) (x_call1 _ _ _ _ _ _ _ _ _ _ rfl rfl (enters_of Tryd.func22 (by kernel_rfl) rfl)) (fun w _ => by have h := len_any s w; rw [hcard] at h; exact h) ?_
    simp only [Act.put, List.setIfInBounds_toArray, List.set_cons_succ, List.set_cons_zero]
    refine hK _ ?_
    clear hK K
    refine q_want rfl fun K hK => q_value (.bool ((n : Int) != n)) (fun w _ => x_neqInt _ _ _ _ _ _ _ _ _ _ rfl rfl w) ?_
    simp only [Act.put, List.setIfInBounds_toArray, List.set_cons_succ, List.set_cons_zero]
    refine hK _ ?_
    clear hK K
    refine wpQuiet_nil ?_
    intro W2 hQ2
    rw [show ((n : Int) != n) = false from by simp]
    clear hQ hGr
    have c0 := hQ2.rw.s0.cell 0; have c1 := hQ2.rw.s0.cell 1; have c2 := hQ2.rw.s0.cell 2; have c3 := hQ2.rw.s0.cell 3
    simp only [List.getElem?_toArray, List.getElem?_cons_zero, List.getElem?_cons_succ] at c0 c1 c2 c3
    have z0 : B < W2.heap.size := hQ2.rw.s0.lt
    have z1 : D1 < W2.heap.size := (Array.getElem?_eq_some_iff.1 (hQ2.ds D1 (by simp))).1
    have HQ := hide hQ2
    clear hQ2
    gi_wp2_with fail
    refine ⟨trivial, rfl, ?_⟩
    refine (callsIn_wide.2 (runs_any s _)).mono ?_
    rintro e w5 ⟨rfl, rfl⟩
    gi_wp2
    clear c0 c1 c2 c3
    refine wpIn_world (fun W => RQ s stop B xb N n [D1] w W ∧ Blk W W2.heap.size #[.int .i64 0] 3 ∧ Blk W (W2.heap.size + 1) (WS s) 24) ⟨?_, ?_, ?_⟩ ?_
    · exact HQ.out.step (((Below.refl _ _).alloc (Nat.le_refl _) _).alloc (by simp) _)
    · exact (Blk.newAt rfl _ _).alloc _
    · exact Blk.newAt (by simp) _ _
    rintro W3 ⟨hQ3, k9, k10⟩
    have HT3 := hide (HT.out.agree (Agree.of_all (K := fun _ => True) (hB0 ▸ hQ3.below)) trivial)
    have z3 := k10.lt
    clear HQ
    generalize hN2 : W2.heap.size = N2 at *
    -- the runs, one by one
    refine wpIn_rangeM (gf := 56) (lb := #[.pointer (some ⟨N2 + 1, 0, none⟩)]) rfl enters_runs (encs := fun x : Nat × Nat => #[.int .u8 x.1, .int .u8 x.2]) (xs := runsOf s)
      (own := fun k => k = N2 + 1 ∨ k = 0)
      (fun W1 hb => runs1_any s _ W1 (k10.below hb z3) (HT3.out.agree (Agree.of_all (K := fun _ => True) hb) trivial)) (fun _ => rfl)
      (fun pre M W => (∀ k, B ≤ k → k < N + 3 → M k) ∧ M N2 ∧ RW s stop B xb N W ∧ Blk W N2 #[.int .i64 (nxr pre)] 3 ∧ Blk W (N + 2) #[.int .i64 (n - tot pre : Nat)] 3)
      (fun _ _ _ _ => False)
      (fun _ M X Y h ha => ⟨h.1, h.2.1, h.2.2.1.agree ha (h.1 _ (by omega) (by omega)) (h.1 _ (by omega) (by omega)) (h.1 _ (by omega) (by omega)) (h.1 _ (by omega) (by omega)) (h.1 _ (by omega) (by omega)), h.2.2.2.1.agree ha h.2.1, h.2.2.2.2.agree ha (h.1 _ (by omega) (by omega))⟩)
      (fun _ _ M A B h ha => h)
      (fun k => (B ≤ k ∧ k < N + 3) ∨ k = N2) (fun k hk => by omega)
      (fun k hk => by rcases hk with rfl | rfl <;> exact ⟨fun h => by omega, by omega⟩) ⟨fun k h1 h2 => .inl ⟨h1, h2⟩, .inr rfl, hQ3.rw, k9, hQ3.n0⟩
      (fun x => { tmps := #[SV s, .int .i64 stop, .pointer (some ⟨B, 0, none⟩), .pointer (some ⟨B + 1, 0, none⟩), .pointer (some ⟨B + 1 + 1, 0, none⟩), .pointer (some ⟨N, 0, none⟩), .pointer (some ⟨N + 1, 0, none⟩), .pointer (some ⟨N + 1 + 1, 0, none⟩), undef, .pointer (some ⟨N2, 0, none⟩), .int .u8 x.1, .int .u8 x.2, undef, undef, .bool true, .bool false, SV s, .slice (some ⟨xb, 0, none⟩) 256 256, SV s, .func (.func 54) #[] #[.pointer (some ⟨N + 1 + 1 + 1, 0, none⟩)], undef, undef, undef, undef, undef, undef, undef, undef, undef, undef, undef, undef, undef, undef, undef, undef, undef, undef, undef, undef, .int .i64 n, SV s, .int .i64 n, .bool false, SV s, .func (.func 56) #[] #[.pointer (some ⟨N2 + 1, 0, none⟩)], .int .u8 x.1, .int .u8 x.2, undef, undef, undef, undef, undef, undef, undef, undef, undef, undef, undef, undef, undef, undef, undef, undef, undef, undef, undef, undef, undef, undef, undef, undef, undef, undef, undef, undef, undef, undef, undef, undef, undef, undef, undef, undef, undef, undef, undef, undef, undef, undef, undef, undef, undef, undef, undef, undef, undef, undef, undef, undef, undef, undef, undef, undef, undef, undef, undef, undef, undef, undef, undef, undef, undef, undef, undef, undef, undef, undef, undef, undef, undef], defers := [] }) ?assign2 ?body2 ?done2 ?stop2
    case assign2 =>
      intro l x W K hK
      gi_wp2
      exact hK
    case stop2 =>
      rintro D c pre M' W hp h
      exact h.elim
    case body2 =>
      rintro l pre ⟨a, b⟩ M W hpre ⟨hMk, hMN, hR, h9, h7⟩ hM
      obtain ⟨n1, n2, n3, n4, n5, n6⟩ := next_run s pre a b hpre
      have htot : tot pre + (b + 1 - a) ≤ n := by
        have := tot_le hpre; rw [tot_snoc, tot_runs, hn0] at this; exact this
      have HM := hide hM
      have HMK := hide hMk
      have H4 := hide n4
      have H5 := hide n5
      have H6 := hide n6
      clear hpre hM hMk n4 n5 n6
      have e5 := hR.x5.cell 0; have e9 := h9.cell 0
      simp only [List.getElem?_toArray, List.getElem?_cons_zero] at e5 e9
      dsimp only
      have hd1 : decide (a < nxr pre) = false := by simp; omega
      have hd2 : decide (b < a) = false := by simp; omega
      refine cases4 (p := 0 < a) (q := b < 255) ?c1 ?c2 ?c3 ?c4
      case' c1 =>
        intro ha hb
        have ex1 := hR.x0.cell (a - 1)
        rw [bArr_get _ _ (by omega), H5.out (a - 1) (by omega)] at ex1
        have ea : ((a : Int) - 1).toNat = a - 1 := by omega
        have ex2 := hR.x0.cell (b + 1)
        rw [bArr_get _ _ (by omega), H6.out hb] at ex2
        have eb : ((b : Int) + 1).toNat = b + 1 := by omega
        have hbI : (b : Int) < 255 := by omega
        gi_wp2
        clear ex1 ex2 ea eb hbI
      case' c2 =>
        intro ha hb
        have ex1 := hR.x0.cell (a - 1)
        rw [bArr_get _ _ (by omega), H5.out (a - 1) (by omega)] at ex1
        have ea : ((a : Int) - 1).toNat = a - 1 := by omega
        have hbI : ¬ (b : Int) < 255 := by omega
        gi_wp2
        clear ex1 ea hbI
      case' c3 =>
        intro ha hb
        have haI : ¬ 0 < (a : Int) := by omega
        have ex2 := hR.x0.cell (b + 1)
        rw [bArr_get _ _ (by omega), H6.out hb] at ex2
        have eb : ((b : Int) + 1).toNat = b + 1 := by omega
        have hbI : (b : Int) < 255 := by omega
        gi_wp2
        clear haI ex2 eb hbI
      case' c4 =>
        intro ha hb
        have haI : ¬ 0 < (a : Int) := by omega
        have hbI : ¬ (b : Int) < 255 := by omega
        gi_wp2
        clear haI hbI
      all_goals
        clear ha hb e5 e9
        gi_loopw [12] (fun i wr => ∃ k : Nat, a ≤ k ∧ k ≤ b + 1 ∧ i = .int .i64 k ∧ RW s stop B xb N wr ∧ Blk wr N2 #[.int .i64 (nxr pre)] 3 ∧ Blk wr (N + 2) #[.int .i64 (n - tot pre - (k - a) : Nat)] 3 ∧ Agree (fun k => ¬ M k) W wr) (fun i _ => 256 - (intOf i).toNat)
        case atStart => exact ⟨a, Nat.le_refl _, by omega, rfl, hR, h9, by simpa using h7, Agree.refl _ _⟩
        case round =>
          obtain ⟨k, k1, k2, rfl, hR1, h91, h71, hag⟩ := hrel
          have e9 := h91.cell 0; have e7 := h71.cell 0; have e5 := hR1.x5.cell 0
          simp only [List.getElem?_toArray, List.getElem?_cons_zero] at e9 e7 e5
          have f9 := h91.frozen 0; have f7 := h71.frozen 0
          by_cases hkb : k ≤ b
          · have ex := hR1.x0.cell k
            rw [bArr_get _ k (by omega), H4.out k k1 hkb] at ex
            obtain ⟨m, hm⟩ : ∃ m : Nat, n - tot pre - (k - a) = m + 1 := ⟨n - tot pre - (k - a) - 1, by omega⟩
            have hm2 : m ≤ 256 := by omega
            have hm3 : n - tot pre - (k + 1 - a) = m := by omega
            rw [hm] at e7 h71
            have hkI : (k : Int) ≤ b := by omega
            gi_wp2
            have h72 := h71.set 0 (.int .i64 m)
            refine ⟨⟨k + 1, by omega, by omega, by go_num, hR1.set _ _ (by omega) (by omega) (by omega), h91.setOther _ _ (by simp; omega), ?_, hag.trans (Agree.setCell _ _ _ (fun h => h (HMK.out _ (by simp; omega) (by simp))))⟩, by simp [intOf]; omega⟩
            rw [hm3]; exact h72
          · have HKB := hide (show k = b + 1 from by omega)
            have hkI : decide (k ≤ b) = false := by simp; omega
            clear k2
            gi_wp2
            have hk := HKB.out
            have h92 := h91.set 0 (.int .i64 (b + 1))
            refine ⟨M, Foot.same HM.out (hag.trans (Agree.setCell _ _ _ (fun h => h hMN))), HMK.out, hMN, hR1.set _ _ (by omega) (by omega) (by omega), ?_, ?_⟩
            · rw [nxr_snoc]; exact h92
            · have e : n - tot (pre ++ [(a, b)]) = n - tot pre - (k - a) := by rw [tot_snoc]; simp only; omega
              rw [e]; exact h71.setOther _ _ (by simp; omega)
    case done2 =>
      rintro D2 M2 W4 ⟨-, -, hR, -, h7⟩ hF hD2 hK -
      have hQ4 : RQ s stop B xb N 0 [D2, D1] w W4 := by
        refine ⟨hR, ?_, fun D h => ?_, hQ3.below.trans (hF.agree.below B (by omega) (fun k hk h => by omega))⟩
        · have e : n - tot (runsOf s) = 0 := by rw [tot_runs, hn0]; omega
          rw [e] at h7; exact h7
        · simp at h
          rcases h with rfl | rfl
          · exact hK
          · exact (hF.agree.block _ (by omega) (fun h => by omega)).trans (hQ3.ds _ (by simp))
      clear hR h7 hF hK hQ3 k9 k10 HT3
      have z4 : D2 < W4.heap.size := (Array.getElem?_eq_some_iff.1 (hQ4.ds D2 (by simp))).1
      have c0 := hQ4.rw.s0.cell 0; have c1 := hQ4.rw.s0.cell 1; have c2 := hQ4.rw.s0.cell 2; have c3 := hQ4.rw.s0.cell 3; have cst := hQ4.rw.st.cell 0
      have fst := hQ4.rw.st.frozen 0
      simp only [List.getElem?_toArray, List.getElem?_cons_zero, List.getElem?_cons_succ] at c0 c1 c2 c3 cst
      have z5 : B < W4.heap.size := by omega
      have z6 : B + 1 < W4.heap.size := by omega
      gi_wp2_with fail
      obtain ⟨m, hm, hmb⟩ := and15 stop
      rw [hmb]
      refine ⟨trivial, rfl, ?_⟩
      refine (callsIn_wide.2 (bytes_any s _)).mono ?_
      rintro e w5 ⟨rfl, rfl⟩
      gi_wp2
      clear c0 c1 c2 c3 cst fst z5 z6
      refine wpIn_world (fun W => RQ s m B xb N 0 [D2, D1] w W ∧ Blk W W4.heap.size #[.int .i64 0] 3 ∧ Blk W (W4.heap.size + 1) (WS s) 24) ⟨?_, ?_, ?_⟩ ?_
      · have h1 : RQ s m B xb N 0 [D2, D1] w (W4.setCell ⟨B + 1, 0, none⟩ (.int .i64 m)) := by
          refine ⟨⟨hQ4.rw.s0.setOther _ _ (by simp), hQ4.rw.st.set 0 _, hQ4.rw.rs.setOther _ _ (by simp), hQ4.rw.x0.setOther _ _ (by simp; omega), hQ4.rw.x5.setOther _ _ (by simp; omega)⟩, hQ4.n0.setOther _ _ (by simp; omega), fun D h => ?_, hQ4.below.setCell (by simp) _⟩
          refine (Below.heap_setCell _ _ _ _ ?_).trans (hQ4.ds D h)
          simp at h ⊢
          omega
        exact h1.step (((Below.refl _ _).alloc (Nat.le_refl _) _).alloc (by simp) _)
      · exact (Blk.newAt (by simp) _ _).alloc _
      · exact Blk.newAt (by simp) _ _
      rintro W5 ⟨hQ5, k11, k12⟩
      have HT5 := hide (HT.out.agree (Agree.of_all (K := fun _ => True) (hB0 ▸ hQ5.below)) trivial)
      have z7 := k12.lt
      clear hQ4
      generalize hN3 : W4.heap.size = N3 at *
      refine wpIn_rangeB (gf := 54) (lb := #[.pointer (some ⟨N3 + 1, 0, none⟩)]) rfl enters_bytes (encs := fun x : Nat => #[.int .u8 x]) (xs := bytesOf s)
        (own := fun k => k = N3 + 1 ∨ k = 0)
        (fun W1 hb => bytes1_any s _ W1 (k12.below hb z7) (HT5.out.agree (Agree.of_all (K := fun _ => True) hb) trivial)) (fun _ => rfl)
        (fun pre M W => M N3 ∧ M (B + 1) ∧ Blk W N3 #[.int .i64 pre.length] 3 ∧ Blk W (B + 1) #[.int .i64 m] 3 ∧ pre.length ≤ m)
        (fun pre M W => M N3 ∧ M (B + 1) ∧ Blk W N3 #[.int .i64 m] 3 ∧ Blk W (B + 1) #[.int .i64 m] 3 ∧ m < pre.length)
        (fun _ M X Y h ha => ⟨h.1, h.2.1, h.2.2.1.agree ha h.1, h.2.2.2.1.agree ha h.2.1, h.2.2.2.2⟩)
        (fun _ M X Y h ha => ⟨h.1, h.2.1, h.2.2.1.agree ha h.1, h.2.2.2.1.agree ha h.2.1, h.2.2.2.2⟩)
        (fun k => k = N3 ∨ k = B + 1) (fun k hk => by omega)
        (fun k hk => by rcases hk with rfl | rfl <;> exact ⟨fun h => by omega, by omega⟩) ⟨.inl rfl, .inr rfl, k11, hQ5.rw.st, by simp⟩
        (fun x => { tmps := #[SV s, .int .i64 stop, .pointer (some ⟨B, 0, none⟩), .pointer (some ⟨B + 1, 0, none⟩), .pointer (some ⟨B + 1 + 1, 0, none⟩), .pointer (some ⟨N, 0, none⟩), .pointer (some ⟨N + 1, 0, none⟩), .pointer (some ⟨N + 1 + 1, 0, none⟩), undef, .pointer (some ⟨N2, 0, none⟩), undef, undef, undef, .pointer (some ⟨N3, 0, none⟩), .bool true, .bool false, SV s, .slice (some ⟨xb, 0, none⟩) 256 256, SV s, .func (.func 54) #[] #[.pointer (some ⟨N + 1 + 1 + 1, 0, none⟩)], undef, undef, undef, undef, undef, undef, undef, undef, undef, undef, undef, undef, undef, undef, undef, undef, undef, undef, undef, undef, .int .i64 n, SV s, .int .i64 n, .bool false, SV s, .func (.func 56) #[] #[.pointer (some ⟨N2 + 1, 0, none⟩)], undef, undef, undef, undef, undef, undef, undef, undef, undef, undef, undef, undef, undef, undef, undef, undef, undef, undef, undef, undef, undef, undef, undef, undef, undef, undef, undef, undef, undef, undef, undef, undef, undef, undef, undef, undef, undef, undef, undef, undef, undef, undef, undef, undef, undef, undef, undef, undef, undef, undef, undef, .int .i64 stop, .int .i64 m, SV s, .func (.func 54) #[] #[.pointer (some ⟨N3 + 1, 0, none⟩)], .int .u8 x, undef, undef, undef, undef, undef, undef, undef, undef, undef, undef, undef, undef, undef, undef, undef, undef, undef, undef, undef], defers := [] }) ?assign3 ?body3 ?end3
      case assign3 =>
        intro l x W K hK
        gi_wp2
        exact hK
      case body3 =>
        rintro l pre x M W hpre ⟨m1, m2, h13, h3, hle⟩ hM
        have e13 := h13.cell 0; have e3 := h3.cell 0
        simp only [List.getElem?_toArray, List.getElem?_cons_zero] at e13 e3
        have f13 := h13.frozen 0
        have hlen : (pre ++ [x]).length = pre.length + 1 := by simp
        have HL := hide hlen
        clear hlen hpre
        by_cases he : pre.length = m
        · have HE := hide he
          rw [he] at e13
          clear he
          gi_wp2
          refine ⟨M, Foot.refl M W hM, rfl, m1, m2, ?_, h3, by rw [HL.out, HE.out]; omega⟩
          rw [← HE.out]; exact h13
        · have HE := hide he
          clear he
          obtain ⟨q, hq⟩ : ∃ q, q = pre.length := ⟨_, rfl⟩
          have HQL := hide hq
          rw [← hq] at e13 hle
          have hne : ¬ q = m := by rw [hq]; exact HE.out
          have hd1 : ((q : Int) == (m : Int)) = false := by simp; omega
          have hd2 : decide (q = m) = false := by simp; omega
          clear hq
          gi_wp2
          have h132 := h13.set 0 (.int .i64 (q + 1))
          refine ⟨M, Foot.same hM (Agree.setCell _ _ _ (fun h => h m1)), m1, m2, ?_, h3.setOther _ _ (by simp; omega), by rw [HL.out, ← HQL.out]; omega⟩
          rw [HL.out, ← HQL.out]; exact h132
      case end3 =>
        rintro D3 M3 W6 hcase hF hD3 hK -
        obtain ⟨q, hq⟩ : ∃ q, q = min m n := ⟨_, rfl⟩
        have hseen : Blk W6 N3 #[.int .i64 q] 3 ∧ Blk W6 (B + 1) #[.int .i64 m] 3 := by
          rcases hcase with ⟨-, -, h1, h2, h3⟩ | ⟨pre, hp, -, -, h1, h2, h3⟩
          · rw [hn0] at h1 h3
            have : q = n := by omega
            rw [this]; exact ⟨h1, h2⟩
          · have := hp.length_le
            rw [hn0] at this
            have : q = m := by omega
            rw [this]; exact ⟨h1, h2⟩
        have hQ6 : RQ s m B xb N 0 [D3, D2, D1] w W6 := by
          refine ⟨⟨hQ5.rw.s0.agree hF.agree (fun h => by omega), hseen.2, hQ5.rw.rs.agree hF.agree (fun h => by omega), hQ5.rw.x0.agree hF.agree (fun h => by omega), hQ5.rw.x5.agree hF.agree (fun h => by omega)⟩, hQ5.n0.agree hF.agree (fun h => by omega), fun D h => ?_, hQ5.below.trans (hF.agree.below B (by omega) (fun k hk h => by omega))⟩
          simp at h
          rcases h with rfl | rfl | rfl
          · exact hK
          · exact (hF.agree.block _ (by omega) (fun h => by omega)).trans (hQ5.ds _ (by simp))
          · exact (hF.agree.block _ (by omega) (fun h => by omega)).trans (hQ5.ds _ (by simp))
        have hsn := hseen.1
        clear hcase hF hK hQ5 k11 k12 HT5 hseen
        have z8 : D3 < W6.heap.size := (Array.getElem?_eq_some_iff.1 (hQ6.ds D3 (by simp))).1
        have c0 := hQ6.rw.s0.cell 0; have c1 := hQ6.rw.s0.cell 1; have c2 := hQ6.rw.s0.cell 2; have c3 := hQ6.rw.s0.cell 3
        simp only [List.getElem?_toArray, List.getElem?_cons_zero, List.getElem?_cons_succ] at c0 c1 c2 c3
        gi_wp2_with fail
        refine ⟨trivial, rfl, ?_⟩
        refine (callsIn_wide.2 (runs_any s _)).mono ?_
        rintro e w5 ⟨rfl, rfl⟩
        gi_wp2
        clear c0 c1 c2 c3
        refine wpIn_world (fun W => RQ s m B xb N 0 [D3, D2, D1] w W ∧ Blk W N3 #[.int .i64 q] 3 ∧ Blk W W6.heap.size (WS s) 24) ⟨?_, ?_, ?_⟩ ?_
        · exact hQ6.step ((Below.refl _ _).alloc (Nat.le_refl _) _)
        · exact hsn.alloc _
        · exact Blk.newAt rfl _ _
        rintro W7 ⟨hQ7, hsn, k14⟩
        have HT7 := hide (HT.out.agree (Agree.of_all (K := fun _ => True) (hB0 ▸ hQ7.below)) trivial)
        have z9 := k14.lt
        clear hQ6
        generalize hN4 : W6.heap.size = N4 at *
        refine wpIn_rangeB (gf := 56) (lb := #[.pointer (some ⟨N4, 0, none⟩)]) rfl enters_runs (encs := fun x : Nat × Nat => #[.int .u8 x.1, .int .u8 x.2]) (xs := runsOf s)
          (own := fun k => k = N4 ∨ k = 0)
          (fun W1 hb => runs1_any s _ W1 (k14.below hb z9) (HT7.out.agree (Agree.of_all (K := fun _ => True) hb) trivial)) (fun _ => rfl)
          (fun _ _ _ => True) (fun _ _ _ => True) (fun _ M X Y h ha => trivial) (fun _ M X Y h ha => trivial)
          (fun _ => False) (fun k hk => hk.elim)
          (fun k hk => by rcases hk with rfl | rfl <;> exact ⟨fun h => h, by omega⟩) trivial
          (fun x => { tmps := #[SV s, .int .i64 stop, .pointer (some ⟨B, 0, none⟩), .pointer (some ⟨B + 1, 0, none⟩), .pointer (some ⟨B + 1 + 1, 0, none⟩), .pointer (some ⟨N, 0, none⟩), .pointer (some ⟨N + 1, 0, none⟩), .pointer (some ⟨N + 1 + 1, 0, none⟩), undef, .pointer (some ⟨N2, 0, none⟩), undef, undef, undef, .pointer (some ⟨N3, 0, none⟩), .bool true, .bool false, SV s, .slice (some ⟨xb, 0, none⟩) 256 256, SV s, .func (.func 54) #[] #[.pointer (some ⟨N + 1 + 1 + 1, 0, none⟩)], undef, undef, undef, undef, undef, undef, undef, undef, undef, undef, undef, undef, undef, undef, undef, undef, undef, undef, undef, undef, .int .i64 n, SV s, .int .i64 n, .bool false, SV s, .func (.func 56) #[] #[.pointer (some ⟨N2 + 1, 0, none⟩)], undef, undef, undef, undef, undef, undef, undef, undef, undef, undef, undef, undef, undef, undef, undef, undef, undef, undef, undef, undef, undef, undef, undef, undef, undef, undef, undef, undef, undef, undef, undef, undef, undef, undef, undef, undef, undef, undef, undef, undef, undef, undef, undef, undef, undef, undef, undef, undef, undef, undef, undef, .int .i64 stop, .int .i64 m, SV s, .func (.func 54) #[] #[.pointer (some ⟨N3 + 1, 0, none⟩)], undef, undef, undef, undef, undef, undef, SV s, .func (.func 56) #[] #[.pointer (some ⟨N4, 0, none⟩)], .int .u8 x.1, .int .u8 x.2, undef, undef, undef, undef, undef, undef, undef, undef, undef, undef], defers := [] }) ?assign4 ?body4 ?end4
        case assign4 =>
          intro l x W K hK
          gi_wp2
          exact hK
        case body4 =>
          rintro l pre x M W hpre - hM
          gi_wp2
          exact ⟨M, Foot.refl M W hM, rfl, trivial⟩
        case end4 =>
          rintro D4 M4 W8 - hF hD4 hK -
          have hS8 : RS s m B N N3 q [D4, D3, D2, D1] w W8 := by
            have ha : Agree (fun k => ¬ False) W7 W8 := hF.agree
            refine ⟨hQ7.rw.s0.agree ha id, hQ7.rw.st.agree ha id, ⟨_, hQ7.rw.rs.agree ha id⟩, hQ7.n0.agree ha id, hsn.agree ha id, fun D h => ?_, hQ7.below.trans (ha.below B (by omega) (fun k hk => id))⟩
            simp at h
            rcases h with rfl | h
            · exact hK
            · exact (ha.block _ (by omega) id).trans (hQ7.ds _ (by simp; exact h))
          clear hF hK hQ7 hsn k14 HT7
          have hDs : ∀ D ∈ [D4, D3, D2, D1], B + 2 < D := by
            intro D h
            simp at h
            omega
          have hnd : [D4, D3, D2, D1].Nodup := by simp; omega
          gi_wp2
          refine wpIn_wide.2 (wp_region_noPanic (wp_region_held (S := RS s m B N N3 q [D4, D3, D2, D1] w) (by kernel_rfl) ?_))
          have hS9 := hS8.drew
          clear hS8
          show wpAnyH _ _ _ _ _ 11 #[false, false, false, false, false, false, false, false, false, false, false] _ _
          generalize ({ heap := W8.heap, tape := W8.tape, drawn := W8.drawn + 1, os := W8.os, output := W8.output } : World) = W9 at hS9 ⊢
          refine h_take 0 (.int .i64 0) rfl (by kernel_rfl) (by kernel_rfl) (by kernel_rfl) rfl (fun w hw => x_loadInt _ _ _ _ _ _ _ (N + 1 + 1) 0 0 rfl w (hw.n0.cell 0)) hS9 ?_
          simp only [Act.put, List.setIfInBounds_toArray, List.set_cons_succ, List.set_cons_zero]
          refine h_take 1 (.bool true) rfl (by kernel_rfl) (by kernel_rfl) (by kernel_rfl) rfl (fun w hw => x_eqInt _ _ _ _ _ _ _ _ 0 0 rfl rfl w) hS9 ?_
          simp only [Act.put, List.setIfInBounds_toArray, List.set_cons_succ, List.set_cons_zero]
          refine h_take 2 (.bool true) rfl (by kernel_rfl) (by kernel_rfl) (by kernel_rfl) rfl (fun w hw => x_move _ _ _ _ _ _ _ _ rfl w) hS9 ?_
          simp only [Act.put, List.setIfInBounds_toArray, List.set_cons_succ, List.set_cons_zero]
          refine h_take 3 (.int .i64 q) rfl (by kernel_rfl) (by kernel_rfl) (by kernel_rfl) rfl (fun w hw => x_loadInt _ _ _ _ _ _ _ N3 0 q rfl w (hw.sn.cell 0)) hS9 ?_
          simp only [Act.put, List.setIfInBounds_toArray, List.set_cons_succ, List.set_cons_zero]
          refine h_take 4 (.int .i64 m) rfl (by kernel_rfl) (by kernel_rfl) (by kernel_rfl) rfl (fun w hw => x_loadInt _ _ _ _ _ _ _ (B + 1) 0 m rfl w (hw.st.cell 0)) hS9 ?_
          simp only [Act.put, List.setIfInBounds_toArray, List.set_cons_succ, List.set_cons_zero]
          refine h_take 5 (SV s) rfl (by kernel_rfl) (by kernel_rfl) (by kernel_rfl) rfl (fun w hw => x_loadSet _ _ _ _ _ _ _ _ s rfl w hw.s0) hS9 ?_
          simp only [Act.put, List.setIfInBounds_toArray, List.set_cons_succ, List.set_cons_zero]
          refine h_call 6 22 #[SV s] (.int .i64 n) rfl (by kernel_rfl) rfl (x_call1 _ _ _ _ _ _ _ _ _ _ rfl rfl (enters_of Tryd.func22 (by kernel_rfl) rfl) _) ((len_any s _).mono ?_) ?_
          · rintro e w' ⟨rfl, hb⟩
            rw [hcard]
            exact ⟨rfl, hS9.step hb⟩
          clear hS9 W9
          intro W9 hS9
          simp only [Act.put, List.setIfInBounds_toArray, List.set_cons_succ, List.set_cons_zero]
          refine h_take 7 (.int .i64 q) rfl (by kernel_rfl) (by kernel_rfl) (by kernel_rfl) rfl (fun w hw => by rw [show (q : Int) = min (m : Int) (n : Int) from by omega]; exact x_min _ _ _ _ _ _ _ _ _ _ rfl rfl w) hS9 ?_
          simp only [Act.put, List.setIfInBounds_toArray, List.set_cons_succ, List.set_cons_zero]
          refine h_take 8 (.bool true) rfl (by kernel_rfl) (by kernel_rfl) (by kernel_rfl) rfl (fun w hw => by rw [show true = ((q : Int) == (q : Int)) from by simp]; exact x_eqInt _ _ _ _ _ _ _ _ _ _ rfl rfl w) hS9 ?_
          simp only [Act.put, List.setIfInBounds_toArray, List.set_cons_succ, List.set_cons_zero]
          refine h_take 9 (.bool true) rfl (by kernel_rfl) (by kernel_rfl) (by kernel_rfl) rfl (fun w hw => x_pick _ _ _ _ _ _ _ _ _ true _ _ rfl rfl rfl w) hS9 ?_
          simp only [Act.put, List.setIfInBounds_toArray, List.set_cons_succ, List.set_cons_zero]
          obtain ⟨r, hr⟩ := hS9.rs
          refine h_step 10 (W9.setCell ⟨B + 2, 0, none⟩ (.bool true)) rfl (by kernel_rfl) rfl (x_storeBool _ _ _ _ _ _ _ _ (B + 2) true r rfl rfl _ hr) (hS9.store true (by omega) (by omega) hDs) ?_
          simp only [Act.put, List.setIfInBounds_toArray, List.set_cons_succ, List.set_cons_zero]
          have hSA := hS9.store true (by omega) (by omega) hDs
          have hres := hr.set 0 (.bool true)
          clear hS9 hr
          refine wpAnyH_done (by kernel_rfl) ?_ _
          generalize W9.setCell ⟨B + 2, 0, none⟩ (.bool true) = WA at hSA hres ⊢
          refine NoPanic.normal ?_
          have HS := hide hSA
          have HR := hide hres
          have HDS := hide hDs
          have HND := hide hnd
          clear hSA hres hDs hnd
          gi_wp2
          have hk : (shutAll WA [D4, D3, D2, D1]).cell? ⟨B + 1 + 1, 0, none⟩ = some (.bool true) := (Blk.shutAll [D4, D3, D2, D1] HR.out (fun D h => by have := HDS.out D h; omega)).cell 0
          refine leaves_marks [D4, D3, D2, D1] WA HND.out HS.out.ds (v := .bool true) ?_ ⟨rfl, ?_⟩
          · simp [results, Tryd.results5, go_sem, hk]
          · rw [hB0]; exact below_shutAll [D4, D3, D2, D1] HS.out.below (fun D h => by have := HDS.out D h; omega)
  case stop =>
    rintro D c pre M' W hp h
    exact h.elim
theorem setRuns_any (s : BitVec 256) (stop : Int) (w : World) (hT : TabAt w) :
    Calls Tryd.prog 5 #[SV s, .int .i64 stop] w fun e w' => e = .returned (.bool true) ∧ Below w.heap.size w w' :=
  callsIn_wide.1 (setRuns_in s stop w hT)
end Go.Proofs.YtfoamihjmmgnlaaDoor
