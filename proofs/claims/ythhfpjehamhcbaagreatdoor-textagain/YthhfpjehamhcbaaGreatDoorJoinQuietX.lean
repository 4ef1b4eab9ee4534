/- Texts of this claim put together: SetF, QuietX. -/
import Derived.Test.YthhfpjehamhcbaaGreatDoorJoinMathRuns
import Derived.Test.YthhfpjehamhcbaaGreatDoorJoinQuiet
/- Contracts: Bytes, Runs, Least; the iterator that Runs hands out. -/
namespace Go.Proofs.YthhfpjehamhcbaaGreatDoor
set_option maxRecDepth 100000
open Go.RowKit Go.Shelf
attribute [local go_sem] Oper.semAt_some

set_option maxHeartbeats 400000 in
theorem bytes_any (s : BitVec 256) (w : World) :
    Calls Tryz.prog 65 #[SV s] w fun e w' => e = .returned (.func (.func 92) #[] #[.pointer (some ⟨w.heap.size, 0, none⟩)]) ∧ w' = w.alloc (.cells (WS s) 49) := by
  go_enter Tryz.func65, Tryz.ntmps65
  go_wp2
  go_ret
  exact ⟨rfl, rfl⟩
set_option maxHeartbeats 400000 in
theorem runs_any (s : BitVec 256) (w : World) :
    Calls Tryz.prog 125 #[SV s] w fun e w' => e = .returned (.func (.func 144) #[] #[.pointer (some ⟨w.heap.size, 0, none⟩)]) ∧ w' = w.alloc (.cells (WS s) 49) := by
  go_enter Tryz.func125, Tryz.ntmps125
  go_wp2
  go_ret
  exact ⟨rfl, rfl⟩

theorem enters_bytes : ∀ args w, (callFunc 92 args).run Tryz.prog w = .ok (.enter 92 args) w := enters_of Tryz.func92 (by kernel_rfl) rfl

/-- The least of some bytes that go up. -/
def leastV (l : List Nat) : Value := .tuple #[.int .u8 (l.headD 0), .bool (!l.isEmpty)]

set_option maxRecDepth 100000 in
set_option maxHeartbeats 1000000 in
theorem least_in (s : BitVec 256) (w : World) (hT : TabAt w) :
    CallsIn Fence.wide 0 Tryz.prog 31 #[SV s] w fun e w' => e = .returned (leastV (bytesOf s)) ∧ Below w.heap.size w w' ∧ w.drawn ≤ w'.drawn := by
  refine callsIn_of_wp_marks Tryz.func31 rfl trivial ?_ rfl
  simp only [Tryz.ntmps31, List.size_toArray, List.length_cons, List.length_nil, Nat.reduceAdd, Nat.reduceSub, Array.replicate_succ, Array.replicate_zero, List.push_toArray, List.append_toArray, List.nil_append, List.cons_append]
  gi_wp2_with fail
  refine ⟨trivial, rfl, ?_⟩
  refine (callsIn_wide.2 (bytes_any s _)).mono ?_
  rintro e w1 ⟨rfl, rfl⟩
  gi_wp2
  refine wpIn_world (fun W => Blk W (w.heap.size + 1) #[.int .u8 0] 5 ∧ Blk W (w.heap.size + 2) #[.bool false] 4 ∧ Blk W (w.heap.size + 3) (WS s) 49 ∧ Below w.heap.size w W ∧ w.drawn ≤ W.drawn) ⟨?_, ?_, ?_, ?_, Nat.le_refl _⟩ ?_
  · exact ((Blk.newAt (by simp) _ _).alloc _).alloc _
  · exact (Blk.newAt (by simp) _ _).alloc _
  · exact Blk.newAt (by simp) _ _
  · exact ((((Below.refl _ _).alloc (Nat.le_refl _) _).alloc (by simp) _).alloc (by simp; omega) _).alloc (by simp; omega) _
  rintro W0 ⟨k1, k2, k3, hbel, hdr⟩
  have z1 := k1.lt; have z2 := k2.lt; have z3 := k3.lt
  have hT0 : TabAt W0 := hT.agree (Agree.of_all (K := fun _ => True) hbel) trivial
  have hG : 0 < w.heap.size := World.block_lt_of_cell? _ _ (hT 0 (by omega))
  have HT := hide hT0
  have HB := hide hbel
  clear hT hT0 hbel
  refine wpIn_rangeM (gf := 92) (lb := #[.pointer (some ⟨w.heap.size + 3, 0, none⟩)]) rfl enters_bytes (encs := fun x : Nat => #[.int .u8 x]) (xs := bytesOf s)
    (own := fun k => k = w.heap.size + 3 ∨ k = 0)
    (fun W1 hb => bytes1_any s _ W1 (k3.below hb z3) (HT.out.agree (Agree.of_all (K := fun _ => True) hb) trivial)) (fun _ => rfl)
    (fun pre M W => pre = [] ∧ M (w.heap.size + 1) ∧ M (w.heap.size + 2) ∧ Blk W (w.heap.size + 1) #[.int .u8 0] 5 ∧ Blk W (w.heap.size + 2) #[.bool false] 4)
    (fun c pre M W => c = .ret ∧ ∃ x, pre = [x] ∧ Blk W (w.heap.size + 1) #[.int .u8 (x : Nat)] 5 ∧ Blk W (w.heap.size + 2) #[.bool true] 4 ∧ M (w.heap.size + 1) ∧ M (w.heap.size + 2))
    (fun _ M A B h ha => ⟨h.1, h.2.1, h.2.2.1, h.2.2.2.1.agree ha h.2.1, h.2.2.2.2.agree ha h.2.2.1⟩)
    (fun _ _ M A B h ha => by obtain ⟨rfl, x, rfl, b1, b2, m1, m2⟩ := h; exact ⟨rfl, x, rfl, b1.agree ha m1, b2.agree ha m2, m1, m2⟩)
    (fun k => k = w.heap.size + 1 ∨ k = w.heap.size + 2) (fun k hk => by rcases hk with rfl | rfl <;> assumption)
    (fun k hk => by rcases hk with rfl | rfl <;> exact ⟨fun h => by omega, by omega⟩) ⟨rfl, .inl rfl, .inr rfl, k1, k2⟩
    (fun x => { tmps := #[SV s, .pointer (some ⟨w.heap.size, 0, none⟩), .pointer (some ⟨w.heap.size + 1, 0, none⟩), .pointer (some ⟨w.heap.size + 1 + 1, 0, none⟩), .int .u8 x, SV s,
      .func (.func 92) #[] #[.pointer (some ⟨w.heap.size + 1 + 1 + 1, 0, none⟩)], .int .u8 x, undef], defers := [] }) ?assign ?body ?done ?stop
  case assign =>
    intro l x W K hK
    gi_wp2
    exact hK
  case body =>
    rintro l pre x M W hpre ⟨rfl, m1, m2, b1, b2⟩ hM
    have f1 := b1.frozen 0; have f2 := b2.frozen 0
    have g1 := b1.cell 0; have g2 := b2.cell 0
    simp only [List.getElem?_toArray, List.getElem?_cons_zero] at g1 g2
    gi_wp2
    have b3 := (b1.set 0 (.int .u8 x)).setOther ⟨w.heap.size + 1 + 1, 0, none⟩ (.bool true) (by simp)
    have b4 := (b2.setOther ⟨w.heap.size + 1, 0, none⟩ (.int .u8 x) (by simp)).set 0 (.bool true)
    exact ⟨M, Foot.same hM ((Agree.setCell _ _ _ (fun h => h m1)).trans (Agree.setCell _ _ _ (fun h => h m2))), rfl, x, rfl, b3, b4, m1, m2⟩
  case done =>
    rintro D M' W ⟨hnil, m1, m2, b1, b2⟩ hF hD hK hn
    have f1 := b1.frozen 0; have f2 := b2.frozen 0
    have g1 := b1.cell 0; have g2 := b2.cell 0
    simp only [List.getElem?_toArray, List.getElem?_cons_zero] at g1 g2
    have HN := hide hnil
    have HF := hide hF
    have HK := hide hK
    clear hnil hF hK
    gi_wp2
    have e1 := ((b1.set 0 (.int .u8 0)).setOther ⟨w.heap.size + 1 + 1, 0, none⟩ (.bool false) (by simp)).putObj D (.deferred none) (by omega)
    have e2 := ((b2.setOther ⟨w.heap.size + 1, 0, none⟩ (.int .u8 0) (by simp)).set 0 (.bool false)).putObj D (.deferred none) (by omega)
    have q1 := e1.cell 0; have q2 := e2.cell 0
    simp only [List.setIfInBounds_toArray, List.set_cons_zero, List.getElem?_toArray, List.getElem?_cons_zero] at q1 q2
    refine leave_mark (v := leastV (bytesOf s)) ?_ ?_ ⟨rfl, ?_, Nat.le_trans hdr HF.out.agree.drawn⟩
    · rw [Below.heap_setCell _ _ _ _ (by simp; omega), Below.heap_setCell _ _ _ _ (by simp; omega)]; exact HK.out
    · rw [HN.out]; simp [results, Tryz.results31, go_sem, q1, q2, leastV]
    · have hb : Below w.heap.size W0 W := HF.out.agree.below w.heap.size (by omega) (fun k hk h => by omega)
      exact below_put (((HB.out.trans hb).setCell (p := ⟨w.heap.size + 1, 0, none⟩) (by simp) _).setCell (p := ⟨w.heap.size + 1 + 1, 0, none⟩) (by simp; omega) _) (by omega) _
  case stop =>
    rintro D c pre M' W hp ⟨rfl, x, rfl, b1, b2, m1, m2⟩ hF hD hK hn
    have HF := hide hF
    have HK := hide hK
    have HP := hide hp
    clear hF hK hp
    gi_wp2
    have e1 := b1.putObj D (.deferred none) (by omega)
    have e2 := b2.putObj D (.deferred none) (by omega)
    have q1 := e1.cell 0; have q2 := e2.cell 0
    simp only [List.getElem?_toArray, List.getElem?_cons_zero] at q1 q2
    refine leave_mark (v := leastV (bytesOf s)) HK.out ?_ ⟨rfl, ?_, Nat.le_trans hdr HF.out.agree.drawn⟩
    · obtain ⟨q, hq⟩ := HP.out
      rw [← hq]; simp [results, Tryz.results31, go_sem, q1, q2, leastV]
    · have hb : Below w.heap.size W0 W := HF.out.agree.below w.heap.size (by omega) (fun k hk h => by omega)
      exact below_put (HB.out.trans hb) (by omega) _

theorem least_any (s : BitVec 256) (w : World) (hT : TabAt w) :
    Calls Tryz.prog 31 #[SV s] w fun e w' => e = .returned (leastV (bytesOf s)) ∧ Below w.heap.size w w' := callsIn_wide.1 ((least_in s w hT).mono fun _ _ h => ⟨h.1, h.2.1⟩)
theorem least_drawn (s : BitVec 256) (w : World) (hT : TabAt w) :
    Calls Tryz.prog 31 #[SV s] w fun e w' => e = .returned (leastV (bytesOf s)) ∧ Below w.heap.size w w' ∧ w.drawn ≤ w'.drawn := callsIn_wide.1 (least_in s w hT)
end Go.Proofs.YthhfpjehamhcbaaGreatDoor
/- Operations within a region that draws its order. -/
namespace Go.Proofs.YthhfpjehamhcbaaGreatDoor
set_option maxRecDepth 100000
open Go.RowKit

theorem x_convU8 (ρ : Operand → Value) (d : Option Tmp) (x : Operand) (t : TypeId) (pos : String) (af : Array Edge) (g : Option (Nat × Bool)) (n : Int) (hx : ρ x = .int .i64 n) (h0 : 0 ≤ n) (h1 : n < 256) (w : World) :
    (execOp ρ { dst := d, op := .convert 3 5 x, type := t, pos := pos, after := af, guard := g }).run Tryz.prog w = .ok (.value (.int .u8 n)) w := by
  have e : IntKind.u8.wrap n = n := by simp [IntKind.wrap, IntKind.signed, IntKind.bits]; omega
  simp [go_sem, hx, e]
theorem x_convInt (ρ : Operand → Value) (d : Option Tmp) (x : Operand) (t : TypeId) (pos : String) (af : Array Edge) (g : Option (Nat × Bool)) (n : Int) (hx : ρ x = .int .u8 n) (h0 : 0 ≤ n) (h1 : n < 256) (w : World) :
    (execOp ρ { dst := d, op := .convert 5 3 x, type := t, pos := pos, after := af, guard := g }).run Tryz.prog w = .ok (.value (.int .i64 n)) w := by
  have e : IntKind.i64.wrap n = n := by rw [IntKind.wrap_i64]; omega
  simp [go_sem, hx, e]
theorem x_loadBool (ρ : Operand → Value) (d : Option Tmp) (x : Operand) (t : TypeId) (pos : String) (af : Array Edge) (g : Option (Nat × Bool)) (b n : Nat) (v : Bool) (hx : ρ x = .pointer (some ⟨b, n, none⟩)) (w : World) (hc : w.cell? ⟨b, n, none⟩ = some (.bool v)) :
    (execOp ρ { dst := d, op := .load 4 x, type := t, pos := pos, after := af, guard := g }).run Tryz.prog w = .ok (.value (.bool v)) w := by
  simp [go_sem, hx, hc]
theorem x_neqBool (ρ : Operand → Value) (d : Option Tmp) (x y : Operand) (t : TypeId) (pos : String) (af : Array Edge) (g : Option (Nat × Bool)) (u v : Bool) (hx : ρ x = .bool u) (hy : ρ y = .bool v) (w : World) :
    (execOp ρ { dst := d, op := .binOp .neq 4 x y 4, type := t, pos := pos, after := af, guard := g }).run Tryz.prog w = .ok (.value (.bool (u != v))) w := by
  cases u <;> cases v <;> simp [go_sem, hx, hy]
theorem x_eqBool (ρ : Operand → Value) (d : Option Tmp) (x y : Operand) (t : TypeId) (pos : String) (af : Array Edge) (g : Option (Nat × Bool)) (u v : Bool) (hx : ρ x = .bool u) (hy : ρ y = .bool v) (w : World) :
    (execOp ρ { dst := d, op := .binOp .eql 4 x y 4, type := t, pos := pos, after := af, guard := g }).run Tryz.prog w = .ok (.value (.bool (u == v))) w := by
  simp [go_sem, hx, hy]
theorem x_gtrInt (ρ : Operand → Value) (d : Option Tmp) (x y : Operand) (t : TypeId) (pos : String) (af : Array Edge) (g : Option (Nat × Bool)) (u v : Int) (hx : ρ x = .int .i64 u) (hy : ρ y = .int .i64 v) (w : World) :
    (execOp ρ { dst := d, op := .binOp .gtr 3 x y 3, type := t, pos := pos, after := af, guard := g }).run Tryz.prog w = .ok (.value (.bool (decide (v < u)))) w := by
  simp [go_sem, hx, hy]
theorem x_notBool (ρ : Operand → Value) (d : Option Tmp) (x : Operand) (t : TypeId) (pos : String) (af : Array Edge) (g : Option (Nat × Bool)) (u : Bool) (hx : ρ x = .bool u) (w : World) :
    (execOp ρ { dst := d, op := .unOp .not 4 x, type := t, pos := pos, after := af, guard := g }).run Tryz.prog w = .ok (.value (.bool (!u))) w := by
  simp [go_sem, hx]
theorem x_max (ρ : Operand → Value) (d : Option Tmp) (x y : Operand) (t : TypeId) (pos : String) (af : Array Edge) (g : Option (Nat × Bool)) (u v : Int) (hx : ρ x = .int .i64 u) (hy : ρ y = .int .i64 v) (w : World) :
    (execOp ρ { dst := d, op := .call { callee := .builtin .max, args := #[x, y], argTypes := #[3, 3] }, type := t, pos := pos, after := af, guard := g }).run Tryz.prog w = .ok (.value (.int .i64 (max u v))) w := by
  simp [go_sem, hx, hy]
  rw [Int.max_def]; split <;> split <;> omega

end Go.Proofs.YthhfpjehamhcbaaGreatDoor
