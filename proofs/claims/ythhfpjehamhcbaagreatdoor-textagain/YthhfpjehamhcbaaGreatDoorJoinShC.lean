/- Texts of this claim put together: ShB, ShC. -/
import Derived.Test.YthhfpjehamhcbaaGreatDoorJoinShA
/- Shapes: Count, Few, op, low. -/
namespace Go.Proofs.YthhfpjehamhcbaaGreatDoor
set_option maxRecDepth 100000
set_option linter.unusedSimpArgs false
set_option linter.unusedVariables false
open Go.RowKit

/-- How many parts. -/
def SHP.nodes : SHP → Nat
  | .mk _ _ _ _ ks => 1 + (ks.map fun k => k.nodes).sum
theorem SHP.nodes_mk (o : Int) (l u : Nat) (t : ByteArray) (ks : List SHP) : (SHP.mk o l u t ks).nodes = 1 + (ks.map SHP.nodes).sum := by rw [SHP.nodes]
/-- Short texts alone. -/
inductive Tx : SHP → Prop where
  | mk (o : Int) (l u : Nat) (t : ByteArray) (ks : List SHP) (ht : t.size ≤ 20) (hk : ∀ k ∈ ks, Tx k) : Tx (.mk o l u t ks)
/-- A shape as a value. -/
def ShVal (cs : List Value) : Value := .agg cs.toArray

set_option maxHeartbeats 1000000 in
theorem count_any (s : SHP) : ∀ (cs : List Value) (d : Nat) (w : World), ShC w cs s → d ≤ 13 →
    Calls Tryz.prog 36 #[ShVal cs, .int .i64 d] w fun e w' => ∃ c : Nat, e = .returned (.int .i64 c) ∧ (1 ≤ c ∧ c ≤ 1000 * (14 - d)) ∧ (c ≤ 30 → Tx s ∧ c = s.nodes) ∧ Below w.heap.size w w' := by
  refine SHP.ind (P := fun s => ∀ (cs : List Value) (d : Nat) (w : World), ShC w cs s → d ≤ 13 →
    Calls Tryz.prog 36 #[ShVal cs, .int .i64 d] w fun e w' => ∃ c : Nat, e = .returned (.int .i64 c) ∧ (1 ≤ c ∧ c ≤ 1000 * (14 - d)) ∧ (c ≤ 30 → Tx s ∧ c = s.nodes) ∧ Below w.heap.size w w') ?_ s
  intro o l u t ks ih cs d w h hd
  obtain ⟨v, rfl, hrow, ho, hlo, hhi, htx⟩ := h.open
  simp only [SHP.op, SHP.lo, SHP.hi, SHP.text, SHP.kids] at hrow ho hlo hhi htx ⊢
  obtain ⟨hn, a, cap, rfl, -⟩ := hrow.at
  have HR := hide hrow
  clear h hrow
  unfold ShVal
  by_cases hd12 : 12 < d
  · have hdd : decide ((12 : Int) < d) = true := by simp; omega
    have hdd2 : decide (12 < d) = true := by simp [hd12]
    go_enter Tryz.func36, Tryz.ntmps36
    go_wp2
    go_ret
    exact ⟨1000, rfl, ⟨by omega, by omega⟩, fun h => by omega, (Below.refl _ _).alloc (Nat.le_refl _) _⟩
  · have hdd : decide ((12 : Int) < d) = false := by simp; omega
    have hdd2 : decide (12 < d) = false := by simp; omega
    by_cases ht20 : 20 < t.size
    · have htt : decide ((20 : Int) < t.size) = true := by simp; omega
      have htt2 : decide (20 < t.size) = true := by simp [ht20]
      go_enter Tryz.func36, Tryz.ntmps36
      go_wp2
      go_ret
      exact ⟨1000, rfl, ⟨by omega, by omega⟩, fun h => by omega, (Below.refl _ _).alloc (Nat.le_refl _) _⟩
    · have htt : decide ((20 : Int) < t.size) = false := by simp; omega
      have htt2 : decide (20 < t.size) = false := by simp; omega
      go_enter Tryz.func36, Tryz.ntmps36
      go_wp2
      obtain ⟨B, hB⟩ : ∃ B, B = w.heap.size := ⟨_, rfl⟩
      rw [← hB]
      have HB := hide hB
      have hW0 : Below B w (w.alloc (.cells #[.int .i64 o, .int .u8 l, .int .u8 u, .string t, .slice a ks.length cap] 24)) := (Below.refl _ _).alloc (Nat.le_of_eq hB) _
      clear hB
      go_loopw [5, 19] (fun q c wr => ∃ (k n : Nat), k ≤ ks.length ∧ c = .int .i64 k ∧ q = .int .i64 n ∧ 1 ≤ n ∧ n ≤ 1000 ∧ Hid (n ≤ 30 → (∀ x ∈ ks.take k, Tx x) ∧ n = 1 + ((ks.take k).map SHP.nodes).sum) ∧ Hid (Below B w wr)) (fun _ c _ => ks.length - (intOf c).toNat)
      case atStart => exact ⟨0, 1, by omega, rfl, rfl, by omega, by omega, (fun _ => ⟨fun x hx => by simp at hx, rfl⟩), hW0⟩
      case round =>
        clear hW0
        obtain ⟨k, n, hk, rfl, rfl, hn1, hn2, HI, HW⟩ := hrel
        obtain ⟨-, a', cap', e1, g1⟩ := (HR.out.keep (show Below w.heap.size w wr from HB.out ▸ HW.out)).at
        obtain ⟨rfl, rfl⟩ : a = a' ∧ cap = cap' := by cases e1; exact ⟨rfl, rfl⟩
        clear e1
        by_cases hlt : k < ks.length
        · have hkd : decide (k < ks.length) = true := by simp [hlt]
          obtain ⟨b, off, kv, rfl, -, ⟨c0, c1, c2, c3, c4⟩, hC⟩ := g1 k hlt
          have hrec := ih _ (List.getElem_mem hlt) _ (d + 1) _ (hC.keep ((Below.refl wr.heap.size wr).alloc (Nat.le_refl _) (.cells #[.int .i64 ks[k].op, .int .u8 ks[k].lo, .int .u8 ks[k].hi, .string ks[k].text, kv] 24))) (by omega)
          have HT := hide (show ks.take (k + 1) = ks.take k ++ [ks[k]] from List.take_succ_eq_append_getElem hlt)
          have hBW : B ≤ wr.heap.size := by rw [HB.out]; exact HW.out.size
          obtain ⟨-, kf, kcap, hkv, -⟩ : True ∧ ∃ a c, kv = .slice a (ks[k]).kids.length c ∧ True := by
            obtain ⟨v', e', hr', -⟩ := hC.open
            obtain ⟨-, a', c', e'', -⟩ := hr'.at
            have : kv = v' := by simpa using e'
            exact ⟨trivial, a', c', this.trans e'', trivial⟩
          have HREC := hide hrec
          subst hkv
          generalize hks : ks[k] = sk at *
          clear hrec hC g1
          unfold ShVal at HREC
          go_wp2_with fail
          refine HREC.out.mono ?_
          rintro e w2 ⟨c, rfl, ⟨hc1, hc2⟩, hc3, hb2⟩
          have HC3 := hide hc3
          have HW2 := hide ((HW.out.alloc hBW (.cells #[.int .i64 sk.op, .int .u8 sk.lo, .int .u8 sk.hi, .string sk.text, .slice kf sk.kids.length kcap] 24)).trans (hb2.mono (by simp; omega)))
          have hcb : c ≤ 14000 := by omega
          clear hc3 hb2 HREC c0 c1 c2 c3 c4
          by_cases hbig : 1000 < n + c
          · have hbd : decide ((1000 : Int) < (n : Int) + c) = true := by simp; omega
            go_wp2
            go_ret
            refine ⟨n + c, ?_, ⟨by omega, by omega⟩, fun h => by omega, by rw [← HB.out]; exact HW2.out⟩
            congr 2
          · have hbd : decide ((1000 : Int) < (n : Int) + c) = false := by simp; omega
            go_wp2
            refine ⟨⟨k + 1, n + c, by omega, by go_num, by go_num, by omega, by omega, ?_, HW2⟩, by simp [intOf]; omega⟩
            intro h30
            obtain ⟨i1, i2⟩ := HI.out (by omega)
            obtain ⟨j1, j2⟩ := HC3.out (by omega)
            rw [HT.out]
            refine ⟨fun x hx => ?_, ?_⟩
            · rcases List.mem_append.1 hx with hx | hx
              · exact i1 x hx
              · simp at hx; subst hx; exact j1
            · rw [List.map_append, List.sum_append, i2, j2]; simp; omega
        · obtain rfl : k = ks.length := by omega
          rw [List.take_length] at HI
          clear g1
          go_wp2
          go_ret
          refine ⟨n, rfl, ⟨hn1, by omega⟩, fun h => ?_, by rw [← HB.out]; exact HW.out⟩
          obtain ⟨i1, i2⟩ := HI.out h
          exact ⟨.mk _ _ _ _ _ (by omega) i1, by rw [SHP.nodes_mk]; exact i2⟩
end Go.Proofs.YthhfpjehamhcbaaGreatDoor
/- Shapes: Few, op, low. -/
namespace Go.Proofs.YthhfpjehamhcbaaGreatDoor
set_option maxRecDepth 100000
set_option linter.unusedSimpArgs false
set_option linter.unusedVariables false
open Go.RowKit

theorem few_any (s : SHP) (cs : List Value) (w : World) (h : ShC w cs s) :
    Calls Tryz.prog 11 #[ShVal cs] w fun e w' => ∃ b : Bool, e = .returned (.bool b) ∧ (b = true → Tx s ∧ s.nodes ≤ 30) ∧ Below w.heap.size w w' := by
  have hb := (Below.refl w.heap.size w).alloc (Nat.le_refl _) (.cells cs.toArray 24)
  have hc := count_any s cs 0 _ (h.keep hb) (by omega)
  obtain ⟨v, rfl, hr, -⟩ := h.open
  obtain ⟨-, a, cap, rfl, -⟩ := hr.at
  have HC := hide hc
  have HB := hide hb
  clear hc hb h hr
  unfold ShVal at *
  go_enter Tryz.func11, Tryz.ntmps11
  go_wp2_with fail
  refine HC.out.mono ?_
  rintro e w1 ⟨c, rfl, -, h3, hb1⟩
  have H3 := hide h3
  have HB1 := hide (HB.out.trans (hb1.mono (by simp)))
  clear h3 hb1 HC
  go_wp2
  go_ret
  refine ⟨_, rfl, fun hd => ?_, HB1.out⟩
  have hd' : (c : Int) ≤ 30 := by simpa using hd
  obtain ⟨h1, h2⟩ := H3.out (by omega)
  exact ⟨h1, by omega⟩

/-- Which one. -/
def SHP.k (s : SHP) : Nat := (s.op % 18446744073709551616).toNat % 9
theorem op_any (s : SHP) (cs : List Value) (w : World) (h : ShC w cs s) :
    Calls Tryz.prog 38 #[ShVal cs] w fun e w' => e = .returned (.int .i64 s.k) ∧ Below w.heap.size w w' := by
  obtain ⟨v, rfl, hr, ho, -⟩ := h.open
  obtain ⟨-, a, cap, rfl, -⟩ := hr.at
  clear h hr
  have e1 : IntKind.u64.wrap s.op = s.op % 18446744073709551616 := by simp [IntKind.wrap, IntKind.signed, IntKind.bits]
  obtain ⟨m, hm⟩ : ∃ m : Nat, s.op % 18446744073709551616 = (m : Int) := ⟨(s.op % 18446744073709551616).toNat, by omega⟩
  have hk : s.k = m % 9 := by unfold SHP.k; rw [hm]; simp
  rw [hm] at e1
  have hm2 : (m : Int) < 18446744073709551616 := by omega
  unfold ShVal
  go_enter Tryz.func38, Tryz.ntmps38
  go_wp2
  go_ret
  refine ⟨?_, (Below.refl _ _).alloc (Nat.le_refl _) _⟩
  show Ending.returned (.int .i64 ((m : Int) % 9)) = _
  rw [hk]; rfl

theorem u8_and3 (n : Nat) (h : n < 256) : bits .and .u8 (n : Int) 3 = ((n % 4 : Nat) : Int) := by
  have key : ∀ m : Nat, m < 256 → bits .and .u8 (m : Int) 3 = ((m % 4 : Nat) : Int) := by decide +kernel
  exact key n h
theorem x_fieldS (ρ : Operand → Value) (d : Option Tmp) (x : Operand) (t : TypeId) (pos : String) (af : Array Edge) (g : Option (Nat × Bool)) (b : Nat) (hx : ρ x = PT b) (w : World) :
    (execOp ρ { dst := d, op := .fieldAddr 24 x 1, type := t, pos := pos, after := af, guard := g }).run Tryz.prog w = .ok (.value (.pointer (some ⟨b, 1, none⟩))) w ∧
    (execOp ρ { dst := d, op := .fieldAddr 24 x 2, type := t, pos := pos, after := af, guard := g }).run Tryz.prog w = .ok (.value (.pointer (some ⟨b, 2, none⟩))) w := by
  constructor <;> simp [go_sem, hx, PT]
theorem x_loadB (ρ : Operand → Value) (d : Option Tmp) (x : Operand) (t : TypeId) (pos : String) (af : Array Edge) (g : Option (Nat × Bool)) (b n : Nat) (v : Int) (hx : ρ x = .pointer (some ⟨b, n, none⟩)) (w : World) (hc : w.cell? ⟨b, n, none⟩ = some (.int .u8 v)) :
    (execOp ρ { dst := d, op := .load 5 x, type := t, pos := pos, after := af, guard := g }).run Tryz.prog w = .ok (.value (.int .u8 v)) w := by
  simp [go_sem, hx, hc]
theorem x_and3 (ρ : Operand → Value) (d : Option Tmp) (x : Operand) (t : TypeId) (pos : String) (af : Array Edge) (g : Option (Nat × Bool)) (n : Nat) (hx : ρ x = .int .u8 n) (hy : ρ (.const (.int .u8 3)) = .int .u8 3) (h : n < 256) (w : World) :
    (execOp ρ { dst := d, op := .binOp .and 5 x (.const (.int .u8 3)) 5, type := t, pos := pos, after := af, guard := g }).run Tryz.prog w = .ok (.value (.int .u8 ((n % 4 : Nat) : Int))) w := by
  have e := u8_and3 n h
  simp [go_sem, hx, hy, e]
theorem x_add97 (ρ : Operand → Value) (d : Option Tmp) (x : Operand) (t : TypeId) (pos : String) (af : Array Edge) (g : Option (Nat × Bool)) (n : Nat) (hx : ρ x = .int .u8 n) (hy : ρ (.const (.int .u8 97)) = .int .u8 97) (h : n < 4) (w : World) :
    (execOp ρ { dst := d, op := .binOp .add 5 (.const (.int .u8 97)) x 5, type := t, pos := pos, after := af, guard := g }).run Tryz.prog w = .ok (.value (.int .u8 ((97 + n : Nat) : Int))) w := by
  have e : IntKind.u8.wrap (97 + (n : Int)) = ((97 + n : Nat) : Int) := by simp [IntKind.wrap, IntKind.signed, IntKind.bits]; omega
  simp [go_sem, hx, hy, e]
set_option maxHeartbeats 1000000 in
theorem low_any (s : SHP) (cs : List Value) (w : World) (h : ShC w cs s) :
    Calls Tryz.prog 40 #[ShVal cs] w fun e w' => e = .returned (.tuple #[.int .u8 ((97 + s.lo % 4 : Nat) : Int), .int .u8 ((97 + s.hi % 4 : Nat) : Int)]) ∧ Below w.heap.size w w' := by
  obtain ⟨v, rfl, hr, ho, hlo, hhi, -⟩ := h.open
  obtain ⟨-, a, cap, rfl, -⟩ := hr.at
  clear h hr
  obtain ⟨C, hCd⟩ : ∃ C : World → Prop, C = fun W => Below w.heap.size w W ∧ W.cell? ⟨w.heap.size, 1, none⟩ = some (.int .u8 s.lo) ∧ W.cell? ⟨w.heap.size, 2, none⟩ = some (.int .u8 s.hi) := ⟨_, rfl⟩
  have hC0 : C (w.alloc (.cells #[.int .i64 s.op, .int .u8 s.lo, .int .u8 s.hi, .string s.text, .slice a s.kids.length cap] 24)) := by
    rw [hCd]
    have hb := Blk.newAt (w := w) rfl #[.int .i64 s.op, .int .u8 s.lo, .int .u8 s.hi, .string s.text, .slice a s.kids.length cap] 24
    exact ⟨(Below.refl _ _).alloc (Nat.le_refl _) _, hb.cell 1, hb.cell 2⟩
  have hCb : ∀ W, C W → Below w.heap.size w W := fun W h => by rw [hCd] at h; exact h.1
  have hC1 : ∀ W, C W → W.cell? ⟨w.heap.size, 1, none⟩ = some (.int .u8 s.lo) := fun W h => by rw [hCd] at h; exact h.2.1
  have hC2 : ∀ W, C W → W.cell? ⟨w.heap.size, 2, none⟩ = some (.int .u8 s.hi) := fun W h => by rw [hCd] at h; exact h.2.2
  have hCd2 : ∀ W, C W → C { W with drawn := W.drawn + 1 } := fun W h => by
    rw [hCd] at h ⊢
    exact ⟨⟨h.1.os, h.1.tape, h.1.output, h.1.size, h.1.block⟩, h.2⟩
  clear hCd
  unfold ShVal
  go_enter Tryz.func40, Tryz.ntmps40
  go_wp2
  rw [show Value.pointer (some ⟨w.heap.size, 0, none⟩) = PT w.heap.size from rfl]
  refine w_lit (C := C) (by kernel_rfl) (by kernel_rfl) (hCd2 _ hC0) ?_
  refine w_value (.pointer (some ⟨w.heap.size, 1, none⟩)) (by kernel_rfl) (fun w hw => (x_fieldS _ _ _ _ _ _ _ _ rfl w).1) ?_
  simp only [Act.put, List.setIfInBounds_toArray, List.set_cons_succ, List.set_cons_zero]
  refine w_value (.int .u8 s.lo) (by kernel_rfl) (fun w hw => x_loadB _ _ _ _ _ _ _ _ _ _ rfl w (hC1 w hw)) ?_
  simp only [Act.put, List.setIfInBounds_toArray, List.set_cons_succ, List.set_cons_zero]
  refine w_value (.int .u8 ((s.lo % 4 : Nat) : Int)) (by kernel_rfl) (fun w hw => x_and3 _ _ _ _ _ _ _ s.lo rfl rfl hlo w) ?_
  simp only [Act.put, List.setIfInBounds_toArray, List.set_cons_succ, List.set_cons_zero]
  refine w_value (.int .u8 ((97 + s.lo % 4 : Nat) : Int)) (by kernel_rfl) (fun w hw => x_add97 _ _ _ _ _ _ _ (s.lo % 4) rfl rfl (by omega) w) ?_
  simp only [Act.put, List.setIfInBounds_toArray, List.set_cons_succ, List.set_cons_zero]
  refine w_value (.pointer (some ⟨w.heap.size, 2, none⟩)) (by kernel_rfl) (fun w hw => (x_fieldS _ _ _ _ _ _ _ _ rfl w).2) ?_
  simp only [Act.put, List.setIfInBounds_toArray, List.set_cons_succ, List.set_cons_zero]
  refine w_value (.int .u8 s.hi) (by kernel_rfl) (fun w hw => x_loadB _ _ _ _ _ _ _ _ _ _ rfl w (hC2 w hw)) ?_
  simp only [Act.put, List.setIfInBounds_toArray, List.set_cons_succ, List.set_cons_zero]
  refine w_value (.int .u8 ((s.hi % 4 : Nat) : Int)) (by kernel_rfl) (fun w hw => x_and3 _ _ _ _ _ _ _ s.hi rfl rfl hhi w) ?_
  simp only [Act.put, List.setIfInBounds_toArray, List.set_cons_succ, List.set_cons_zero]
  refine w_value (.int .u8 ((97 + s.hi % 4 : Nat) : Int)) (by kernel_rfl) (fun w hw => x_add97 _ _ _ _ _ _ _ (s.hi % 4) rfl rfl (by omega) w) ?_
  simp only [Act.put, List.setIfInBounds_toArray, List.set_cons_succ, List.set_cons_zero]
  refine w_value (.int .u8 ((97 + s.lo % 4 : Nat) : Int)) (by kernel_rfl) (fun w hw => x_assign _ _ _ _ _ _ _ _ rfl w) ?_
  simp only [Act.put, List.setIfInBounds_toArray, List.set_cons_succ, List.set_cons_zero]
  refine w_value (.int .u8 ((97 + s.hi % 4 : Nat) : Int)) (by kernel_rfl) (fun w hw => x_assign _ _ _ _ _ _ _ _ rfl w) ?_
  simp only [Act.put, List.setIfInBounds_toArray, List.set_cons_succ, List.set_cons_zero]
  refine w_nil ?_
  intro w1 hw1
  have HB := hide (hCb _ hw1)
  clear hC0 hCb hC1 hC2 hCd2 hw1
  go_wp2
  exact bodyPost_ret (v := .tuple #[.int .u8 ((97 + s.lo % 4 : Nat) : Int), .int .u8 ((97 + s.hi % 4 : Nat) : Int)]) (by simp [results, Tryz.results40, go_sem]) rfl ⟨rfl, HB.out⟩
end Go.Proofs.YthhfpjehamhcbaaGreatDoor
