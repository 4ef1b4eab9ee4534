/- Texts of this claim put together: DfaA, DfaK, DfaB. -/
import Derived.Test.YtjcfnmjjkadaeaaGreatDoorJoinBudA
import Derived.Test.YtjcfnmjjkadaeaaGreatDoorJoinMathDfa4
import Derived.Test.YtjcfnmjjkadaeaaGreatDoorJoinDvC
import Derived.Test.YtjcfnmjjkadaeaaGreatDoorJoinPartA
/- A Dfa in memory: Len, Step, Yes, Run, Match. -/
namespace Go.Proofs.YtjcfnmjjkadaeaaGreatDoor
set_option maxRecDepth 100000
set_option linter.unusedSimpArgs false
set_option linter.unusedVariables false
open Go.RowKit

/-! ## Its cells -/
def dfaC (vh : Value) (f : Nat → Nat) (vn vy : Value) (dn : Int) (vl : Value) : Array Value :=
  #[vh] ++ nArr f ++ #[vn, vy, .int .u32 dn, .int .i32 0, .int .u32 0, vl]
theorem dfaC_0 (vh : Value) (f : Nat → Nat) (vn vy : Value) (dn : Int) (vl : Value) : (dfaC vh f vn vy dn vl)[0]? = some vh := by
  unfold dfaC
  rw [Array.getElem?_append_left (by simp [nArr_size]), Array.getElem?_append_left (by simp)]; rfl
theorem dfaC_head (vh : Value) (f : Nat → Nat) (vn vy : Value) (dn : Int) (vl : Value) (b : Nat) (hb : b < 256) : (dfaC vh f vn vy dn vl)[1 + b]? = some (.int .u8 (f b)) := by
  unfold dfaC
  rw [Array.getElem?_append_left (by simp [nArr_size]; omega), Array.getElem?_append_right (by simp)]
  simp only [List.size_toArray, List.length_cons, List.length_nil]
  rw [show 1 + b - (0 + 1) = b from by omega, nArr_get f b hb]
theorem dfaC_tail (vh : Value) (f : Nat → Nat) (vn vy : Value) (dn : Int) (vl : Value) (i : Nat) : (dfaC vh f vn vy dn vl)[257 + i]? = #[vn, vy, .int .u32 dn, .int .i32 0, .int .u32 0, vl][i]? := by
  unfold dfaC
  rw [Array.getElem?_append_right (by simp [nArr_size])]
  simp [nArr_size]
def intV (l : List Nat) : List Value := l.map fun x : Nat => Value.int .i64 (x : Int)
/-- A Dfa: its heads, of each byte the head, the rows, which states are Yes; whether live was asked for, and what it is. -/
structure DfaAt (W : World) (p : Nat) (hs : List Nat) (f : Nat → Nat) (rows : List (List Nat)) (ys : List Bool) (dn : Int) (vl : Value) : Prop where
  ex : ∃ vh vn vy vs, Blk W p (dfaC vh f vn vy dn vl) 83 ∧ OwnG W 0 5 (.int .u8 0) vh (byteV hs) ∧ OwnG W 0 36 (.slice none 0 0) vn vs ∧ OwnG W 0 4 (.bool false) vy (ys.map .bool) ∧
    vs.length = rows.length ∧ ∀ q, q < rows.length → OwnG W 0 3 (.int .i64 0) (vs.getD q (.slice none 0 0)) (intV (rows.getD q []))
theorem DfaAt.keep {W W' : World} {p : Nat} {hs : List Nat} {f : Nat → Nat} {rows : List (List Nat)} {ys : List Bool} {dn : Int} {vl : Value} (h : DfaAt W p hs f rows ys dn vl) (hb : Below W.heap.size W W') : DfaAt W' p hs f rows ys dn vl := by
  obtain ⟨vh, vn, vy, vs, h1, h2, h3, h4, h5, h6⟩ := h.ex
  exact ⟨vh, vn, vy, vs, h1.below hb h1.lt, h2.keep hb, h3.keep hb, h4.keep hb, h5, fun q hq => (h6 q hq).keep hb⟩

theorem dlen_nil (w : World) : Calls Tryz.prog 13 #[.pointer none] w fun e w' => e = .returned (.int .i64 0) ∧ w' = w := by
  go_enter Tryz.func13, Tryz.ntmps13
  go_wp2
  go_ret
  exact ⟨rfl, rfl⟩
theorem dlen_any (p : Nat) (hs : List Nat) (f : Nat → Nat) (rows : List (List Nat)) (ys : List Bool) (dn : Int) (vl : Value) (w : World) (h : DfaAt w p hs f rows ys dn vl) :
    Calls Tryz.prog 13 #[PT p] w fun e w' => e = .returned (.int .i64 rows.length) ∧ w' = w := by
  obtain ⟨vh, vn, vy, vs, h1, h2, h3, h4, h5, h6⟩ := h.ex
  obtain ⟨a, cap, rfl, -⟩ := h3.slice
  have c := h1.cell 257
  rw [dfaC_tail _ _ _ _ _ _ 0] at c
  simp only [List.getElem?_toArray, List.getElem?_cons_zero, h5] at c
  clear h h1 h2 h3 h4 h6
  unfold PT
  go_enter Tryz.func13, Tryz.ntmps13
  go_wp2
  go_ret
  exact ⟨rfl, rfl⟩
theorem dhas_any (p : Nat) (hs : List Nat) (f : Nat → Nat) (rows : List (List Nat)) (ys : List Bool) (dn : Int) (vl : Value) (q : Int) (w : World) (h : DfaAt w p hs f rows ys dn vl) :
    Calls Tryz.prog 54 #[PT p, .int .i64 q] w fun e w' => e = .returned (.bool (decide (0 ≤ q ∧ q < rows.length))) ∧ w' = w := by
  have hl := hide (dlen_any p hs f rows ys dn vl w h)
  clear h
  unfold PT at hl
  unfold PT
  by_cases h0 : 0 ≤ q
  · have hd : decide (0 ≤ q ∧ q < rows.length) = decide (q < rows.length) := by simp [h0]
    rw [hd]
    clear hd
    go_enter Tryz.func54, Tryz.ntmps54
    have hg : decide (q ≥ 0) = true := decide_eq_true h0
    go_wp2_with fail
    refine hl.out.mono ?_
    rintro e w' ⟨rfl, rfl⟩
    go_wp2
    go_ret
    exact ⟨rfl, rfl⟩
  · have hd : decide (0 ≤ q ∧ q < rows.length) = false := by simp [h0]
    rw [hd]
    clear hd
    go_enter Tryz.func54, Tryz.ntmps54
    have hg : decide (q ≥ 0) = false := decide_eq_false h0
    go_wp2
    go_ret
    exact ⟨rfl, rfl⟩
end Go.Proofs.YtjcfnmjjkadaeaaGreatDoor
/- A Dfa's first cells (apart: the kernel takes twenty seconds). -/
namespace Go.Proofs.YtjcfnmjjkadaeaaGreatDoor
set_option maxRecDepth 100000
set_option linter.unusedSimpArgs false
set_option linter.unusedVariables false
open Go.RowKit

theorem fold_dfa (f : Nat → Nat) : Array.foldl (fun (cs : Array Value) (x : Value × Nat) => cs.setIfInBounds (1 + x.2) x.1) Tryz.zeroCells83 (nArr f).zipIdx 0 256 = dfaC (.slice none 0 0) f (.slice none 0 0) (.slice none 0 0) 0 (.slice none 0 0) := by kernel_rfl
end Go.Proofs.YtjcfnmjjkadaeaaGreatDoor
/- Step, Yes, Run, Match of a Dfa in memory. -/
namespace Go.Proofs.YtjcfnmjjkadaeaaGreatDoor
set_option maxRecDepth 100000
set_option linter.unusedSimpArgs false
set_option linter.unusedVariables false
open Go.RowKit

theorem dstep_off (p : Nat) (hs : List Nat) (f : Nat → Nat) (rows : List (List Nat)) (ys : List Bool) (dn : Int) (vl : Value) (q : Int) (b : Nat) (w : World) (h : DfaAt w p hs f rows ys dn vl) (hq : ¬ (0 ≤ q ∧ q < rows.length)) :
    Calls Tryz.prog 16 #[PT p, .int .i64 q, .int .u8 b] w fun e w' => e = .returned (.int .i64 (-1)) ∧ w' = w := by
  have hl := dhas_any p hs f rows ys dn vl q w h
  rw [decide_eq_false hq] at hl
  have hl := hide hl
  clear h hq
  unfold PT at hl
  unfold PT
  go_enter Tryz.func16, Tryz.ntmps16
  go_wp2_with fail
  refine hl.out.mono ?_
  rintro e w' ⟨rfl, rfl⟩
  go_wp2
  go_ret
  exact ⟨rfl, rfl⟩
theorem dstep_any (p : Nat) (hs : List Nat) (f : Nat → Nat) (rows : List (List Nat)) (ys : List Bool) (dn : Int) (vl : Value) (q b : Nat) (w : World) (h : DfaAt w p hs f rows ys dn vl) (hq : q < rows.length) (hb : b < 256) (hf : f b < (rows.getD q []).length) :
    Calls Tryz.prog 16 #[PT p, .int .i64 q, .int .u8 b] w fun e w' => e = .returned (.int .i64 ((rows.getD q []).getD (f b) 0 : Nat)) ∧ Below w.heap.size w w' := by
  have hl := dhas_any p hs f rows ys dn vl q w h
  rw [decide_eq_true (show (0 : Int) ≤ q ∧ (q : Int) < rows.length by omega)] at hl
  have hl := hide hl
  obtain ⟨vh, vn, vy, vs, h1, h2, h3, h4, h5, h6⟩ := h.ex
  have hv : vs[q]? = some (vs.getD q (.slice none 0 0)) := by simp [List.getD_eq_getElem?_getD, show q < vs.length by omega]
  obtain ⟨g, cap, rfl, -, -, c1⟩ := h3.cell hv
  have hn : ∀ r : List Nat, f b < r.length → (intV r)[f b]? = some (.int .i64 (r.getD (f b) 0 : Nat)) := fun r hr => by simp [intV, List.getD_eq_getElem?_getD, hr]
  obtain ⟨g2, cap2, e2, -, -, c2⟩ := (h6 q hq).cell (hn _ hf)
  rw [e2] at c1
  have hil : (intV (rows.getD q [])).length = (rows.getD q []).length := by simp [intV]
  rw [hil] at c1
  have c0 := h1.cell 257
  have ch := h1.cell (1 + b)
  rw [dfaC_tail _ _ _ _ _ _ 0] at c0
  rw [dfaC_head _ _ _ _ _ _ b hb] at ch
  simp only [List.getElem?_toArray, List.getElem?_cons_zero, h5] at c0
  generalize (rows.getD q []).getD (f b) 0 = res at *
  generalize (rows.getD q []).length = rl at *
  generalize f b = fb at *
  have hqi : (0 : Int) ≤ q ∧ (q : Int) < rows.length := by omega
  have hbi : (0 : Int) ≤ b ∧ (b : Int) < 256 := by omega
  have hfi : (0 : Int) ≤ fb ∧ (fb : Int) < rl := by omega
  clear h h1 h2 h3 h4 h6 e2 hv hn
  unfold PT at hl
  unfold PT
  go_enter Tryz.func16, Tryz.ntmps16
  go_wp2_with fail
  refine hl.out.mono ?_
  rintro e w' ⟨rfl, rfl⟩
  go_wp2
  go_region
  go_wp2
  go_ret
  exact ⟨rfl, (Below.refl _ _).drew⟩
theorem dyes_off (p : Nat) (hs : List Nat) (f : Nat → Nat) (rows : List (List Nat)) (ys : List Bool) (dn : Int) (vl : Value) (q : Int) (w : World) (h : DfaAt w p hs f rows ys dn vl) (hq : ¬ (0 ≤ q ∧ q < rows.length)) :
    Calls Tryz.prog 14 #[PT p, .int .i64 q] w fun e w' => e = .returned (.bool false) ∧ w' = w := by
  have hl := dhas_any p hs f rows ys dn vl q w h
  rw [decide_eq_false hq] at hl
  have hl := hide hl
  clear h hq
  unfold PT at hl
  unfold PT
  go_enter Tryz.func14, Tryz.ntmps14
  go_wp2_with fail
  refine hl.out.mono ?_
  rintro e w' ⟨rfl, rfl⟩
  go_wp2
  go_ret
  exact ⟨rfl, rfl⟩
theorem dyes_any (p : Nat) (hs : List Nat) (f : Nat → Nat) (rows : List (List Nat)) (ys : List Bool) (dn : Int) (vl : Value) (q : Nat) (w : World) (h : DfaAt w p hs f rows ys dn vl) (hq : q < rows.length) (hy : ys.length = rows.length) :
    Calls Tryz.prog 14 #[PT p, .int .i64 q] w fun e w' => e = .returned (.bool (ys.getD q false)) ∧ w' = w := by
  have hl := dhas_any p hs f rows ys dn vl q w h
  rw [decide_eq_true (show (0 : Int) ≤ q ∧ (q : Int) < rows.length by omega)] at hl
  have hl := hide hl
  obtain ⟨vh, vn, vy, vs, h1, h2, h3, h4, h5, h6⟩ := h.ex
  have hv : (ys.map Value.bool)[q]? = some (.bool (ys.getD q false)) := by
    rw [List.getElem?_map, List.getElem?_eq_getElem (show q < ys.length by omega)]
    simp [List.getD_eq_getElem?_getD, show q < ys.length by omega]
  obtain ⟨g, cap, rfl, -, -, c1⟩ := h4.cell hv
  have c0 := h1.cell 258
  rw [dfaC_tail _ _ _ _ _ _ 1] at c0
  simp only [List.getElem?_toArray, List.getElem?_cons_zero, List.getElem?_cons_succ, List.length_map, hy] at c0
  generalize ys.getD q false = res at *
  have hqi : (0 : Int) ≤ q ∧ (q : Int) < rows.length := by omega
  clear h h1 h2 h3 h4 h6 hv h5
  unfold PT at hl
  unfold PT
  go_enter Tryz.func14, Tryz.ntmps14
  go_wp2_with fail
  refine hl.out.mono ?_
  rintro e w' ⟨rfl, rfl⟩
  go_wp2
  go_ret
  exact ⟨rfl, rfl⟩

/-! ## Run and Match -/
def yesB (ys : List Bool) (n : Nat) (q : Int) : Bool := decide (0 ≤ q ∧ q < n) && ys.getD q.toNat false
/-- Step from any state, in one. -/
theorem dstep_all (p : Nat) (hs : List Nat) (f : Nat → Nat) (rows : List (List Nat)) (ys : List Bool) (dn : Int) (vl : Value) (q : Int) (b : Nat) (w : World) (h : DfaAt w p hs f rows ys dn vl) (hb : b < 256) (hf : ∀ q, q < rows.length → f b < (rows.getD q []).length) :
    Calls Tryz.prog 16 #[PT p, .int .i64 q, .int .u8 b] w fun e w' => e = .returned (.int .i64 (stepN rows f q b)) ∧ Below w.heap.size w w' := by
  unfold stepN
  by_cases hq : 0 ≤ q ∧ q < rows.length
  · rw [if_pos hq]
    obtain ⟨k, rfl⟩ : ∃ k : Nat, q = k := ⟨q.toNat, by omega⟩
    rw [Int.toNat_natCast]
    exact dstep_any p hs f rows ys dn vl k b w h (by omega) hb (hf k (by omega))
  · rw [if_neg hq]
    exact (dstep_off p hs f rows ys dn vl q b w h hq).mono fun e w' ⟨h1, h2⟩ => ⟨h1, by rw [h2]; exact Below.refl _ _⟩
theorem drun_any (p : Nat) (hs : List Nat) (f : Nat → Nat) (rows : List (List Nat)) (ys : List Bool) (dn : Int) (vl : Value) (q : Int) (s : ByteArray) (w : World) (h : DfaAt w p hs f rows ys dn vl) (hf : ∀ b, b < 256 → ∀ q, q < rows.length → f b < (rows.getD q []).length) (hs' : s.size ≤ maxLen) :
    Calls Tryz.prog 58 #[PT p, .int .i64 q, .string s] w fun e w' => e = .returned (.int .i64 (runN rows f q (bytesN s))) ∧ Below w.heap.size w w' := by
  have H := hide h
  have HF := hide hf
  have hbl : (bytesN s).length = s.size := by simp [bytesN]
  have HBL := hide hbl
  have HIX : Hid (∀ k, ∀ hk : k < s.size, runN rows f q ((bytesN s).take (k + 1)) = stepN rows f (runN rows f q ((bytesN s).take k)) (s[k]'hk).toNat) := by
    show ∀ k, _
    intro k hk
    have hk' : k < (bytesN s).length := by rw [hbl]; exact hk
    rw [List.take_succ_eq_append_getElem hk', runN_append]
    have e : (bytesN s)[k] = (s[k]'hk).toNat := by simp [bytesN]; rfl
    rw [e]; rfl
  clear h hf hbl
  unfold PT
  go_enter Tryz.func58, Tryz.ntmps58
  go_wp2
  go_loopw [1, 10] (fun qv c wr => ∃ k : Nat, k ≤ s.size ∧ c = .int .i64 k ∧ qv = .int .i64 (runN rows f q ((bytesN s).take k)) ∧ Hid (Below w.heap.size w wr)) (fun _ c _ => s.size - (intOf c).toNat)
  case atStart => exact ⟨0, by omega, rfl, rfl, Below.refl _ _⟩
  case round =>
    obtain ⟨k, hk, rfl, rfl, HB⟩ := hrel
    by_cases hlt : k < s.size
    · have hkd : decide (k < s.size) = true := by simp [hlt]
      have hkk : (0 : Int) ≤ k ∧ (k : Int) < s.size := ⟨by omega, by omega⟩
      have hk63 : k + 1 ≤ 9223372036854775807 := by unfold maxLen at hs'; omega
      have HX : Hid (runN rows f q ((bytesN s).take (k + 1)) = stepN rows f (runN rows f q ((bytesN s).take k)) (s[k]'hlt).toNat) := HIX.out k hlt
      have h256 : (s[k]'hlt).toNat < 256 := (s[k]'hlt).toNat_lt
      have hst := hide (dstep_all p hs f rows ys dn vl (runN rows f q ((bytesN s).take k)) (s[k]'hlt).toNat wr (H.out.keep HB.out) h256 (fun q hq => HF.out _ h256 q hq))
      unfold PT at hst
      generalize runN rows f q ((bytesN s).take k) = q1 at *
      clear h256
      go_wp2_with fail
      refine hst.out.mono ?_
      rintro e w' ⟨rfl, hb⟩
      have HB' := hide (HB.out.trans (hb.mono HB.out.size))
      clear hb
      go_wp2
      exact ⟨⟨k + 1, by omega, by simp, by rw [HX.out], HB'.out⟩, by simp [intOf]; omega⟩
    · obtain rfl : k = s.size := by omega
      have hkd : decide (s.size < s.size) = false := by simp
      rw [show (bytesN s).take s.size = bytesN s from List.take_of_length_le (by rw [HBL.out]; exact Nat.le_refl _)]
      clear hlt hk
      go_wp2
      go_ret
      exact ⟨rfl, HB.out⟩
theorem dyes_all (p : Nat) (hs : List Nat) (f : Nat → Nat) (rows : List (List Nat)) (ys : List Bool) (dn : Int) (vl : Value) (q : Int) (w : World) (h : DfaAt w p hs f rows ys dn vl) (hy : ys.length = rows.length) :
    Calls Tryz.prog 14 #[PT p, .int .i64 q] w fun e w' => e = .returned (.bool (yesB ys rows.length q)) ∧ w' = w := by
  unfold yesB
  by_cases hq : 0 ≤ q ∧ q < rows.length
  · rw [decide_eq_true hq, Bool.true_and]
    obtain ⟨k, rfl⟩ : ∃ k : Nat, q = k := ⟨q.toNat, by omega⟩
    rw [Int.toNat_natCast]
    exact dyes_any p hs f rows ys dn vl k w h (by omega) hy
  · rw [decide_eq_false hq, Bool.false_and]
    exact dyes_off p hs f rows ys dn vl q w h hq
theorem dmatch_any (p : Nat) (hs : List Nat) (f : Nat → Nat) (rows : List (List Nat)) (ys : List Bool) (dn : Int) (vl : Value) (s : ByteArray) (w : World) (h : DfaAt w p hs f rows ys dn vl) (hf : ∀ b, b < 256 → ∀ q, q < rows.length → f b < (rows.getD q []).length) (hs' : s.size ≤ maxLen) (hy : ys.length = rows.length) :
    Calls Tryz.prog 18 #[PT p, .string s] w fun e w' => e = .returned (.bool (yesB ys rows.length (runN rows f 0 (bytesN s)))) ∧ Below w.heap.size w w' := by
  have H := hide h
  have hr := hide (drun_any p hs f rows ys dn vl 0 s w h hf hs')
  clear h hf
  generalize runN rows f 0 (bytesN s) = q1 at *
  unfold PT at hr
  unfold PT
  go_enter Tryz.func18, Tryz.ntmps18
  go_wp2_with fail
  refine hr.out.mono ?_
  rintro e w1 ⟨rfl, hb⟩
  have HB := hide hb
  have hye := hide (dyes_all p hs f rows ys dn vl q1 w1 (H.out.keep hb) hy)
  clear hb
  unfold PT at hye
  go_wp2_with fail
  refine hye.out.mono ?_
  rintro e w2 ⟨rfl, rfl⟩
  go_wp2
  go_ret
  exact ⟨rfl, HB.out⟩
end Go.Proofs.YtjcfnmjjkadaeaaGreatDoor
