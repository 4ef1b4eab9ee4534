/- Texts of this claim put together: SpD, SpE, SpF, SpG, Head9. -/
import Derived.Test.YthlannjipbohkaaGreatDoorJoinHead9M
import Derived.Test.YthlannjipbohkaaGreatDoorJoinSomeInts
/- split's heads: of each place of a text, whether what is ahead of it is a text of the side. -/
namespace Go.Proofs.YthlannjipbohkaaGreatDoor
set_option maxRecDepth 100000
set_option linter.unusedSimpArgs false
set_option linter.unusedVariables false
open Go.RowKit

/-- A row of truth values, by places. -/
def bCells (n : Nat) (v : Nat → Bool) : Array Value := ((List.range n).map fun j => Value.bool (v j)).toArray
def setF (v : Nat → Bool) (i : Nat) (b : Bool) : Nat → Bool := fun j => if j = i then b else v j
theorem bCells_get (n : Nat) (v : Nat → Bool) {i : Nat} (h : i < n) : (bCells n v)[i]? = some (.bool (v i)) := by
  simp [bCells, h]
theorem bCells_set (n : Nat) (v : Nat → Bool) (i : Nat) (b : Bool) : (bCells n v).setIfInBounds i (.bool b) = bCells n (setF v i b) := by
  apply Array.ext_getElem?
  intro j
  rw [Array.getElem?_setIfInBounds]
  by_cases hj : j < n
  · by_cases e : i = j
    · subst e
      simp [bCells, setF, hj]
    · rw [if_neg e]
      simp [bCells, setF, hj, Ne.symm e]
  · have h1 : (bCells n v)[j]? = none := by simp [bCells]; omega
    have h2 : (bCells n (setF v i b))[j]? = none := by simp [bCells]; omega
    rw [h1, h2]
    by_cases e : i = j
    · subst e; simp [bCells]; omega
    · rw [if_neg e]
theorem madeB (n : Nat) : madeCells (Value.bool false).cells (n * 1) = bCells n fun _ => false := by
  apply Array.ext_getElem?
  intro j
  rw [Nat.mul_one]
  by_cases h : j < n
  · simp [madeCells, bCells, Value.cells, h, Nat.mod_one]
  · have h1 : (bCells n fun _ => false)[j]? = none := by simp [bCells]; omega
    have h2 : (madeCells (Value.bool false).cells n)[j]? = none := by simp [madeCells]; omega
    rw [h1, h2]
theorem bools_make (n : Nat) (w : World) (hn : n ≤ 1000000) : (Instr.makeSlice 81 (.int .i64 n) (.int .i64 n)).run Tryz.prog w = .ok (.slice (some ⟨w.heap.size, 0, none⟩) n n) (w.alloc (.cells (bCells n fun _ => false) 4)) := by
  obtain ⟨i, hi, hz0, hz1, hz2⟩ := info_parts (show (Tryz.prog.info? 4).map (fun i => (i.zero, i.size, i.bytes)) = some (some (.bool false), 1, 1) by kernel_rfl)
  have h := run_make (P := Tryz.prog) w 81 4 i (.bool false) Tryz.underlying81 hi hz0 .i64 .i64 n n (by omega) (Int.le_refl _) (by rw [hz2]; omega) (by omega)
  simp only [Int.toNat_natCast] at h
  rw [h, hz1, madeB]
theorem x_fieldF (ρ : Operand → Value) (d : Option Tmp) (x : Operand) (t : TypeId) (pos : String) (af : Array Edge) (g : Option (Nat × Bool)) (b : Nat) (hx : ρ x = PT b) (w : World) :
    (execOp ρ { dst := d, op := .fieldAddr 59 x 0, type := t, pos := pos, after := af, guard := g }).run Tryz.prog w = .ok (.value (PT b)) w := by
  simp [go_sem, hx, PT]
theorem x_fieldB (ρ : Operand → Value) (d : Option Tmp) (x : Operand) (t : TypeId) (pos : String) (af : Array Edge) (g : Option (Nat × Bool)) (b : Nat) (hx : ρ x = PT b) (w : World) :
    (execOp ρ { dst := d, op := .fieldAddr 59 x 1, type := t, pos := pos, after := af, guard := g }).run Tryz.prog w = .ok (.value (.pointer (some ⟨b, 1, none⟩))) w := by
  simp [go_sem, hx, PT]
theorem x_loadD (ρ : Operand → Value) (d : Option Tmp) (x : Operand) (t : TypeId) (pos : String) (af : Array Edge) (g : Option (Nat × Bool)) (c o : Nat) (u : Value) (hx : ρ x = .pointer (some ⟨c, o, none⟩)) (w : World) (hc : w.cell? ⟨c, o, none⟩ = some u) :
    (execOp ρ { dst := d, op := .load 55 x, type := t, pos := pos, after := af, guard := g }).run Tryz.prog w = .ok (.value u) w := by
  simp [go_sem, hx, hc]
theorem x_idxStr (ρ : Operand → Value) (d : Option Tmp) (x y : Operand) (ty : TypeId) (pos : String) (af : Array Edge) (g : Option (Nat × Bool)) (t : ByteArray) (i : Nat) (h : i < t.size) (hx : ρ x = .string t) (hy : ρ y = .int .i64 i) (w : World) :
    (execOp ρ { dst := d, op := .index 9 x y, type := ty, pos := pos, after := af, guard := g }).run Tryz.prog w = .ok (.value (.int .u8 ((t[i]'h).toNat : Nat))) w := by
  simp [go_sem, hx, hy, h]
theorem bytesN_get {t : ByteArray} {i : Nat} (h : i < t.size) : (bytesN t)[i]? = some (t[i]'h).toNat := by
  rw [List.getElem?_eq_getElem (by rw [bytesN_length]; exact h)]
  congr 1
  simp [bytesN]; rfl
theorem DfaR.yes {W : World} {p : Nat} {r : RE} {pl : List (BitVec 256)} {S : List RE} {rows : List (List Nat)} (h : DfaR W p r pl S rows) (q : Int) :
    Calls Tryz.prog 61 #[PT p, .int .i64 q] W fun e w' => e = .returned (.bool (yesN S q)) ∧ w' = W := by
  refine (dyes_all p _ _ rows _ _ _ q W h.at' (by rw [List.length_map, h.ok.len])).mono ?_
  rintro e w' ⟨rfl, rfl⟩
  rw [h.ok.len, yesB_null]
  exact ⟨rfl, rfl⟩
theorem DfaR.step {W : World} {p : Nat} {r : RE} {pl : List (BitVec 256)} {S : List RE} {rows : List (List Nat)} (h : DfaR W p r pl S rows) (q : Int) (b : Nat) (hb : b < 256) :
    Calls Tryz.prog 62 #[PT p, .int .i64 q, .int .u8 b] W fun e w' => e = .returned (.int .i64 (stepN rows (idxF pl pl.length) q b)) ∧ Below W.heap.size W w' :=
  dstep_all p _ _ rows _ _ _ q b W h.at' hb fun q hq => h.ok.fit b hb q hq
theorem runN_snoc (rows : List (List Nat)) (f : Nat → Nat) (l : List Nat) (b : Nat) : runN rows f 0 (l ++ [b]) = stepN rows f (runN rows f 0 l) b := by
  rw [runN_append]; rfl
set_option maxHeartbeats 2000000 in
theorem heads_any (p : Nat) (r : RE) (s : ByteArray) (w : World) (h : SideAt w p r) (hs : s.size ≤ 100000) :
    Calls Tryz.prog 34 #[PT p, .string s] w fun e w' => ∃ v, e = .returned (.slice (some ⟨w.heap.size, 0, none⟩) (s.size + 1) (s.size + 1)) ∧ Blk w' w.heap.size (bCells (s.size + 1) v) 4 ∧ (∀ i, i ≤ s.size → (v i = true ↔ r.lang ((bytesN s).take i))) ∧ Below w.heap.size w w' := by
  obtain ⟨f, b, pl, S, rows, plb, Sb, rb, hp, hd, -⟩ := h.ex
  clear h
  obtain ⟨N, hN⟩ : ∃ N, s.size = N := ⟨_, rfl⟩
  obtain ⟨l, hl⟩ : ∃ l, bytesN s = l := ⟨_, rfl⟩
  have hlb : By l := by rw [← hl]; exact by_bytes s
  have HBY := hide hlb
  obtain ⟨B, hB⟩ : ∃ B, w.heap.size = B := ⟨_, rfl⟩
  have hmk := bools_make (N + 1) w (by omega)
  obtain ⟨w1, hw1⟩ : ∃ w1, w.alloc (.cells (bCells (N + 1) fun _ => false) 4) = w1 := ⟨_, rfl⟩
  rw [hw1, hB] at hmk
  have hk1 : Blk w1 B (bCells (N + 1) fun _ => false) 4 := by rw [← hw1, ← hB]; exact Blk.new _ _ _
  have hb1 : Below B w w1 := by rw [← hw1]; exact (Below.refl _ _).alloc (Nat.le_of_eq hB.symm) _
  have HD := hide hd
  have HP := hide hp
  have HBB := hide hB
  have HNN := hide hN
  have HLL := hide hl
  have HB1 := hide hb1
  have HK1 := hide hk1
  have hpl : p < B := by rw [← hB]; exact hp.lt
  have cp : w1.cell? ⟨p, 0, none⟩ = some (PT f) := (World.cell?_of_block (w := w) (hb1.block p hpl)).trans (hp.cell 0)
  have HY0 := hide ((hd.keep (hB ▸ hb1)).yes 0)
  have f1 := hk1.frozen 0
  have c1 : w1.cell? ⟨B, 0, none⟩ = some (.bool false) := by rw [hk1.cell, bCells_get _ _ (by omega)]
  have hN5 : N ≤ 100000 := by omega
  have e1 : ((N + 1 : Nat) : Int) = (N : Int) + 1 := by omega
  rw [e1] at hmk
  rw [hN, hB]
  clear hl hlb hd hp hB hb1 hk1 hw1
  unfold PT at cp HY0 ⊢
  go_enter Tryz.func34, Tryz.ntmps34
  go_wp2_with fail
  refine HY0.out.mono ?_
  rintro e w2 ⟨rfl, rfl⟩
  obtain ⟨y0, hy0⟩ : ∃ y, yesN S 0 = y := ⟨_, rfl⟩
  have HY := hide hy0
  rw [hy0]
  clear hy0 HY0 cp hmk
  go_wp2
  go_loopw [6, 22] (fun qv iv wr => ∃ (i : Nat) (v : Nat → Bool), iv = .int .i64 i ∧ i ≤ N ∧ qv = .int .i64 (runN rows (idxF pl pl.length) 0 (l.take i)) ∧ Hid (Blk wr B (bCells (N + 1) v) 4) ∧ Hid (∀ j, j ≤ i → (v j = true ↔ r.lang (l.take j))) ∧ Hid (Below B w wr)) (fun _ iv _ => N - (intOf iv).toNat)
  case atStart =>
    refine ⟨0, setF (fun _ => false) 0 y0, rfl, Nat.zero_le _, rfl, ?_, ?_, HB1.out.setCell (Nat.le_refl _) _⟩
    · have h := HK1.out.set 0 (.bool y0)
      rw [bCells_set] at h
      exact h
    · intro j hj
      obtain rfl : j = 0 := by omega
      show (if (0 : Nat) = 0 then y0 else false) = true ↔ _
      rw [if_pos rfl, ← HY.out, List.take_zero]
      exact HD.out.ok.match (t := []) (fun x hx => absurd hx (by simp))
  case round =>
    obtain ⟨i, v, rfl, hi, rfl, HK, HV, HB⟩ := hrel
    by_cases hlt : i < N
    · have di : decide ((i : Int) < (N : Int)) = true := by simp; omega
      have hsz : i < s.size := by rw [HNN.out]; exact hlt
      obtain ⟨b0, hb0⟩ : ∃ b0, (s[i]'hsz).toNat = b0 := ⟨_, rfl⟩
      have hb6 : b0 < 256 := by rw [← hb0]; exact (s[i]'hsz).toNat_lt
      have hli : l[i]? = some b0 := by rw [← HLL.out, bytesN_get hsz, hb0]
      have HTK : Hid (l.take (i + 1) = l.take i ++ [b0]) := by
        show _ = _
        rw [List.take_add_one, hli]; rfl
      obtain ⟨q, hq⟩ : ∃ q, runN rows (idxF pl pl.length) 0 (l.take i) = q := ⟨_, rfl⟩
      obtain ⟨q1, hq1⟩ : ∃ q1, stepN rows (idxF pl pl.length) q b0 = q1 := ⟨_, rfl⟩
      have HQ1 : Hid (runN rows (idxF pl pl.length) 0 (l.take (i + 1)) = q1) := by
        show _ = _
        rw [HTK.out, runN_snoc, hq, hq1]
      rw [hq]
      have HX0 := hide hb0
      have hbw : Below w.heap.size w wr := HBB.out ▸ HB.out
      have hsW : w.heap.size ≤ wr.heap.size := hbw.size
      obtain ⟨C, hC⟩ : ∃ C : World → Prop, C = fun X => Below wr.heap.size wr X := ⟨_, rfl⟩
      have hcb : ∀ X, C X → Below wr.heap.size wr X := fun X h => by rw [hC] at h; exact h
      have HG : Hid (Grows C) := fun X X' h hb => by rw [hC] at h ⊢; exact h.trans (hb.mono h.size)
      have HCP : Hid (∀ X, C X → X.cell? ⟨p, 0, none⟩ = some (PT f)) := fun X hX => (World.cell?_of_block (w := w) ((hbw.trans ((hcb X hX).mono hsW)).block p HP.out.lt)).trans (HP.out.cell 0)
      have HST : Hid (∀ X, C X → Calls Tryz.prog 62 #[PT f, .int .i64 q, .int .u8 b0] X fun e w' => e = .returned (.int .i64 q1) ∧ Below X.heap.size X w') := fun X hX => by
        rw [← hq1]
        exact (HD.out.keep (hbw.trans ((hcb X hX).mono hsW))).step q b0 hb6
      have HC6 : Hid (C { wr with drawn := wr.drawn + 1 }) := by
        rw [hC]
        exact ⟨rfl, rfl, rfl, Nat.le_refl _, fun _ _ => rfl⟩
      have HCB := hide hcb
      have HBW := hide hbw
      clear hq hq1 hb0 hli hC hcb hbw
      go_wp2
      have hG := HG.out
      have hcp := HCP.out
      have hst := HST.out
      refine w_lit (C := C) (by kernel_rfl) (by kernel_rfl) HC6.out ?_
      refine w_value (PT p) (by kernel_rfl) (fun w hw => x_move _ _ _ _ _ _ _ _ rfl w) ?_
      simp only [Act.put, List.setIfInBounds_toArray, List.set_cons_succ, List.set_cons_zero]
      refine w_value (PT p) (by kernel_rfl) (fun w hw => x_nilCheck _ _ _ _ _ _ _ _ rfl w) ?_
      simp only [Act.put, List.setIfInBounds_toArray, List.set_cons_succ, List.set_cons_zero]
      refine w_value (PT p) (by kernel_rfl) (fun w hw => x_fieldF _ _ _ _ _ _ _ _ rfl w) ?_
      simp only [Act.put, List.setIfInBounds_toArray, List.set_cons_succ, List.set_cons_zero]
      refine w_value (PT f) (by kernel_rfl) (fun w hw => x_loadD _ _ _ _ _ _ _ p 0 (PT f) rfl w (hcp w hw)) ?_
      simp only [Act.put, List.setIfInBounds_toArray, List.set_cons_succ, List.set_cons_zero]
      refine w_value (.int .i64 q) (by kernel_rfl) (fun w hw => x_move _ _ _ _ _ _ _ _ rfl w) ?_
      simp only [Act.put, List.setIfInBounds_toArray, List.set_cons_succ, List.set_cons_zero]
      refine w_value (.string s) (by kernel_rfl) (fun w hw => x_move _ _ _ _ _ _ _ _ rfl w) ?_
      simp only [Act.put, List.setIfInBounds_toArray, List.set_cons_succ, List.set_cons_zero]
      refine w_value (.int .i64 i) (by kernel_rfl) (fun w hw => x_move _ _ _ _ _ _ _ _ rfl w) ?_
      simp only [Act.put, List.setIfInBounds_toArray, List.set_cons_succ, List.set_cons_zero]
      refine w_value (.int .u8 b0) (by kernel_rfl) (fun w hw => by rw [← HX0.out]; exact x_idxStr _ _ _ _ _ _ _ _ s i hsz rfl rfl w) ?_
      simp only [Act.put, List.setIfInBounds_toArray, List.set_cons_succ, List.set_cons_zero]
      refine w_call hG 62 #[PT f, .int .i64 q, .int .u8 b0] (.int .i64 q1) (by kernel_rfl) (fun w => x_call3 _ _ _ _ _ _ _ _ _ _ _ _ _ _ _ _ rfl rfl rfl rfl (enters_of Tryz.func62 (by kernel_rfl) rfl) w) (fun w hw => hst w hw) ?_
      simp only [Act.put, List.setIfInBounds_toArray, List.set_cons_succ, List.set_cons_zero]
      refine w_value (.int .i64 q1) (by kernel_rfl) (fun w hw => x_assign _ _ _ _ _ _ _ _ rfl w) ?_
      simp only [Act.put, List.setIfInBounds_toArray, List.set_cons_succ, List.set_cons_zero]
      refine w_nil ?_
      intro X hX
      have HX := hide (HCB.out X hX)
      have cp := HCP.out X hX
      have hXw : Below w.heap.size w X := HBW.out.trans (HX.out.mono hsW)
      have HXW := hide hXw
      have hkX := HK.out.below HX.out HK.out.lt
      have HKX := hide hkX
      have fX := hkX.frozen (i + 1)
      have cX : X.cell? ⟨B, i + 1, none⟩ = some (.bool (v (i + 1))) := by rw [hkX.cell, bCells_get _ _ (by omega)]
      have HYX := hide ((HD.out.keep hXw).yes q1)
      obtain ⟨y1, hy1⟩ : ∃ y, yesN S q1 = y := ⟨_, rfl⟩
      rw [hy1] at HYX
      have HY1 := hide hy1
      clear hG hcp hst hX hXw hkX hy1 HG HCP HST HC6 HCB
      unfold PT at cp HYX
      try unfold PT
      go_wp2_with fail
      refine HYX.out.mono ?_
      rintro e w3 ⟨rfl, rfl⟩
      clear HYX cp
      go_wp2
      refine ⟨⟨i + 1, setF v (i + 1) y1, by go_num, hlt, by rw [HQ1.out], ?_, ?_, ?_⟩, by simp [intOf]; omega⟩
      · have h := HKX.out.set (i + 1) (.bool y1)
        rw [bCells_set] at h
        exact h
      · intro j hj
        by_cases e : j = i + 1
        · subst e
          show (if i + 1 = i + 1 then y1 else v (i + 1)) = true ↔ _
          rw [if_pos rfl, ← HY1.out, ← HQ1.out]
          exact HD.out.ok.match (fun x hx => HBY.out x (List.mem_of_mem_take hx))
        · show (if j = i + 1 then y1 else v j) = true ↔ _
          rw [if_neg e]
          exact HV.out j (by omega)
      · exact (HB.out.trans (HX.out.mono (HBB.out ▸ hsW))).setCell (Nat.le_refl _) _
    · have di : decide ((i : Int) < (N : Int)) = false := by simp; omega
      obtain rfl : i = N := by omega
      go_wp2
      go_ret
      exact ⟨v, rfl, HK.out, by rw [HLL.out]; exact HV.out, HB.out⟩
end Go.Proofs.YthlannjipbohkaaGreatDoor
/- split's tails: of each place of a text, whether what is behind it is a text of the side. -/
namespace Go.Proofs.YthlannjipbohkaaGreatDoor
set_option maxRecDepth 100000
set_option linter.unusedSimpArgs false
set_option linter.unusedVariables false
open Go.RowKit

set_option maxHeartbeats 2000000 in
theorem tails_any (p : Nat) (r : RE) (s : ByteArray) (w : World) (h : SideAt w p r) (hwf : Wf r) (hs : s.size ≤ 100000) :
    Calls Tryz.prog 35 #[PT p, .string s] w fun e w' => ∃ v, e = .returned (.slice (some ⟨w.heap.size, 0, none⟩) (s.size + 1) (s.size + 1)) ∧ Blk w' w.heap.size (bCells (s.size + 1) v) 4 ∧ (∀ i, i ≤ s.size → (v i = true ↔ r.lang ((bytesN s).drop i))) ∧ Below w.heap.size w w' := by
  obtain ⟨b, f, plb, Sb, rb, pl, S, rows, hp, -, hd⟩ := h.ex
  clear h
  obtain ⟨N, hN⟩ : ∃ N, s.size = N := ⟨_, rfl⟩
  obtain ⟨l, hl⟩ : ∃ l, bytesN s = l := ⟨_, rfl⟩
  have hlb : By l := by rw [← hl]; exact by_bytes s
  have HBY := hide hlb
  obtain ⟨B, hB⟩ : ∃ B, w.heap.size = B := ⟨_, rfl⟩
  have hmk := bools_make (N + 1) w (by omega)
  obtain ⟨w1, hw1⟩ : ∃ w1, w.alloc (.cells (bCells (N + 1) fun _ => false) 4) = w1 := ⟨_, rfl⟩
  rw [hw1, hB] at hmk
  have hk1 : Blk w1 B (bCells (N + 1) fun _ => false) 4 := by rw [← hw1, ← hB]; exact Blk.new _ _ _
  have hb1 : Below B w w1 := by rw [← hw1]; exact (Below.refl _ _).alloc (Nat.le_of_eq hB.symm) _
  have HD := hide hd
  have HP := hide hp
  have HBB := hide hB
  have HNN := hide hN
  have HLL := hide hl
  have HB1 := hide hb1
  have HK1 := hide hk1
  have hpl : p < B := by rw [← hB]; exact hp.lt
  have cp : w1.cell? ⟨p, 1, none⟩ = some (PT f) := (World.cell?_of_block (w := w) (hb1.block p hpl)).trans (hp.cell 1)
  have HY0 := hide ((hd.keep (hB ▸ hb1)).yes 0)
  have f1 := hk1.frozen N
  have c1 : w1.cell? ⟨B, N, none⟩ = some (.bool false) := by rw [hk1.cell, bCells_get _ _ (by omega)]
  have HLN : Hid (l.length = N) := by show _ = _; rw [← hl, bytesN_length]; exact hN
  have HMT : Hid (∀ t, By t → (yesN S (runN rows (idxF pl pl.length) 0 t) = true ↔ r.lang t.reverse)) := fun t ht => (hd.ok.match ht).trans (back_lang r hwf t ht)
  have hN5 : N ≤ 100000 := by omega
  have e1 : ((N + 1 : Nat) : Int) = (N : Int) + 1 := by omega
  rw [e1] at hmk
  rw [hN, hB]
  clear hl hlb hd hp hB hb1 hk1 hw1
  unfold PT at cp HY0 ⊢
  go_enter Tryz.func35, Tryz.ntmps35
  go_wp2_with fail
  refine HY0.out.mono ?_
  rintro e w2 ⟨rfl, rfl⟩
  obtain ⟨y0, hy0⟩ : ∃ y, yesN S 0 = y := ⟨_, rfl⟩
  have HY := hide hy0
  rw [hy0]
  clear hy0 HY0 cp hmk
  go_wp2
  go_loopw [6, 7] (fun qv iv wr => ∃ (k : Nat) (v : Nat → Bool), iv = .int .i64 ((k : Int) - 1) ∧ k ≤ N ∧ qv = .int .i64 (runN rows (idxF pl pl.length) 0 (l.drop k).reverse) ∧ Hid (Blk wr B (bCells (N + 1) v) 4) ∧ Hid (∀ j, k ≤ j → j ≤ N → (v j = true ↔ r.lang (l.drop j))) ∧ Hid (Below B w wr)) (fun _ iv _ => (intOf iv + 1).toNat)
  case atStart =>
    refine ⟨N, setF (fun _ => false) N y0, rfl, Nat.le_refl _, ?_, ?_, ?_, HB1.out.setCell (Nat.le_refl _) _⟩
    · rw [List.drop_of_length_le (by rw [HLN.out]; exact Nat.le_refl _)]; rfl
    · have h := HK1.out.set N (.bool y0)
      rw [bCells_set] at h
      exact h
    · intro j hj hj2
      obtain rfl : j = N := by omega
      show (if j = j then y0 else false) = true ↔ _
      rw [if_pos rfl, ← HY.out, List.drop_of_length_le (by rw [HLN.out]; exact Nat.le_refl _)]
      exact HMT.out [] (fun x hx => absurd hx (by simp))
  case round =>
    obtain ⟨k, v, rfl, hi, rfl, HK, HV, HB⟩ := hrel
    by_cases hk0 : 0 < k
    · obtain ⟨i, rfl⟩ : ∃ i, k = i + 1 := ⟨k - 1, by omega⟩
      have hlt : i < N := by omega
      have ei : ((i + 1 : Nat) : Int) - 1 = (i : Int) := by omega
      rw [ei]
      clear ei
      have di : decide ((0 : Int) ≤ (i : Int)) = true := by simp
      have hsz : i < s.size := by rw [HNN.out]; exact hlt
      obtain ⟨b0, hb0⟩ : ∃ b0, (s[i]'hsz).toNat = b0 := ⟨_, rfl⟩
      have hb6 : b0 < 256 := by rw [← hb0]; exact (s[i]'hsz).toNat_lt
      have hli : l[i]? = some b0 := by rw [← HLL.out, bytesN_get hsz, hb0]
      have HTK : Hid ((l.drop i).reverse = (l.drop (i + 1)).reverse ++ [b0]) := by
        show _ = _
        have hil : i < l.length := by rw [HLN.out]; exact hlt
        rw [List.drop_eq_getElem_cons hil, List.reverse_cons]
        congr 2
        rw [List.getElem?_eq_getElem hil] at hli
        exact Option.some.inj hli
      obtain ⟨q, hq⟩ : ∃ q, runN rows (idxF pl pl.length) 0 (l.drop (i + 1)).reverse = q := ⟨_, rfl⟩
      obtain ⟨q1, hq1⟩ : ∃ q1, stepN rows (idxF pl pl.length) q b0 = q1 := ⟨_, rfl⟩
      have HQ1 : Hid (runN rows (idxF pl pl.length) 0 (l.drop i).reverse = q1) := by
        show _ = _
        rw [HTK.out, runN_snoc, hq, hq1]
      rw [hq]
      have HX0 := hide hb0
      have hbw : Below w.heap.size w wr := HBB.out ▸ HB.out
      have hsW : w.heap.size ≤ wr.heap.size := hbw.size
      obtain ⟨C, hC⟩ : ∃ C : World → Prop, C = fun X => Below wr.heap.size wr X := ⟨_, rfl⟩
      have hcb : ∀ X, C X → Below wr.heap.size wr X := fun X h => by rw [hC] at h; exact h
      have HG : Hid (Grows C) := fun X X' h hb => by rw [hC] at h ⊢; exact h.trans (hb.mono h.size)
      have HCP : Hid (∀ X, C X → X.cell? ⟨p, 1, none⟩ = some (PT f)) := fun X hX => (World.cell?_of_block (w := w) ((hbw.trans ((hcb X hX).mono hsW)).block p HP.out.lt)).trans (HP.out.cell 1)
      have HST : Hid (∀ X, C X → Calls Tryz.prog 62 #[PT f, .int .i64 q, .int .u8 b0] X fun e w' => e = .returned (.int .i64 q1) ∧ Below X.heap.size X w') := fun X hX => by
        rw [← hq1]
        exact (HD.out.keep (hbw.trans ((hcb X hX).mono hsW))).step q b0 hb6
      have HC6 : Hid (C { wr with drawn := wr.drawn + 1 }) := by
        rw [hC]
        exact ⟨rfl, rfl, rfl, Nat.le_refl _, fun _ _ => rfl⟩
      have HCB := hide hcb
      have HBW := hide hbw
      clear hq hq1 hb0 hli hC hcb hbw
      go_wp2
      have hG := HG.out
      have hcp := HCP.out
      have hst := HST.out
      refine w_lit (C := C) (by kernel_rfl) (by kernel_rfl) HC6.out ?_
      refine w_value (PT p) (by kernel_rfl) (fun w hw => x_move _ _ _ _ _ _ _ _ rfl w) ?_
      simp only [Act.put, List.setIfInBounds_toArray, List.set_cons_succ, List.set_cons_zero]
      refine w_value (PT p) (by kernel_rfl) (fun w hw => x_nilCheck _ _ _ _ _ _ _ _ rfl w) ?_
      simp only [Act.put, List.setIfInBounds_toArray, List.set_cons_succ, List.set_cons_zero]
      refine w_value (.pointer (some ⟨p, 1, none⟩)) (by kernel_rfl) (fun w hw => x_fieldB _ _ _ _ _ _ _ _ rfl w) ?_
      simp only [Act.put, List.setIfInBounds_toArray, List.set_cons_succ, List.set_cons_zero]
      refine w_value (PT f) (by kernel_rfl) (fun w hw => x_loadD _ _ _ _ _ _ _ p 1 (PT f) rfl w (hcp w hw)) ?_
      simp only [Act.put, List.setIfInBounds_toArray, List.set_cons_succ, List.set_cons_zero]
      refine w_value (.int .i64 q) (by kernel_rfl) (fun w hw => x_move _ _ _ _ _ _ _ _ rfl w) ?_
      simp only [Act.put, List.setIfInBounds_toArray, List.set_cons_succ, List.set_cons_zero]
      refine w_value (.string s) (by kernel_rfl) (fun w hw => x_move _ _ _ _ _ _ _ _ rfl w) ?_
      simp only [Act.put, List.setIfInBounds_toArray, List.set_cons_succ, List.set_cons_zero]
      refine w_value (.int .i64 i) (by kernel_rfl) (fun w hw => x_move _ _ _ _ _ _ _ _ rfl w) ?_
      simp only [Act.put, List.setIfInBounds_toArray, List.set_cons_succ, List.set_cons_zero]
      refine w_value (.int .u8 b0) (by kernel_rfl) (fun w hw => by rw [← HX0.out]; exact x_idxStr _ _ _ _ _ _ _ _ s i hsz rfl rfl w) ?_
      simp only [Act.put, List.setIfInBounds_toArray, List.set_cons_succ, List.set_cons_zero]
      refine w_call hG 62 #[PT f, .int .i64 q, .int .u8 b0] (.int .i64 q1) (by kernel_rfl) (fun w => x_call3 _ _ _ _ _ _ _ _ _ _ _ _ _ _ _ _ rfl rfl rfl rfl (enters_of Tryz.func62 (by kernel_rfl) rfl) w) (fun w hw => hst w hw) ?_
      simp only [Act.put, List.setIfInBounds_toArray, List.set_cons_succ, List.set_cons_zero]
      refine w_value (.int .i64 q1) (by kernel_rfl) (fun w hw => x_assign _ _ _ _ _ _ _ _ rfl w) ?_
      simp only [Act.put, List.setIfInBounds_toArray, List.set_cons_succ, List.set_cons_zero]
      refine w_nil ?_
      intro X hX
      have HX := hide (HCB.out X hX)
      have cp := HCP.out X hX
      have hXw : Below w.heap.size w X := HBW.out.trans (HX.out.mono hsW)
      have HXW := hide hXw
      have hkX := HK.out.below HX.out HK.out.lt
      have HKX := hide hkX
      have fX := hkX.frozen i
      have cX : X.cell? ⟨B, i, none⟩ = some (.bool (v i)) := by rw [hkX.cell, bCells_get _ _ (by omega)]
      have HYX := hide ((HD.out.keep hXw).yes q1)
      obtain ⟨y1, hy1⟩ : ∃ y, yesN S q1 = y := ⟨_, rfl⟩
      rw [hy1] at HYX
      have HY1 := hide hy1
      clear hG hcp hst hX hXw hkX hy1 HG HCP HST HC6 HCB
      unfold PT at cp HYX
      try unfold PT
      go_wp2_with fail
      refine HYX.out.mono ?_
      rintro e w3 ⟨rfl, rfl⟩
      clear HYX cp
      go_wp2
      refine ⟨⟨i, setF v i y1, by go_num, by omega, by rw [HQ1.out], ?_, ?_, ?_⟩, by first | (simp [intOf]; done) | (simp [intOf]; omega)⟩
      · have h := HKX.out.set i (.bool y1)
        rw [bCells_set] at h
        exact h
      · intro j hj hj2
        by_cases e : j = i
        · subst e
          show (if j = j then y1 else v j) = true ↔ _
          rw [if_pos rfl, ← HY1.out, ← HQ1.out, HMT.out _ (fun x hx => HBY.out x (List.mem_of_mem_drop (List.mem_reverse.1 hx))), List.reverse_reverse]
        · show (if j = i then y1 else v j) = true ↔ _
          rw [if_neg e]
          exact HV.out j (by omega) hj2
      · exact (HB.out.trans (HX.out.mono (HBB.out ▸ hsW))).setCell (Nat.le_refl _) _
    · obtain rfl : k = 0 := by omega
      have di : decide ((0 : Int) ≤ ((0 : Nat) : Int) - 1) = false := by decide
      go_wp2
      go_ret
      exact ⟨v, rfl, HK.out, by rw [HLL.out]; exact fun j hj => HV.out j (Nat.zero_le _) hj, HB.out⟩
end Go.Proofs.YthlannjipbohkaaGreatDoor
/- split.Places: where a text can be split. -/
namespace Go.Proofs.YthlannjipbohkaaGreatDoor
set_option maxRecDepth 100000
set_option linter.unusedSimpArgs false
set_option linter.unusedVariables false
open Go.RowKit

/-- append of an int. -/
theorem run_appendInt {W : World} {base : Nat} {v : Value} {l : List Nat} (ty : TypeId) (h : OwnG W base 3 (.int .i64 0) v (intV l)) (g c x : Nat) (hg : Blk W g #[.int .i64 x] 3) (hl : l.length + 1 ≤ 1099511627776) (hbase : base ≤ W.heap.size) :
    ∃ v' W', (Builtin.append_ #[25, 25] ty #[v, .slice (some ⟨g, 0, none⟩) 1 c]).run Tryz.prog W = .ok v' W' ∧ OwnG W' base 3 (.int .i64 0) v' (intV (l ++ [x])) ∧ AppG W W' base 3 (.int .i64 0) v v' := by
  obtain ⟨v', W', h1, h2, h3⟩ := run_appendG (W := W) 25 3 ty (.int .i64 0) 8 Tryz.underlying25 (by kernel_rfl) (by omega) rfl h ⟨g, 0, none⟩ c [.int .i64 x] (by simp) (fun j u hu => by
    rw [Go.WideShapes.add_plain, Nat.zero_add, hg.cell, ← hu]
    simp) (fun u hu => by simp at hu; subst hu; rfl) (by simp [intV]; omega) hbase
  refine ⟨v', W', h1, ?_, h3⟩
  have e : intV (l ++ [x]) = intV l ++ [.int .i64 x] := by simp [intV]
  rw [e]; exact h2
theorem intV_length (l : List Nat) : (intV l).length = l.length := by simp [intV]
/-- The places at which something holds. -/
def plcs (n : Nat) (P : Nat → Bool) : List Nat := (List.range n).filter P
theorem plcs_succ (n : Nat) (P : Nat → Bool) : plcs (n + 1) P = if P n = true then plcs n P ++ [n] else plcs n P := by
  unfold plcs
  rw [List.range_succ, List.filter_append]
  by_cases h : P n = true
  · rw [if_pos h]; simp [h]
  · rw [if_neg h]; simp [h]
theorem plcs_len (n : Nat) (P : Nat → Bool) : (plcs n P).length ≤ n := by
  unfold plcs
  have := List.length_filter_le P (List.range n)
  simpa using this
theorem places_nil1 (y f : Value) (s : ByteArray) (w : World) : Calls Tryz.prog 12 #[.pointer none, y, .string s, f] w fun e w' => e = .returned (.tuple #[.slice none 0 0, .int .i64 1]) ∧ w' = w := by
  go_enter Tryz.func12, Tryz.ntmps12
  go_wp2
  exact bodyPost_ret (v := .tuple #[.slice none 0 0, .int .i64 1]) (by simp [results, Tryz.results12, go_sem]) rfl ⟨rfl, rfl⟩
/-- Whether a text can be split at a place. -/
def PlOk (rx ry : RE) (l : List Nat) (P : Nat → Bool) : Prop := ∀ i, i ≤ l.length → (P i = true ↔ rx.lang (l.take i) ∧ ry.lang (l.drop i))
set_option maxHeartbeats 4000000 in
theorem places_any (px py pf : Nat) (rx ry : RE) (s : ByteArray) (left used n : Nat) (w : World) (hn : n ≤ pf) (hnw : n ≤ w.heap.size) (hx : ∀ W, Below n w W → SideAt W px rx) (hy : ∀ W, Below n w W → SideAt W py ry) (wy : Wf ry) (hf : FuelAt w pf left used) (hs : s.size ≤ 100000) :
    Calls Tryz.prog 12 #[PT px, PT py, .string s, PT pf] w fun e w' => (∀ m, m ≤ w.heap.size → m ≤ pf → Below m w w') ∧
      ((left < 2 * (s.size + 1) ∧ e = .returned (.tuple #[.slice none 0 0, .int .i64 31]) ∧ FuelAt w' pf 0 used) ∨
       (2 * (s.size + 1) ≤ left ∧ ∃ v P, e = .returned (.tuple #[v, .int .i64 0]) ∧ PlOk rx ry (bytesN s) P ∧ OwnG w' w.heap.size 3 (.int .i64 0) v (intV (plcs (s.size + 1) P)) ∧ FuelAt w' pf (left - 2 * (s.size + 1)) (used + 2 * (s.size + 1)))) := by
  obtain ⟨N, hN⟩ : ∃ N, s.size = N := ⟨_, rfl⟩
  have hm2 : (2 * ((N : Int) + 1)) = ((2 * (N + 1) : Nat) : Int) := by omega
  have HST := hide (steps_any s w (by omega))
  have HBU := hide (burn_any pf left used ((2 * (N + 1) : Nat) : Int) w hf (by omega))
  have HX := hide hx
  have HY := hide hy
  have HF := hide hf
  have HNN := hide hN
  have hN5 : N ≤ 100000 := by omega
  rw [hN] at HST ⊢
  have e1 : ((N + 1 : Nat) : Int) = (N : Int) + 1 := by omega
  rw [e1] at HST
  rw [← hm2] at HBU
  clear hx hy hN hf hm2 e1
  unfold PT at HBU ⊢
  go_enter Tryz.func12, Tryz.ntmps12
  go_wp2_with fail
  refine HST.out.mono ?_
  rintro e w1 ⟨rfl, rfl⟩
  go_wp2_with fail
  refine HBU.out.mono ?_
  rintro e w2 ⟨rfl, hf2, hb2, hz2⟩
  have HB2 := hide hb2
  have HF2 := hide hf2
  have hpn : n ≤ w2.heap.size := by omega
  by_cases hle : 2 * (N + 1) ≤ left
  · have eE : burnE left ((2 * (N + 1) : Nat) : Int) = 0 := by unfold burnE; rw [if_pos (by omega)]
    have eL : burnL left ((2 * (N + 1) : Nat) : Int) = left - 2 * (N + 1) := by unfold burnL; rw [if_pos (by omega)]; rfl
    have eU : burnU left used ((2 * (N + 1) : Nat) : Int) = used + 2 * (N + 1) := by unfold burnU; rw [if_pos (by omega)]; rfl
    rw [show (2 * ((N : Int) + 1)) = ((2 * (N + 1) : Nat) : Int) by omega] at HF2 ⊢
    rw [eE]
    rw [eL, eU] at HF2
    have hbn : Below n w1 w2 := hb2 n hn
    have HHX := hide (heads_any px rx s w2 (HX.out w2 hbn) (by rw [HNN.out]; exact hN5))
    rw [HNN.out] at HHX
    have HBN := hide hbn
    have hpf2 : pf < w2.heap.size := hf2.blk.lt
    clear hf2 hb2 hbn eE eL eU HBU HST
    unfold PT at HHX
    go_wp2_with fail
    refine HHX.out.mono ?_
    rintro e w3 ⟨hv, rfl, hk3, hh3, hb3⟩
    obtain ⟨H, hH⟩ : ∃ H, w2.heap.size = H := ⟨_, rfl⟩
    rw [hH] at hk3 ⊢
    have HB3 := hide hb3
    have HK3 := hide hk3
    have HV3 := hide hh3
    have HBN3 := hide (HBN.out.trans (hb3.mono hpn))
    have HTX := hide (tails_any py ry s w3 (HY.out w3 HBN3.out) wy (by rw [HNN.out]; exact hN5))
    rw [HNN.out] at HTX
    have HHH := hide hH
    clear hb3 hk3 hh3 HHX hH
    unfold PT at HTX
    try unfold PT
    go_wp2_with fail
    refine HTX.out.mono ?_
    rintro e w4 ⟨tv, rfl, hk4, ht4, hb4⟩
    obtain ⟨T, hT⟩ : ∃ T, w3.heap.size = T := ⟨_, rfl⟩
    rw [hT] at hk4 ⊢
    have HK4 := hide hk4
    have HV4 := hide ht4
    have HK3' := hide (HK3.out.below hb4 HK3.out.lt)
    have HB4 := hide (HB3.out.trans (hb4.mono HB3.out.size))
    clear hb4 hk4 ht4 HTX hT HK3
    have hP : PlOk rx ry (bytesN s) fun i => hv i && tv i := fun i hi => by
      rw [bytesN_length, HNN.out] at hi
      rw [Bool.and_eq_true, HV3.out i hi, HV4.out i hi]
    have HP := hide hP
    obtain ⟨P, hPd⟩ : ∃ P : Nat → Bool, P = fun i => hv i && tv i := ⟨_, rfl⟩
    rw [← hPd] at HP
    have HPD := hide hPd
    clear hP hPd
    go_wp2
    go_loopw [13, 37] (fun ov iv wr => ∃ i : Nat, iv = .int .i64 i ∧ i ≤ N + 1 ∧ Hid (OwnG wr w4.heap.size 3 (.int .i64 0) ov (intV (plcs i P))) ∧ Hid (Below w4.heap.size w4 wr)) (fun _ iv _ => N + 1 - (intOf iv).toNat)
    case atStart => exact ⟨0, rfl, Nat.zero_le _, OwnG.nil _ _ _ _, Below.refl _ _⟩
    case round =>
      obtain ⟨i, rfl, hi, HO, HBE⟩ := hrel
      by_cases hlt : i < N + 1
      · have di : decide ((i : Int) < (N : Int) + 1) = true := by simp; omega
        have k3 := HK3'.out.below HBE.out HK3'.out.lt
        have k4 := HK4.out.below HBE.out HK4.out.lt
        have c3 : wr.cell? ⟨H, i, none⟩ = some (.bool (hv i)) := by rw [k3.cell, bCells_get _ _ hlt]
        have c4 : wr.cell? ⟨T, i, none⟩ = some (.bool (tv i)) := by rw [k4.cell, bCells_get _ _ hlt]
        have hPi : P i = (hv i && tv i) := by rw [HPD.out]
        have hsuc := plcs_succ i P
        obtain ⟨oa, oc, rfl, -⟩ := OwnG.slice HO.out
        rw [intV_length] at HO ⊢
        have hpl := plcs_len i P
        clear k3 k4
        cases h1 : hv i with
        | false =>
          rw [h1] at c3 hPi
          rw [hPi, Bool.false_and, if_neg (by decide)] at hsuc
          have HSU := hide hsuc
          clear hsuc hPi h1
          generalize (plcs i P).length = M at *
          go_wp2
          exact ⟨⟨i + 1, by go_num, hlt, by rw [HSU.out]; exact HO.out, HBE.out⟩, by simp [intOf]; omega⟩
        | true =>
          cases h2 : tv i with
          | false =>
            rw [h1] at c3 hPi
            rw [h2] at c4 hPi
            rw [hPi, if_neg (by decide)] at hsuc
            have HSU := hide hsuc
            clear hsuc hPi h1 h2
            generalize (plcs i P).length = M at *
            go_wp2
            exact ⟨⟨i + 1, by go_num, hlt, by rw [HSU.out]; exact HO.out, HBE.out⟩, by simp [intOf]; omega⟩
          | true =>
            rw [h1] at c3 hPi
            rw [h2] at c4 hPi
            rw [hPi, if_pos (by decide)] at hsuc
            obtain ⟨w5, hw5⟩ : ∃ w5, wr.alloc (.cells #[.int .i64 i] 3) = w5 := ⟨_, rfl⟩
            have hb5 : Below wr.heap.size wr w5 := by rw [← hw5]; exact (Below.refl _ _).alloc (Nat.le_refl _) _
            have hk5 : Blk w5 wr.heap.size #[.int .i64 i] 3 := by rw [← hw5]; exact Blk.newAt rfl _ _
            obtain ⟨v', W', hr6, ho6, ha6⟩ := run_appendInt 25 (OwnG.keep HO.out hb5) wr.heap.size 1 i hk5 (by omega) (Nat.le_trans HBE.out.size hb5.size)
            have HO6 := hide ho6
            have HB6 := hide ((HBE.out.trans (hb5.mono HBE.out.size)).trans ha6.below)
            have HSU := hide hsuc
            clear hb5 hk5 ho6 ha6 hsuc hPi h1 h2
            generalize (plcs i P).length = M at *
            go_wp2_with (refine wpList_append_run rfl _ _ _ rfl _ _ _ rfl rfl hr6 ?_)
            exact ⟨⟨i + 1, by go_num, hlt, by rw [HSU.out]; exact HO6.out, HB6.out⟩, by simp [intOf]; omega⟩
      · have di : decide ((i : Int) < (N : Int) + 1) = false := by simp; omega
        obtain rfl : i = N + 1 := by omega
        obtain ⟨oa, oc, rfl, -⟩ := OwnG.slice HO.out
        rw [intV_length] at HO ⊢
        have hall : Below w2.heap.size w2 wr := HB4.out.trans (HBE.out.mono HB4.out.size)
        have HALL := hide hall
        have hz24 : w2.heap.size ≤ w4.heap.size := HB4.out.size
        clear hall
        generalize (plcs (N + 1) P).length = M at *
        go_wp2
        refine bodyPost_ret (v := .tuple #[.slice oa M oc, .int .i64 0]) (by simp [results, Tryz.results12, go_sem]) rfl ⟨fun m h1 h2 => (HB2.out m h2).trans (HALL.out.mono (by omega)), .inr ⟨hle, _, P, rfl, HP.out, OwnG.lower HO.out (by omega), HF2.out.below HALL.out hpf2⟩⟩
  · have eE : burnE left ((2 * (N + 1) : Nat) : Int) = 31 := by unfold burnE; rw [if_neg (by omega)]
    have eL : burnL left ((2 * (N + 1) : Nat) : Int) = 0 := by unfold burnL; rw [if_neg (by omega)]
    have eU : burnU left used ((2 * (N + 1) : Nat) : Int) = used := by unfold burnU; rw [if_neg (by omega)]
    rw [show (2 * ((N : Int) + 1)) = ((2 * (N + 1) : Nat) : Int) by omega] at HF2 ⊢
    rw [eE]
    rw [eL, eU] at HF2
    clear hf2 hb2 eE eL eU HBU HST
    go_wp2
    exact bodyPost_ret (v := .tuple #[.slice none 0 0, .int .i64 31]) (by simp [results, Tryz.results12, go_sem]) rfl ⟨fun m h1 h2 => HB2.out m h2, .inl ⟨by omega, rfl, HF2.out⟩⟩
end Go.Proofs.YthlannjipbohkaaGreatDoor
/- split's Match and Cat. -/
namespace Go.Proofs.YthlannjipbohkaaGreatDoor
set_option maxRecDepth 100000
set_option linter.unusedSimpArgs false
set_option linter.unusedVariables false
open Go.RowKit

theorem x_idxInt0 (ρ : Operand → Value) (d : Option Tmp) (x : Operand) (t : TypeId) (pos : String) (af : Array Edge) (g : Option (Nat × Bool)) (b len cap : Nat) (hx : ρ x = .slice (some ⟨b, 0, none⟩) len cap) (hy : ρ (.const (.int .i64 0)) = .int .i64 0) (h1 : 0 < len) (w : World) :
    (execOp ρ { dst := d, op := .indexAddr 25 x (.const (.int .i64 0)), type := t, pos := pos, after := af, guard := g }).run Tryz.prog w = .ok (.value (.pointer (some ⟨b, 0, none⟩))) w := by
  simp [go_sem, hx, hy, h1]
theorem x_assignC (ρ : Operand → Value) (d : Option Tmp) (t : TypeId) (pos : String) (af : Array Edge) (g : Option (Nat × Bool)) (v : Value) (hv : ρ (.const v) = v) (w : World) :
    (execOp ρ { dst := d, op := .assign (.const v), type := t, pos := pos, after := af, guard := g }).run Tryz.prog w = .ok (.value v) w := by
  simp [go_sem, hv]
set_option maxHeartbeats 2000000 in
theorem smatch_any (p pf : Nat) (r : RE) (s : ByteArray) (left used n : Nat) (w : World) (hn : n ≤ pf) (hnw : n ≤ w.heap.size) (hx : ∀ W, Below n w W → SideAt W p r) (hf : FuelAt w pf left used) (hs : s.size ≤ 100000) :
    Calls Tryz.prog 16 #[PT p, .string s, PT pf] w fun e w' => (∀ m, m ≤ w.heap.size → m ≤ pf → Below m w w') ∧
      ((left < s.size + 1 ∧ e = .returned (.tuple #[.bool false, .int .i64 31])) ∨ (s.size + 1 ≤ left ∧ ∃ b : Bool, e = .returned (.tuple #[.bool b, .int .i64 0]) ∧ (b = true ↔ r.lang (bytesN s)))) := by
  obtain ⟨N, hN⟩ : ∃ N, s.size = N := ⟨_, rfl⟩
  have HST := hide (steps_any s w (by omega))
  have HBU := hide (burn_any pf left used ((N + 1 : Nat) : Int) w hf (by omega))
  have HX := hide hx
  have HNN := hide hN
  have hN5 : N ≤ 100000 := by omega
  rw [hN] at HST ⊢
  clear hx hN hf
  unfold PT at HBU ⊢
  go_enter Tryz.func16, Tryz.ntmps16
  go_wp2_with fail
  refine HST.out.mono ?_
  rintro e w1 ⟨rfl, rfl⟩
  go_wp2_with fail
  refine HBU.out.mono ?_
  rintro e w2 ⟨rfl, hf2, hb2, hz2⟩
  have HB2 := hide hb2
  by_cases hle : N + 1 ≤ left
  · have eE : burnE left ((N + 1 : Nat) : Int) = 0 := by unfold burnE; rw [if_pos (by omega)]
    rw [eE]
    have hsd := HX.out w2 (hb2 n hn)
    obtain ⟨f, b, plf, Sf, rf, plb, Sb, rb, h1, h2, h3⟩ := hsd.ex
    have c0 := h1.cell 0
    simp only [List.getElem?_toArray, List.getElem?_cons_zero] at c0
    have HM := hide (h2.match s (by unfold maxLen; omega))
    clear hf2 hb2 eE HBU HST h1 h2 h3 hsd
    unfold PT at c0 HM
    try unfold PT
    go_wp2_with fail
    refine HM.out.mono ?_
    rintro e w3 ⟨q, rfl, hq, hb3⟩
    have HQ := hide hq
    have HB3 := hide hb3
    clear hq hb3 HM c0
    go_wp2
    exact bodyPost_ret (v := .tuple #[.bool q, .int .i64 0]) (by simp [results, Tryz.results16, go_sem]) rfl ⟨fun m h1 h2 => (HB2.out m h2).trans (HB3.out.mono (by omega)), .inr ⟨hle, q, rfl, HQ.out⟩⟩
  · have eE : burnE left ((N + 1 : Nat) : Int) = 31 := by unfold burnE; rw [if_neg (by omega)]
    rw [eE]
    clear hf2 hb2 eE HBU HST
    go_wp2
    exact bodyPost_ret (v := .tuple #[.bool false, .int .i64 31]) (by simp [results, Tryz.results16, go_sem]) rfl ⟨fun m h1 h2 => HB2.out m h2, .inl ⟨by omega, rfl⟩⟩
theorem smatch_nil (pf : Nat) (s : ByteArray) (left used : Nat) (w : World) (hf : FuelAt w pf left used) (hs : s.size ≤ 100000) (hle : s.size + 1 ≤ left) :
    Calls Tryz.prog 16 #[.pointer none, .string s, PT pf] w fun e w' => e = .returned (.tuple #[.bool false, .int .i64 0]) ∧ ∀ m, m ≤ pf → Below m w w' := by
  obtain ⟨N, hN⟩ : ∃ N, s.size = N := ⟨_, rfl⟩
  have HST := hide (steps_any s w (by omega))
  have HBU := hide (burn_any pf left used ((N + 1 : Nat) : Int) w hf (by omega))
  rw [hN] at HST hle
  have eE : burnE left ((N + 1 : Nat) : Int) = 0 := by unfold burnE; rw [if_pos (by omega)]
  rw [eE] at HBU
  clear hN hf eE
  unfold PT at HBU ⊢
  go_enter Tryz.func16, Tryz.ntmps16
  go_wp2_with fail
  refine HST.out.mono ?_
  rintro e w1 ⟨rfl, rfl⟩
  go_wp2_with fail
  refine HBU.out.mono ?_
  rintro e w2 ⟨rfl, hf2, hb2, hz2⟩
  have HB2 := hide hb2
  clear hf2 hb2 HBU HST
  go_wp2
  exact bodyPost_ret (v := .tuple #[.bool false, .int .i64 0]) (by simp [results, Tryz.results16, go_sem]) rfl ⟨rfl, fun m h2 => HB2.out m h2⟩
/-- What Cat answers. -/
def CatP (rx ry : RE) (s : ByteArray) (left : Nat) (e : Ending) : Prop :=
  (left < 2 * (s.size + 1) ∧ e = .returned (.tuple #[.string ⟨#[]⟩, .string ⟨#[]⟩, .int .i64 31])) ∨
  (2 * (s.size + 1) ≤ left ∧ ∃ P, PlOk rx ry (bytesN s) P ∧ (((plcs (s.size + 1) P).length ≠ 1 ∧ e = .returned (.tuple #[.string ⟨#[]⟩, .string ⟨#[]⟩, .int .i64 30])) ∨
    ∃ i, plcs (s.size + 1) P = [i] ∧ e = .returned (.tuple #[.string (s.extract 0 i), .string (s.extract i s.size), .int .i64 0])))
set_option maxHeartbeats 2000000 in
theorem cat_any (px py pf : Nat) (rx ry : RE) (s : ByteArray) (left used n : Nat) (w : World) (hn : n ≤ pf) (hnw : n ≤ w.heap.size) (hx : ∀ W, Below n w W → SideAt W px rx) (hy : ∀ W, Below n w W → SideAt W py ry) (wy : Wf ry) (hf : FuelAt w pf left used) (hs : s.size ≤ 100000) :
    Calls Tryz.prog 15 #[PT px, PT py, .string s, PT pf] w fun e w' => (∀ m, m ≤ w.heap.size → m ≤ pf → Below m w w') ∧ CatP rx ry s left e := by
  have HP := hide (places_any px py pf rx ry s left used n w hn hnw hx hy wy hf hs)
  clear hx hy hf
  unfold PT at HP ⊢
  go_enter Tryz.func15, Tryz.ntmps15
  go_wp2_with fail
  refine HP.out.mono ?_
  rintro e w1 ⟨hb1, hh⟩
  have HB1 := hide hb1
  have hsz : w.heap.size ≤ w1.heap.size := (HB1.out 0 (Nat.zero_le _) (Nat.zero_le _)).size
  clear HP hb1
  rcases hh with ⟨hl, rfl, -⟩ | ⟨hl, v, P, rfl, hp, ho, -⟩
  · go_wp2
    exact bodyPost_ret (v := .tuple #[.string ⟨#[]⟩, .string ⟨#[]⟩, .int .i64 31]) (by simp [results, Tryz.results15, go_sem]) rfl ⟨HB1.out, .inl ⟨hl, rfl⟩⟩
  · have HPL := hide hp
    obtain ⟨L, hL⟩ : ∃ L, plcs (s.size + 1) P = L := ⟨_, rfl⟩
    have hmem : ∀ i ∈ L, i ≤ s.size := fun i hi => by
      rw [← hL] at hi
      unfold plcs at hi
      have := List.mem_range.1 (List.mem_filter.1 hi).1
      omega
    rw [hL] at ho
    have HLL := hide hL
    have HO := hide ho
    obtain ⟨oa, oc, rfl, -⟩ := OwnG.slice ho
    rw [intV_length] at HO ⊢
    by_cases h1 : L.length = 1
    · obtain ⟨i, rfl⟩ := List.length_eq_one_iff.1 h1
      have hi := hmem i (by simp)
      obtain ⟨g, cap, e, -, hg, -, hc⟩ := OwnG.at HO.out (by simp [intV])
      have hc0 : w1.cell? ⟨g, 0, none⟩ = some (.int .i64 i) := hc 0 _ rfl
      obtain ⟨rfl, rfl⟩ : oa = some ⟨g, 0, none⟩ ∧ oc = cap := by cases e; exact ⟨rfl, rfl⟩
      obtain ⟨C, hC⟩ : ∃ C : World → Prop, C = fun X => Below w1.heap.size w1 X := ⟨_, rfl⟩
      have hcb : ∀ X, C X → Below w1.heap.size w1 X := fun X h => by rw [hC] at h; exact h
      have HCC : Hid (∀ X, C X → X.cell? ⟨g, 0, none⟩ = some (.int .i64 i)) := fun X hX => (World.cell?_of_block (w := w1) ((hcb X hX).block g hg)).trans hc0
      have HC6 : Hid (C { w1 with drawn := w1.drawn + 1 }) := by
        rw [hC]
        exact ⟨rfl, rfl, rfl, Nat.le_refl _, fun _ _ => rfl⟩
      have HCB := hide hcb
      have HI := hide hi
      clear hp ho hL hmem hc hc0 hC hcb h1 e
      go_wp2
      have hcc := HCC.out
      have hi := HI.out
      refine w_lit (C := C) (by kernel_rfl) (by kernel_rfl) HC6.out ?_
      refine w_value (.string s) (by kernel_rfl) (fun w hw => x_move _ _ _ _ _ _ _ _ rfl w) ?_
      simp only [Act.put, List.setIfInBounds_toArray, List.set_cons_succ, List.set_cons_zero]
      refine w_value (Value.slice (some ⟨g, 0, none⟩) [i].length oc) (by kernel_rfl) (fun w hw => x_move _ _ _ _ _ _ _ _ rfl w) ?_
      simp only [Act.put, List.setIfInBounds_toArray, List.set_cons_succ, List.set_cons_zero]
      refine w_value (.pointer (some ⟨g, 0, none⟩)) (by kernel_rfl) (fun w hw => x_idxInt0 _ _ _ _ _ _ _ g _ oc rfl rfl (by simp) w) ?_
      simp only [Act.put, List.setIfInBounds_toArray, List.set_cons_succ, List.set_cons_zero]
      refine w_value (.int .i64 i) (by kernel_rfl) (fun w hw => x_loadInt _ _ _ _ _ _ _ g 0 i rfl w (hcc w hw)) ?_
      simp only [Act.put, List.setIfInBounds_toArray, List.set_cons_succ, List.set_cons_zero]
      refine w_value (.string (s.extract 0 i)) (by kernel_rfl) (fun w hw => x_strTo _ _ _ _ _ _ _ _ s i rfl rfl hi w) ?_
      simp only [Act.put, List.setIfInBounds_toArray, List.set_cons_succ, List.set_cons_zero]
      refine w_value (.string s) (by kernel_rfl) (fun w hw => x_move _ _ _ _ _ _ _ _ rfl w) ?_
      simp only [Act.put, List.setIfInBounds_toArray, List.set_cons_succ, List.set_cons_zero]
      refine w_value (Value.slice (some ⟨g, 0, none⟩) [i].length oc) (by kernel_rfl) (fun w hw => x_move _ _ _ _ _ _ _ _ rfl w) ?_
      simp only [Act.put, List.setIfInBounds_toArray, List.set_cons_succ, List.set_cons_zero]
      refine w_value (.pointer (some ⟨g, 0, none⟩)) (by kernel_rfl) (fun w hw => x_idxInt0 _ _ _ _ _ _ _ g _ oc rfl rfl (by simp) w) ?_
      simp only [Act.put, List.setIfInBounds_toArray, List.set_cons_succ, List.set_cons_zero]
      refine w_value (.int .i64 i) (by kernel_rfl) (fun w hw => x_loadInt _ _ _ _ _ _ _ g 0 i rfl w (hcc w hw)) ?_
      simp only [Act.put, List.setIfInBounds_toArray, List.set_cons_succ, List.set_cons_zero]
      refine w_value (.string (s.extract i s.size)) (by kernel_rfl) (fun w hw => x_strFrom _ _ _ _ _ _ _ _ s i rfl rfl hi w) ?_
      simp only [Act.put, List.setIfInBounds_toArray, List.set_cons_succ, List.set_cons_zero]
      refine w_value (.string (s.extract 0 i)) (by kernel_rfl) (fun w hw => x_assign _ _ _ _ _ _ _ _ rfl w) ?_
      simp only [Act.put, List.setIfInBounds_toArray, List.set_cons_succ, List.set_cons_zero]
      refine w_value (.string (s.extract i s.size)) (by kernel_rfl) (fun w hw => x_assign _ _ _ _ _ _ _ _ rfl w) ?_
      simp only [Act.put, List.setIfInBounds_toArray, List.set_cons_succ, List.set_cons_zero]
      refine w_value (.int .i64 0) (by kernel_rfl) (fun w hw => x_assignC _ _ _ _ _ _ (.int .i64 0) rfl w) ?_
      simp only [Act.put, List.setIfInBounds_toArray, List.set_cons_succ, List.set_cons_zero]
      refine w_nil ?_
      intro X hX
      have HX := hide (HCB.out X hX)
      clear hcc hi HCC HC6 HCB hX
      go_wp2
      exact bodyPost_ret (v := .tuple #[.string (s.extract 0 i), .string (s.extract i s.size), .int .i64 0]) (by simp [results, Tryz.results15, go_sem]) rfl ⟨fun m h2 h3 => (HB1.out m h2 h3).trans (HX.out.mono (Nat.le_trans h2 hsz)), .inr ⟨hl, P, HPL.out, .inr ⟨i, HLL.out, rfl⟩⟩⟩
    · have d1 : ((L.length : Int) != 1) = true := by simp; omega
      have d2 : (L.length != 1) = true := by simp [h1]
      have HN1 : Hid ((plcs (s.size + 1) P).length ≠ 1) := by rw [hL]; exact h1
      clear hp ho hL hmem h1
      generalize L.length = M at *
      go_wp2
      exact bodyPost_ret (v := .tuple #[.string ⟨#[]⟩, .string ⟨#[]⟩, .int .i64 30]) (by simp [results, Tryz.results15, go_sem]) rfl ⟨HB1.out, .inr ⟨hl, P, HPL.out, .inl ⟨HN1.out, rfl⟩⟩⟩
end Go.Proofs.YthlannjipbohkaaGreatDoor
/- The document's example, as layer 9 asks it first: aabb is split for a* and b*. -/
namespace Go.Proofs.YthlannjipbohkaaGreatDoor
set_option maxRecDepth 100000
set_option linter.unusedSimpArgs false
set_option linter.unusedVariables false
open Go.RowKit

theorem let9_by {t : List Nat} (h : ∀ x ∈ t, x < 256) : By t := h
theorem plcs9 {P : Nat → Bool} (h : PlOk (oA 97) (oA 98) [97, 97, 98, 98] P) : plcs 5 P = [2] := by
  have e : ∀ i, i ≤ 4 → (P i = true ↔ i = 2) := fun i hi => by
    rw [h i hi, oA_lang let97, oA_lang let98]
    obtain rfl | rfl | rfl | rfl | rfl : i = 0 ∨ i = 1 ∨ i = 2 ∨ i = 3 ∨ i = 4 := by omega
    all_goals simp
  have h0 : P 0 = false := by rw [Bool.eq_false_iff]; intro h; exact absurd ((e 0 (by omega)).1 h) (by decide)
  have h1 : P 1 = false := by rw [Bool.eq_false_iff]; intro h; exact absurd ((e 1 (by omega)).1 h) (by decide)
  have h2 : P 2 = true := (e 2 (by omega)).2 rfl
  have h3 : P 3 = false := by rw [Bool.eq_false_iff]; intro h; exact absurd ((e 3 (by omega)).1 h) (by decide)
  have h4 : P 4 = false := by rw [Bool.eq_false_iff]; intro h; exact absurd ((e 4 (by omega)).1 h) (by decide)
  rw [plcs_succ, plcs_succ, plcs_succ, plcs_succ, plcs_succ, h0, h1, h2, h3, h4]
  rfl
theorem cat9 {e : Ending} (h : CatP (oA 97) (oA 98) ⟨#[97, 97, 98, 98]⟩ 100 e) : e = .returned (.tuple #[.string ⟨#[97, 97]⟩, .string ⟨#[98, 98]⟩, .int .i64 0]) := by
  rcases h with ⟨hl, -⟩ | ⟨-, P, hp, h⟩
  · exact absurd hl (by decide)
  · have hp5 := plcs9 (P := P) hp
    have e5 : plcs ((⟨#[97, 97, 98, 98]⟩ : ByteArray).size + 1) P = [2] := hp5
    rcases h with ⟨h, -⟩ | ⟨i, hi, rfl⟩
    · rw [e5] at h; exact absurd rfl h
    · rw [e5] at hi
      injection hi with hi
      subst hi
      congr
theorem sz9 : (⟨#[97, 97, 98, 98]⟩ : ByteArray).size = 4 := rfl
set_option maxHeartbeats 2000000 in
theorem head9_any (w : World) (hT : TabAt w) :
    Calls Tryz.prog 5 #[] w fun e w' => e = .returned (.bool true) ∧ Below w.heap.size w w' := by
  have HT := hide hT
  clear hT
  have hm : max (100 : Int) 0 = 100 := by omega
  have HM := hide hm
  clear hm
  go_enter Tryz.func5, Tryz.ntmps5
  go_wp2_with fail
  refine (word_any ⟨#[97]⟩ w (by decide) (FL.none _)).mono ?_
  rintro e w1 ⟨wb, rfl, h1, hb1⟩
  rw [show bytesN ⟨#[97]⟩ = [97] from rfl] at h1
  have HB1 := hide hb1
  have HC := hide (many_any wb (rWord [97]) w1 h1)
  rw [show rMany (rWord [97]) = oA 97 from rfl] at HC
  clear h1 hb1
  go_wp2_with fail
  refine HC.out.mono ?_
  rintro e w2 ⟨a, rfl, h2, hb2⟩
  have HB2 : Hid (Below w.heap.size w w2) := HB1.out.trans (hb2.mono HB1.out.size)
  have HA := hide h2
  clear h2 hb2 HC HB1
  go_wp2_with fail
  refine (grant_any 100 w2 (by omega)).mono ?_
  rintro e w3 ⟨bud, rfl, hbd, hbl, hb3⟩
  rw [HM.out] at hbd
  have HB3 : Hid (Below w.heap.size w w3) := HB2.out.trans (hb3.mono HB2.out.size)
  have HO := hide (sbuild_any (oA 97) a w3 (HA.out.keep hb3) (oA_wf let97) (Nat.le_trans (oA_cnt let97) (by omega)) bud 100 hbd hbd.blk.lt (by omega) (by omega) (HT.out.agree (Agree.of_all (K := fun _ => True) HB3.out) trivial))
  have h23 := hb3.size
  have hbl' : w.heap.size ≤ bud := Nat.le_trans HB2.out.size hbl
  clear hbd hb3
  unfold PT at HO
  try unfold PT
  go_wp2_with fail
  refine HO.out.mono ?_
  rintro e w4 ⟨hf4, hh⟩
  have HB4 : Hid (Below w.heap.size w w4) := HB3.out.trans (hf4 w.heap.size HB3.out.size hbl')
  rcases hh with ⟨hbad, -⟩ | ⟨pa, rfl, hsa, -⟩
  · exact absurd hbad (oA_good let97)
  have HSA := hide hsa
  clear hsa hf4 HO HA
  try unfold PT
  go_wp2_with fail
  refine (word_any ⟨#[98]⟩ w4 (by decide) (FL.none _)).mono ?_
  rintro e w5 ⟨wb2, rfl, h5, hb5⟩
  rw [show bytesN ⟨#[98]⟩ = [98] from rfl] at h5
  have HB5 : Hid (Below w.heap.size w w5) := HB4.out.trans (hb5.mono HB4.out.size)
  have HV5 := hide hb5
  have HC := hide (many_any wb2 (rWord [98]) w5 h5)
  rw [show rMany (rWord [98]) = oA 98 from rfl] at HC
  clear h5 hb5
  try unfold PT
  go_wp2_with fail
  refine HC.out.mono ?_
  rintro e w6 ⟨b, rfl, h6, hb6⟩
  have HB6 : Hid (Below w.heap.size w w6) := HB5.out.trans (hb6.mono HB5.out.size)
  have HV6 := hide (HV5.out.trans (hb6.mono HV5.out.size))
  have HQ := hide h6
  clear h6 hb6 HC
  try unfold PT
  go_wp2_with fail
  refine (grant_any 100 w6 (by omega)).mono ?_
  rintro e w7 ⟨bud2, rfl, hbd, hbl2, hb7⟩
  rw [HM.out] at hbd
  have HB7 : Hid (Below w.heap.size w w7) := HB6.out.trans (hb7.mono HB6.out.size)
  have HV7 := hide (HV6.out.trans (hb7.mono HV6.out.size))
  have HO := hide (sbuild_any (oA 98) b w7 (HQ.out.keep hb7) (oA_wf let98) (Nat.le_trans (oA_cnt let98) (by omega)) bud2 100 hbd hbd.blk.lt (by omega) (by omega) (HT.out.agree (Agree.of_all (K := fun _ => True) HB7.out) trivial))
  have hbl3 : w4.heap.size ≤ bud2 := Nat.le_trans HV6.out.size hbl2
  have hbl4 : w.heap.size ≤ bud2 := Nat.le_trans HB6.out.size hbl2
  clear hbd hb7
  unfold PT at HO
  try unfold PT
  go_wp2_with fail
  refine HO.out.mono ?_
  rintro e w8 ⟨hf8, hh⟩
  have HB8 : Hid (Below w.heap.size w w8) := HB7.out.trans (hf8 w.heap.size HB7.out.size hbl4)
  have HV8 := hide (HV7.out.trans (hf8 w4.heap.size HV7.out.size hbl3))
  rcases hh with ⟨hbad, -⟩ | ⟨pb, rfl, hsb, -⟩
  · exact absurd hbad (oA_good let98)
  have HSB := hide hsb
  have HSA8 := hide (HSA.out.keep HV8.out)
  clear hsb hf8 HO HQ
  try unfold PT
  go_wp2_with fail
  refine (fill_any 100 w8 (by omega)).mono ?_
  rintro e w9 ⟨pf, rfl, hf9, hpf, hb9⟩
  have HB9 : Hid (Below w.heap.size w w9) := HB8.out.trans (hb9.mono HB8.out.size)
  have HCT := hide (cat_any pa pb pf (oA 97) (oA 98) ⟨#[97, 97, 98, 98]⟩ 100 0 w8.heap.size w9 (by omega) hb9.size (fun W hW => HSA8.out.keep (hb9.trans hW)) (fun W hW => HSB.out.keep (hb9.trans hW)) (oA_wf let98) hf9 (Nat.le_trans (Nat.le_of_eq sz9) (by omega)))
  have hpw : w.heap.size ≤ pf := by rw [hpf]; exact HB8.out.size
  clear hf9 hb9 hpf
  unfold PT at HCT
  try unfold PT
  go_wp2_with fail
  refine HCT.out.mono ?_
  rintro e wa ⟨hfa, hcp⟩
  obtain rfl := cat9 hcp
  have HBa : Hid (Below w.heap.size w wa) := HB9.out.trans (hfa w.heap.size HB9.out.size hpw)
  clear hfa hcp HCT
  go_wp2
  go_ret
  exact ⟨rfl, HBa.out⟩
end Go.Proofs.YthlannjipbohkaaGreatDoor
