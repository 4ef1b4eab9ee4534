/- Texts of this claim put together: LwZ, LxB, LxC. -/
import Derived.Test.YtjlgepahgmkamaaGreatDoorJoinTrC
/- Ints that are less or not. -/
namespace Go.Proofs.YtjlgepahgmkamaaGreatDoor
set_option maxRecDepth 100000
set_option linter.unusedSimpArgs false
set_option linter.unusedVariables false
open Go.RowKit Go.Shelf
section
variable (ρ : Operand → Value) (d : Option Tmp) (x y : Operand) (t : TypeId) (pos : String) (af : Array Edge) (g : Option (Nat × Bool))
theorem x_lssZ (u v : Int) (c : Bool) (h : decide (u < v) = c) (hx : ρ x = .int .i64 u) (hy : ρ y = .int .i64 v) (w : World) :
    (execOp ρ { dst := d, op := .binOp .lss 3 x y 3, type := t, pos := pos, after := af, guard := g }).run Tryz.prog w = .ok (.value (.bool c)) w := by
  rw [← h]; simp [go_sem, hx, hy]
end
end Go.Proofs.YtjlgepahgmkamaaGreatDoor
/- The reader of programs in memory: fail, closed, sign. -/
namespace Go.Proofs.YtjlgepahgmkamaaGreatDoor
set_option maxRecDepth 100000
set_option linter.unusedSimpArgs false
set_option linter.unusedVariables false
open Go.RowKit Go.Shelf

def lxC (s : ByteArray) (at' er wh : Nat) : Array Value := #[.string s, .int .i64 at', .int .i64 er, .int .i64 wh]
/-- The reader in block p: its program, the next byte's place, the error, where it is. -/
structure LxAt (w : World) (p : Nat) (s : ByteArray) (at' er wh : Nat) : Prop where
  blk : Blk w p (lxC s at' er wh) 57
  le : at' ≤ s.size + 4
  big : s.size ≤ 65536
theorem LxAt.keep {w w' : World} {p : Nat} {s : ByteArray} {a e x : Nat} (h : LxAt w p s a e x) (hb : Below w.heap.size w w') : LxAt w' p s a e x := ⟨h.blk.below hb h.blk.lt, h.le, h.big⟩
theorem LxAt.c0 {w : World} {p : Nat} {s : ByteArray} {a e x : Nat} (h : LxAt w p s a e x) : w.cell? ⟨p, 0, none⟩ = some (.string s) := by rw [h.blk.cell]; rfl
theorem LxAt.c1 {w : World} {p : Nat} {s : ByteArray} {a e x : Nat} (h : LxAt w p s a e x) : w.cell? ⟨p, 1, none⟩ = some (.int .i64 a) := by rw [h.blk.cell]; rfl
theorem LxAt.c2 {w : World} {p : Nat} {s : ByteArray} {a e x : Nat} (h : LxAt w p s a e x) : w.cell? ⟨p, 2, none⟩ = some (.int .i64 e) := by rw [h.blk.cell]; rfl
theorem LxAt.c3 {w : World} {p : Nat} {s : ByteArray} {a e x : Nat} (h : LxAt w p s a e x) : w.cell? ⟨p, 3, none⟩ = some (.int .i64 x) := by rw [h.blk.cell]; rfl
theorem LxAt.move {w : World} {p : Nat} {s : ByteArray} {a e x : Nat} (h : LxAt w p s a e x) (b : Nat) (hb : b ≤ s.size + 4) : LxAt (w.setCell ⟨p, 1, none⟩ (.int .i64 b)) p s b e x := ⟨h.blk.set 1 _, hb, h.big⟩
theorem LxAt.err {w : World} {p : Nat} {s : ByteArray} {a e x : Nat} (h : LxAt w p s a e x) (e' x' : Nat) : LxAt ((w.setCell ⟨p, 2, none⟩ (.int .i64 e')).setCell ⟨p, 3, none⟩ (.int .i64 x')) p s a e' x' := ⟨(h.blk.set 2 (.int .i64 e')).set 3 (.int .i64 x'), h.le, h.big⟩
theorem Aside.put (w : World) (p i : Nat) (v : Value) : Aside p w (w.setCell ⟨p, i, none⟩ v) := ⟨rfl, rfl, rfl, by simp [World.setCell], fun k _ hk => Below.heap_setCell _ _ _ _ hk⟩

section
variable (ρ : Operand → Value) (d : Option Tmp) (x : Operand) (t : TypeId) (pos : String) (af : Array Edge) (g : Option (Nat × Bool))
theorem x_lxF0 (b : Nat) (hx : ρ x = PT b) (w : World) : (execOp ρ { dst := d, op := .fieldAddr 57 x 0, type := t, pos := pos, after := af, guard := g }).run Tryz.prog w = .ok (.value (PT b)) w := by
  simp [go_sem, hx, PT]
theorem x_lxF1 (b : Nat) (hx : ρ x = PT b) (w : World) : (execOp ρ { dst := d, op := .fieldAddr 57 x 1, type := t, pos := pos, after := af, guard := g }).run Tryz.prog w = .ok (.value (.pointer (some ⟨b, 1, none⟩))) w := by
  simp [go_sem, hx, PT]
theorem x_ldS (b : Nat) (v : ByteArray) (hx : ρ x = PT b) (w : World) (hc : w.cell? ⟨b, 0, none⟩ = some (.string v)) : (execOp ρ { dst := d, op := .load 9 x, type := t, pos := pos, after := af, guard := g }).run Tryz.prog w = .ok (.value (.string v)) w := by
  unfold PT at hx
  simp [go_sem, hx, hc]
theorem x_ldN (b n : Nat) (v : Int) (hx : ρ x = .pointer (some ⟨b, n, none⟩)) (w : World) (hc : w.cell? ⟨b, n, none⟩ = some (.int .i64 v)) : (execOp ρ { dst := d, op := .load 3 x, type := t, pos := pos, after := af, guard := g }).run Tryz.prog w = .ok (.value (.int .i64 v)) w := by
  simp [go_sem, hx, hc]
theorem x_eqN (y : Operand) (u v : Int) (c : Bool) (h : (u == v) = c) (hx : ρ x = .int .i64 u) (hy : ρ y = .int .i64 v) (w : World) : (execOp ρ { dst := d, op := .binOp .eql 3 x y 3, type := t, pos := pos, after := af, guard := g }).run Tryz.prog w = .ok (.value (.bool c)) w := by
  rw [← h]; simp [go_sem, hx, hy]
end
set_option maxHeartbeats 1000000 in
theorem lxFail_any (p e x : Nat) (s : ByteArray) (a e0 x0 : Nat) (w : World) (h : LxAt w p s a e0 x0) :
    Calls Tryz.prog 42 #[PT p, .int .i64 e, .int .i64 x] w fun r w' => r = .returned (.tuple #[]) ∧ LxAt w' p s a e x ∧ Aside p w w' := by
  have HF := hide (h.err e x)
  have c2 := h.c2
  have c3 := h.c3
  have f2 := h.blk.frozen 2
  have f3 := h.blk.frozen 3
  have HA := hide ((Aside.put w p 2 (.int .i64 (e : Int))).trans (Aside.put _ p 3 (.int .i64 (x : Int))))
  clear h
  unfold PT
  go_enter Tryz.func42, Tryz.ntmps42
  go_wp2
  go_end0
  exact ⟨rfl, HF.out, HA.out⟩
set_option maxHeartbeats 2000000 in
theorem lxClosed_any (p : Nat) (s : ByteArray) (a e0 x0 : Nat) (w : World) (h : LxAt w p s a e0 x0) (ha : a ≤ s.size) :
    Calls Tryz.prog 64 #[PT p] w fun r w' => r = .returned (.tuple #[]) ∧ (if a = s.size then LxAt w' p s (a + 1) 2 a else LxAt w' p s (a + 1) e0 x0) ∧ Aside p w w' := by
  have HR := hide h
  clear h
  obtain ⟨Q, hQ⟩ : ∃ Q : World → Prop, Q = fun w' => if a = s.size then LxAt w' p s (a + 1) 2 a else LxAt w' p s (a + 1) e0 x0 := ⟨_, rfl⟩
  have HQ : Hid (∀ w', Q w' ↔ if a = s.size then LxAt w' p s (a + 1) 2 a else LxAt w' p s (a + 1) e0 x0) := fun w' => by rw [hQ]
  refine Calls.mono (R := fun r w' => r = .returned (.tuple #[]) ∧ Q w' ∧ Aside p w w') ?_ (fun r w' ⟨h1, h2, h3⟩ => ⟨h1, (HQ.out w').1 h2, h3⟩)
  clear hQ
  have e1 : ((a + 1 : Nat) : Int) = (a : Int) + 1 := by omega
  have HE1 := hide e1
  clear e1
  obtain ⟨C, hC⟩ : ∃ C : World → Prop, C = fun W => Below w.heap.size w W := ⟨_, rfl⟩
  have HG : Hid (Grows C) := by rw [hC]; exact fun W W' h1 h2 => h1.trans (h2.mono h1.size)
  have HCD : Hid (C { w with drawn := w.drawn + 1 }) := by rw [hC]; exact ⟨rfl, rfl, rfl, Nat.le_refl _, fun _ _ => rfl⟩
  have HCB : Hid (∀ W, C W → Below w.heap.size w W) := by rw [hC]; exact fun W h => h
  clear hC
  have y0 : ∀ W, C W → W.cell? ⟨p, 0, none⟩ = some (.string s) := fun W hW => (HR.out.keep (HCB.out W hW)).c0
  have y1 : ∀ W, C W → W.cell? ⟨p, 1, none⟩ = some (.int .i64 a) := fun W hW => (HR.out.keep (HCB.out W hW)).c1
  obtain ⟨E, hE⟩ : ∃ E, ((a : Int) == (s.size : Int)) = E := ⟨_, rfl⟩
  have HE := hide hE
  unfold PT
  go_enter Tryz.func64, Tryz.ntmps64
  go_wp2
  try rw [show Value.pointer (some ⟨p, 0, none⟩) = PT p from rfl]
  refine w_lit (C := C) (by kernel_rfl) (by kernel_rfl) HCD.out ?_
  refine w_value (PT p) (by kernel_rfl) (fun w hw => x_move _ _ _ _ _ _ _ _ rfl w) ?_
  simp only [Act.put, List.setIfInBounds_toArray, List.set_cons_succ, List.set_cons_zero]
  refine w_value (PT p) (by kernel_rfl) (fun w hw => x_nilCheck _ _ _ _ _ _ _ _ rfl w) ?_
  simp only [Act.put, List.setIfInBounds_toArray, List.set_cons_succ, List.set_cons_zero]
  refine w_value (.pointer (some ⟨p, 1, none⟩)) (by kernel_rfl) (fun w hw => x_lxF1 _ _ _ _ _ _ _ _ rfl w) ?_
  simp only [Act.put, List.setIfInBounds_toArray, List.set_cons_succ, List.set_cons_zero]
  refine w_value (.int .i64 a) (by kernel_rfl) (fun w hw => x_ldN _ _ _ _ _ _ _ p 1 _ rfl w (y1 w hw)) ?_
  simp only [Act.put, List.setIfInBounds_toArray, List.set_cons_succ, List.set_cons_zero]
  refine w_value (PT p) (by kernel_rfl) (fun w hw => x_move _ _ _ _ _ _ _ _ rfl w) ?_
  simp only [Act.put, List.setIfInBounds_toArray, List.set_cons_succ, List.set_cons_zero]
  refine w_value (PT p) (by kernel_rfl) (fun w hw => x_nilCheck _ _ _ _ _ _ _ _ rfl w) ?_
  simp only [Act.put, List.setIfInBounds_toArray, List.set_cons_succ, List.set_cons_zero]
  refine w_value (PT p) (by kernel_rfl) (fun w hw => x_lxF0 _ _ _ _ _ _ _ _ rfl w) ?_
  simp only [Act.put, List.setIfInBounds_toArray, List.set_cons_succ, List.set_cons_zero]
  refine w_value (.string s) (by kernel_rfl) (fun w hw => x_ldS _ _ _ _ _ _ _ p _ rfl w (y0 w hw)) ?_
  simp only [Act.put, List.setIfInBounds_toArray, List.set_cons_succ, List.set_cons_zero]
  refine w_value (.int .i64 s.size) (by kernel_rfl) (fun w hw => x_lenS _ _ _ _ _ _ _ s rfl w) ?_
  simp only [Act.put, List.setIfInBounds_toArray, List.set_cons_succ, List.set_cons_zero]
  refine w_value (.bool E) (by kernel_rfl) (fun w hw => x_eqN _ _ _ _ _ _ _ _ a s.size E hE rfl rfl w) ?_
  simp only [Act.put, List.setIfInBounds_toArray, List.set_cons_succ, List.set_cons_zero]
  refine w_nil ?_
  intro W hCW
  have HW := hide (HCB.out W hCW)
  have HR1 := hide (HR.out.keep HW.out)
  clear hCW y0 y1 hE
  unfold PT
  cases E with
  | false =>
    have hne : a ≠ s.size := fun e => by have := HE.out; rw [e] at this; simp at this
    have c1 := HR1.out.c1
    have f1 := HR1.out.blk.frozen 1
    have HM := hide (HR1.out.move (a + 1) (by omega))
    have HA := hide ((Aside.of_below (p := p) HW.out).trans (Aside.put W p 1 (.int .i64 ((a + 1 : Nat) : Int))))
    have hb := HR1.out.big
    go_wp2
    go_end0
    have hm := HM.out
    have ha2 := HA.out
    rw [HE1.out] at hm ha2
    exact ⟨rfl, (HQ.out _).2 (by rw [if_neg hne]; exact hm), ha2⟩
  | true =>
    have heq : a = s.size := by have := HE.out; simp at this; omega
    have HEQ := hide heq
    have c1 := HR1.out.c1
    have hb := HR1.out.big
    have HFL := hide (lxFail_any p 2 a s a e0 x0 W HR1.out)
    rw [show ((2 : Nat) : Int) = 2 from rfl] at HFL
    unfold PT at HFL
    clear heq
    go_wp2_with fail
    refine HFL.out.mono ?_
    rintro r w2 ⟨rfl, h2, hA2⟩
    have c1 := h2.c1
    have f1 := h2.blk.frozen 1
    have HM := hide (h2.move (a + 1) (by omega))
    have HA := hide (((Aside.of_below (p := p) HW.out).trans hA2).trans (Aside.put w2 p 1 (.int .i64 ((a + 1 : Nat) : Int))))
    clear h2 hA2
    go_wp2
    go_end0
    have hm := HM.out
    have ha2 := HA.out
    rw [HE1.out] at hm ha2
    exact ⟨rfl, (HQ.out _).2 (by rw [if_pos HEQ.out]; exact hm), ha2⟩
end Go.Proofs.YtjlgepahgmkamaaGreatDoor
/- The reader of programs: a word. -/
namespace Go.Proofs.YtjlgepahgmkamaaGreatDoor
set_option maxRecDepth 100000
set_option linter.unusedSimpArgs false
set_option linter.unusedVariables false
open Go.RowKit Go.Shelf

/-- How many letters stand at a text's beginning. -/
def lettN : List Nat → Nat
  | [] => 0
  | c :: r => if letB c false = true then lettN r + 1 else 0
theorem lettN_le (l : List Nat) : lettN l ≤ l.length := by
  induction l with
  | nil => exact Nat.le_refl _
  | cons c r ih => rw [lettN]; split <;> simp <;> omega
section
variable (ρ : Operand → Value) (d : Option Tmp) (x y z : Operand) (ty : TypeId) (pos : String) (af : Array Edge) (g : Option (Nat × Bool))
theorem x_sIdx (t : ByteArray) (i c : Nat) (hc : (bytesN t)[i]? = some c) (hx : ρ x = .string t) (hy : ρ y = .int .i64 i) (w : World) :
    (execOp ρ { dst := d, op := .index 9 x y, type := ty, pos := pos, after := af, guard := g }).run Tryz.prog w = .ok (.value (.int .u8 c)) w := by
  obtain ⟨h, e⟩ := bN_at t i c hc
  simp [go_sem, hx, hy, h, ← e]
theorem x_sSub (t : ByteArray) (i j : Nat) (hx : ρ x = .string t) (hy : ρ y = .int .i64 i) (hz : ρ z = .int .i64 j) (h1 : i ≤ j) (h2 : j ≤ t.size) (w : World) :
    (execOp ρ { dst := d, op := .slice 9 x (some y) (some z) none, type := ty, pos := pos, after := af, guard := g }).run Tryz.prog w = .ok (.value (.string (t.extract i j))) w := by
  simp [go_sem, hx, hy, hz, h1, h2]
end
theorem LxAt.atOf {w : World} {p : Nat} {s : ByteArray} {a e x : Nat} (h : LxAt w p s a e x) : atOf w p = a := by
  unfold Go.Proofs.YtjlgepahgmkamaaGreatDoor.atOf
  rw [h.c1]
  simp [intOf]
set_option maxHeartbeats 8000000 in
theorem lxWord_any (p : Nat) (s : ByteArray) (a e0 x0 k : Nat) (w : World) (h : LxAt w p s a e0 x0) (ha : a ≤ s.size) (hk : k = lettN ((bytesN s).drop a)) :
    Calls Tryz.prog 37 #[PT p] w fun r w' => r = .returned (.string (s.extract a (a + k))) ∧ LxAt w' p s (a + k) (if 30 < k then 3 else e0) (if 30 < k then a else x0) ∧ Aside p w w' := by
  have HL := hide h
  have hks : a + k ≤ s.size := by
    have := lettN_le ((bytesN s).drop a)
    rw [List.length_drop, bN_len] at this
    omega
  have hbig := h.big
  have c1 := h.c1
  have HK := hide hk
  obtain ⟨E, hE⟩ : ∃ E, E = if 30 < k then 3 else e0 := ⟨_, rfl⟩
  obtain ⟨X, hX⟩ : ∃ X, X = if 30 < k then a else x0 := ⟨_, rfl⟩
  rw [← hE, ← hX]
  have HE := hide hE
  have HX := hide hX
  clear h hk hE hX
  unfold PT
  go_enter Tryz.func37, Tryz.ntmps37
  go_wp2
  clear c1
  go_loopw [29] (fun _ wr => Hid (∃ j, LxAt wr p s (a + j) e0 x0 ∧ j + lettN ((bytesN s).drop (a + j)) = k ∧ Aside p w wr)) (fun _ wr => s.size - atOf wr p)
  case atStart => exact ⟨0, HL.out, by rw [Nat.zero_add, Nat.add_zero]; exact HK.out.symm, Aside.refl _ _⟩
  case round =>
    obtain ⟨j, hL, hj, hA⟩ := hrel
    have HLJ := hide hL
    have HJ := hide hj
    have HA := hide hA
    have hjk : j ≤ k := by omega
    have hat := hL.atOf
    have HAT := hide hat
    clear hL hj hA hat
    obtain ⟨C, hC⟩ : ∃ C : World → Prop, C = fun W => Below wr.heap.size wr W := ⟨_, rfl⟩
    have HG : Hid (Grows C) := by rw [hC]; exact fun W W' h1 h2 => h1.trans (h2.mono h1.size)
    have HCD : Hid (C { wr with drawn := wr.drawn + 1 }) := by rw [hC]; exact ⟨rfl, rfl, rfl, Nat.le_refl _, fun _ _ => rfl⟩
    have HCB : Hid (∀ W, C W → Below wr.heap.size wr W) := by rw [hC]; exact fun W h => h
    clear hC
    have y0 : ∀ W, C W → W.cell? ⟨p, 0, none⟩ = some (.string s) := fun W hW => (HLJ.out.keep (HCB.out W hW)).c0
    have y1 : ∀ W, C W → W.cell? ⟨p, 1, none⟩ = some (.int .i64 ((a + j : Nat) : Int)) := fun W hW => (HLJ.out.keep (HCB.out W hW)).c1
    have hG := HG.out
    obtain ⟨b, hb⟩ : ∃ b, b = a + j := ⟨_, rfl⟩
    rw [← hb] at HLJ HJ y1 HAT
    have HBB := hide hb
    clear hb
    by_cases hin : b < s.size
    · have hlt : decide ((b : Int) < (s.size : Int)) = true := by simp; omega
      obtain ⟨c, hcb⟩ : ∃ c, (bytesN s)[b]? = some c := ⟨_, List.getElem?_eq_getElem (by rw [bN_len]; exact hin)⟩
      have hc256 : c < 256 := bN_lt s c (List.mem_of_getElem? hcb)
      have HDR : Hid ((bytesN s).drop b = c :: (bytesN s).drop (b + 1)) := by
        obtain ⟨hl, rfl⟩ := List.getElem?_eq_some_iff.1 hcb
        exact List.drop_eq_getElem_cons hl
      cases hlc : letB c false with
      | true =>
        have HLT : Hid (∀ W, Calls Tryz.prog 13 #[.int .u8 c, .bool false] W fun e w' => e = .returned (.bool true) ∧ Below W.heap.size W w') := fun W => (lexLetter_any c hc256 false W).mono fun e w' ⟨h1, h2⟩ => ⟨by rw [h1, hlc], by rw [h2]; exact Below.refl _ _⟩
        have HJ2 : Hid (j + 1 + lettN ((bytesN s).drop (b + 1)) = k) := by
          show _ = _
          have h := HJ.out
          rw [HDR.out, lettN, if_pos hlc] at h
          omega
        clear hlc
        go_wp2
        try rw [show Value.pointer (some ⟨p, 0, none⟩) = PT p from rfl]
        refine w_lit (C := C) (by kernel_rfl) (by kernel_rfl) HCD.out ?_
        refine w_value (PT p) (by kernel_rfl) (fun w hw => x_move _ _ _ _ _ _ _ _ rfl w) ?_
        simp only [Act.put, List.setIfInBounds_toArray, List.set_cons_succ, List.set_cons_zero]
        refine w_value (PT p) (by kernel_rfl) (fun w hw => x_nilCheck _ _ _ _ _ _ _ _ rfl w) ?_
        simp only [Act.put, List.setIfInBounds_toArray, List.set_cons_succ, List.set_cons_zero]
        refine w_value (.pointer (some ⟨p, 1, none⟩)) (by kernel_rfl) (fun w hw => x_lxF1 _ _ _ _ _ _ _ _ rfl w) ?_
        simp only [Act.put, List.setIfInBounds_toArray, List.set_cons_succ, List.set_cons_zero]
        refine w_value (.int .i64 b) (by kernel_rfl) (fun w hw => x_ldN _ _ _ _ _ _ _ p 1 _ rfl w (y1 w hw)) ?_
        simp only [Act.put, List.setIfInBounds_toArray, List.set_cons_succ, List.set_cons_zero]
        refine w_value (PT p) (by kernel_rfl) (fun w hw => x_move _ _ _ _ _ _ _ _ rfl w) ?_
        simp only [Act.put, List.setIfInBounds_toArray, List.set_cons_succ, List.set_cons_zero]
        refine w_value (PT p) (by kernel_rfl) (fun w hw => x_nilCheck _ _ _ _ _ _ _ _ rfl w) ?_
        simp only [Act.put, List.setIfInBounds_toArray, List.set_cons_succ, List.set_cons_zero]
        refine w_value (PT p) (by kernel_rfl) (fun w hw => x_lxF0 _ _ _ _ _ _ _ _ rfl w) ?_
        simp only [Act.put, List.setIfInBounds_toArray, List.set_cons_succ, List.set_cons_zero]
        refine w_value (.string s) (by kernel_rfl) (fun w hw => x_ldS _ _ _ _ _ _ _ p _ rfl w (y0 w hw)) ?_
        simp only [Act.put, List.setIfInBounds_toArray, List.set_cons_succ, List.set_cons_zero]
        refine w_value (.int .i64 s.size) (by kernel_rfl) (fun w hw => x_lenS _ _ _ _ _ _ _ s rfl w) ?_
        simp only [Act.put, List.setIfInBounds_toArray, List.set_cons_succ, List.set_cons_zero]
        refine w_value (.bool true) (by kernel_rfl) (fun w hw => x_lssZ _ _ _ _ _ _ _ _ b s.size true hlt rfl rfl w) ?_
        simp only [Act.put, List.setIfInBounds_toArray, List.set_cons_succ, List.set_cons_zero]
        refine w_value (.bool true) (by kernel_rfl) (fun w hw => x_move _ _ _ _ _ _ _ _ rfl w) ?_
        simp only [Act.put, List.setIfInBounds_toArray, List.set_cons_succ, List.set_cons_zero]
        refine w_value (PT p) (by kernel_rfl) (fun w hw => x_move _ _ _ _ _ _ _ _ rfl w) ?_
        simp only [Act.put, List.setIfInBounds_toArray, List.set_cons_succ, List.set_cons_zero]
        refine w_value (PT p) (by kernel_rfl) (fun w hw => x_nilCheck _ _ _ _ _ _ _ _ rfl w) ?_
        simp only [Act.put, List.setIfInBounds_toArray, List.set_cons_succ, List.set_cons_zero]
        refine w_value (PT p) (by kernel_rfl) (fun w hw => x_lxF0 _ _ _ _ _ _ _ _ rfl w) ?_
        simp only [Act.put, List.setIfInBounds_toArray, List.set_cons_succ, List.set_cons_zero]
        refine w_value (.string s) (by kernel_rfl) (fun w hw => x_ldS _ _ _ _ _ _ _ p _ rfl w (y0 w hw)) ?_
        simp only [Act.put, List.setIfInBounds_toArray, List.set_cons_succ, List.set_cons_zero]
        refine w_value (PT p) (by kernel_rfl) (fun w hw => x_move _ _ _ _ _ _ _ _ rfl w) ?_
        simp only [Act.put, List.setIfInBounds_toArray, List.set_cons_succ, List.set_cons_zero]
        refine w_value (PT p) (by kernel_rfl) (fun w hw => x_nilCheck _ _ _ _ _ _ _ _ rfl w) ?_
        simp only [Act.put, List.setIfInBounds_toArray, List.set_cons_succ, List.set_cons_zero]
        refine w_value (.pointer (some ⟨p, 1, none⟩)) (by kernel_rfl) (fun w hw => x_lxF1 _ _ _ _ _ _ _ _ rfl w) ?_
        simp only [Act.put, List.setIfInBounds_toArray, List.set_cons_succ, List.set_cons_zero]
        refine w_value (.int .i64 b) (by kernel_rfl) (fun w hw => x_ldN _ _ _ _ _ _ _ p 1 _ rfl w (y1 w hw)) ?_
        simp only [Act.put, List.setIfInBounds_toArray, List.set_cons_succ, List.set_cons_zero]
        refine w_value (.int .u8 c) (by kernel_rfl) (fun w hw => x_sIdx _ _ _ _ _ _ _ _ s b c hcb rfl rfl w) ?_
        simp only [Act.put, List.setIfInBounds_toArray, List.set_cons_succ, List.set_cons_zero]
        refine w_call hG 13 #[.int .u8 c, .bool false] (.bool true) (by kernel_rfl) (fun w => x_call2 _ _ _ _ _ _ _ _ _ _ _ _ _ rfl rfl rfl (enters_of Tryz.func13 (by kernel_rfl) rfl) w) (fun w hw => HLT.out w) ?_
        simp only [Act.put, List.setIfInBounds_toArray, List.set_cons_succ, List.set_cons_zero]
        refine w_value (.bool true) (by kernel_rfl) (fun w hw => x_pick _ _ _ _ _ _ _ _ _ true (.bool true) (.bool false) rfl rfl rfl w) ?_
        simp only [Act.put, List.setIfInBounds_toArray, List.set_cons_succ, List.set_cons_zero]
        refine w_nil ?_
        intro W hCW
        have HLW := hide (HLJ.out.keep (HCB.out W hCW))
        have HAW := hide (HA.out.trans (Aside.of_below (HCB.out W hCW)))
        clear hCW y0 y1 hG
        have c1 := HLW.out.c1
        have f1 := HLW.out.blk.frozen 1
        have HM := hide (HLW.out.move (b + 1) (by omega))
        have HA2 := hide (HAW.out.trans (Aside.put W p 1 (.int .i64 ((b + 1 : Nat) : Int))))
        have HE1 : Hid (((b + 1 : Nat) : Int) = (b : Int) + 1) := by show _ = _; omega
        unfold PT
        go_wp2
        have hm := HM.out
        have ha2 := HA2.out
        have hb2 := HBB.out
        have hj2 := HJ2.out
        rw [HE1.out] at hm ha2
        refine ⟨⟨j + 1, by rw [← Nat.add_assoc, ← hb2]; exact hm, by rw [← Nat.add_assoc, ← hb2]; exact hj2, ha2⟩, ?_⟩
        rw [hm.atOf, HAT.out]
        omega
      | false =>
        have HLT : Hid (∀ W, Calls Tryz.prog 13 #[.int .u8 c, .bool false] W fun e w' => e = .returned (.bool false) ∧ Below W.heap.size W w') := fun W => (lexLetter_any c hc256 false W).mono fun e w' ⟨h1, h2⟩ => ⟨by rw [h1, hlc], by rw [h2]; exact Below.refl _ _⟩
        have HBK : Hid (b = a + k) := by
          show _ = _
          have h := HJ.out
          rw [HDR.out, lettN, if_neg (by rw [hlc]; decide)] at h
          have := HBB.out
          omega
        clear hlc
        go_wp2
        try rw [show Value.pointer (some ⟨p, 0, none⟩) = PT p from rfl]
        refine w_lit (C := C) (by kernel_rfl) (by kernel_rfl) HCD.out ?_
        refine w_value (PT p) (by kernel_rfl) (fun w hw => x_move _ _ _ _ _ _ _ _ rfl w) ?_
        simp only [Act.put, List.setIfInBounds_toArray, List.set_cons_succ, List.set_cons_zero]
        refine w_value (PT p) (by kernel_rfl) (fun w hw => x_nilCheck _ _ _ _ _ _ _ _ rfl w) ?_
        simp only [Act.put, List.setIfInBounds_toArray, List.set_cons_succ, List.set_cons_zero]
        refine w_value (.pointer (some ⟨p, 1, none⟩)) (by kernel_rfl) (fun w hw => x_lxF1 _ _ _ _ _ _ _ _ rfl w) ?_
        simp only [Act.put, List.setIfInBounds_toArray, List.set_cons_succ, List.set_cons_zero]
        refine w_value (.int .i64 b) (by kernel_rfl) (fun w hw => x_ldN _ _ _ _ _ _ _ p 1 _ rfl w (y1 w hw)) ?_
        simp only [Act.put, List.setIfInBounds_toArray, List.set_cons_succ, List.set_cons_zero]
        refine w_value (PT p) (by kernel_rfl) (fun w hw => x_move _ _ _ _ _ _ _ _ rfl w) ?_
        simp only [Act.put, List.setIfInBounds_toArray, List.set_cons_succ, List.set_cons_zero]
        refine w_value (PT p) (by kernel_rfl) (fun w hw => x_nilCheck _ _ _ _ _ _ _ _ rfl w) ?_
        simp only [Act.put, List.setIfInBounds_toArray, List.set_cons_succ, List.set_cons_zero]
        refine w_value (PT p) (by kernel_rfl) (fun w hw => x_lxF0 _ _ _ _ _ _ _ _ rfl w) ?_
        simp only [Act.put, List.setIfInBounds_toArray, List.set_cons_succ, List.set_cons_zero]
        refine w_value (.string s) (by kernel_rfl) (fun w hw => x_ldS _ _ _ _ _ _ _ p _ rfl w (y0 w hw)) ?_
        simp only [Act.put, List.setIfInBounds_toArray, List.set_cons_succ, List.set_cons_zero]
        refine w_value (.int .i64 s.size) (by kernel_rfl) (fun w hw => x_lenS _ _ _ _ _ _ _ s rfl w) ?_
        simp only [Act.put, List.setIfInBounds_toArray, List.set_cons_succ, List.set_cons_zero]
        refine w_value (.bool true) (by kernel_rfl) (fun w hw => x_lssZ _ _ _ _ _ _ _ _ b s.size true hlt rfl rfl w) ?_
        simp only [Act.put, List.setIfInBounds_toArray, List.set_cons_succ, List.set_cons_zero]
        refine w_value (.bool true) (by kernel_rfl) (fun w hw => x_move _ _ _ _ _ _ _ _ rfl w) ?_
        simp only [Act.put, List.setIfInBounds_toArray, List.set_cons_succ, List.set_cons_zero]
        refine w_value (PT p) (by kernel_rfl) (fun w hw => x_move _ _ _ _ _ _ _ _ rfl w) ?_
        simp only [Act.put, List.setIfInBounds_toArray, List.set_cons_succ, List.set_cons_zero]
        refine w_value (PT p) (by kernel_rfl) (fun w hw => x_nilCheck _ _ _ _ _ _ _ _ rfl w) ?_
        simp only [Act.put, List.setIfInBounds_toArray, List.set_cons_succ, List.set_cons_zero]
        refine w_value (PT p) (by kernel_rfl) (fun w hw => x_lxF0 _ _ _ _ _ _ _ _ rfl w) ?_
        simp only [Act.put, List.setIfInBounds_toArray, List.set_cons_succ, List.set_cons_zero]
        refine w_value (.string s) (by kernel_rfl) (fun w hw => x_ldS _ _ _ _ _ _ _ p _ rfl w (y0 w hw)) ?_
        simp only [Act.put, List.setIfInBounds_toArray, List.set_cons_succ, List.set_cons_zero]
        refine w_value (PT p) (by kernel_rfl) (fun w hw => x_move _ _ _ _ _ _ _ _ rfl w) ?_
        simp only [Act.put, List.setIfInBounds_toArray, List.set_cons_succ, List.set_cons_zero]
        refine w_value (PT p) (by kernel_rfl) (fun w hw => x_nilCheck _ _ _ _ _ _ _ _ rfl w) ?_
        simp only [Act.put, List.setIfInBounds_toArray, List.set_cons_succ, List.set_cons_zero]
        refine w_value (.pointer (some ⟨p, 1, none⟩)) (by kernel_rfl) (fun w hw => x_lxF1 _ _ _ _ _ _ _ _ rfl w) ?_
        simp only [Act.put, List.setIfInBounds_toArray, List.set_cons_succ, List.set_cons_zero]
        refine w_value (.int .i64 b) (by kernel_rfl) (fun w hw => x_ldN _ _ _ _ _ _ _ p 1 _ rfl w (y1 w hw)) ?_
        simp only [Act.put, List.setIfInBounds_toArray, List.set_cons_succ, List.set_cons_zero]
        refine w_value (.int .u8 c) (by kernel_rfl) (fun w hw => x_sIdx _ _ _ _ _ _ _ _ s b c hcb rfl rfl w) ?_
        simp only [Act.put, List.setIfInBounds_toArray, List.set_cons_succ, List.set_cons_zero]
        refine w_call hG 13 #[.int .u8 c, .bool false] (.bool false) (by kernel_rfl) (fun w => x_call2 _ _ _ _ _ _ _ _ _ _ _ _ _ rfl rfl rfl (enters_of Tryz.func13 (by kernel_rfl) rfl) w) (fun w hw => HLT.out w) ?_
        simp only [Act.put, List.setIfInBounds_toArray, List.set_cons_succ, List.set_cons_zero]
        refine w_value (.bool false) (by kernel_rfl) (fun w hw => x_pick _ _ _ _ _ _ _ _ _ true (.bool false) (.bool false) rfl rfl rfl w) ?_
        simp only [Act.put, List.setIfInBounds_toArray, List.set_cons_succ, List.set_cons_zero]
        refine w_nil ?_
        intro W hCW
        have HLW := hide (HLJ.out.keep (HCB.out W hCW))
        have HAW := hide (HA.out.trans (Aside.of_below (HCB.out W hCW)))
        clear hCW y0 y1 hG
        have c1 := HLW.out.c1
        have hsub : ((b : Int) - (a : Int)) = (k : Int) := by have := HBK.out; omega
        unfold PT
        by_cases h30 : 30 < k
        · have hd : decide ((30 : Int) < k) = true := by simp; omega
          have hd2 : decide ((30 : Int) < (b : Int) - a) = true := by rw [hsub]; exact hd
          have HFL := hide (lxFail_any p 3 a s b e0 x0 W HLW.out)
          rw [show ((3 : Nat) : Int) = 3 from rfl] at HFL
          have he : E = 3 := by rw [HE.out, if_pos h30]
          have hx : a = X := by rw [HX.out, if_pos h30]
          subst he
          subst hx
          unfold PT at HFL
          clear h30
          go_wp2_with fail
          refine HFL.out.mono ?_
          rintro r w5 ⟨rfl, h5, hA5⟩
          have HL5 := hide h5
          have HA5 := hide (HAW.out.trans hA5)
          clear h5 hA5
          go_wp2
          try rw [show Value.pointer (some ⟨p, 0, none⟩) = PT p from rfl]
          obtain ⟨C2, hC2⟩ : ∃ C2 : World → Prop, C2 = fun W => Below w5.heap.size w5 W := ⟨_, rfl⟩
          have HCD2 : Hid (C2 { w5 with drawn := w5.drawn + 1 }) := by rw [hC2]; exact ⟨rfl, rfl, rfl, Nat.le_refl _, fun _ _ => rfl⟩
          have HCB2 : Hid (∀ W, C2 W → Below w5.heap.size w5 W) := by rw [hC2]; exact fun W h => h
          clear hC2
          have z0 : ∀ W, C2 W → W.cell? ⟨p, 0, none⟩ = some (.string s) := fun W hW => (HL5.out.keep (HCB2.out W hW)).c0
          have z1 : ∀ W, C2 W → W.cell? ⟨p, 1, none⟩ = some (.int .i64 b) := fun W hW => (HL5.out.keep (HCB2.out W hW)).c1
          refine w_lit (C := C2) (by kernel_rfl) (by kernel_rfl) HCD2.out ?_
          refine w_value (PT p) (by kernel_rfl) (fun w hw => x_move _ _ _ _ _ _ _ _ rfl w) ?_
          simp only [Act.put, List.setIfInBounds_toArray, List.set_cons_succ, List.set_cons_zero]
          refine w_value (PT p) (by kernel_rfl) (fun w hw => x_nilCheck _ _ _ _ _ _ _ _ rfl w) ?_
          simp only [Act.put, List.setIfInBounds_toArray, List.set_cons_succ, List.set_cons_zero]
          refine w_value (PT p) (by kernel_rfl) (fun w hw => x_lxF0 _ _ _ _ _ _ _ _ rfl w) ?_
          simp only [Act.put, List.setIfInBounds_toArray, List.set_cons_succ, List.set_cons_zero]
          refine w_value (.string s) (by kernel_rfl) (fun w hw => x_ldS _ _ _ _ _ _ _ p _ rfl w (z0 w hw)) ?_
          simp only [Act.put, List.setIfInBounds_toArray, List.set_cons_succ, List.set_cons_zero]
          refine w_value (.int .i64 a) (by kernel_rfl) (fun w hw => x_move _ _ _ _ _ _ _ _ rfl w) ?_
          simp only [Act.put, List.setIfInBounds_toArray, List.set_cons_succ, List.set_cons_zero]
          refine w_value (PT p) (by kernel_rfl) (fun w hw => x_move _ _ _ _ _ _ _ _ rfl w) ?_
          simp only [Act.put, List.setIfInBounds_toArray, List.set_cons_succ, List.set_cons_zero]
          refine w_value (PT p) (by kernel_rfl) (fun w hw => x_nilCheck _ _ _ _ _ _ _ _ rfl w) ?_
          simp only [Act.put, List.setIfInBounds_toArray, List.set_cons_succ, List.set_cons_zero]
          refine w_value (.pointer (some ⟨p, 1, none⟩)) (by kernel_rfl) (fun w hw => x_lxF1 _ _ _ _ _ _ _ _ rfl w) ?_
          simp only [Act.put, List.setIfInBounds_toArray, List.set_cons_succ, List.set_cons_zero]
          refine w_value (.int .i64 b) (by kernel_rfl) (fun w hw => x_ldN _ _ _ _ _ _ _ p 1 _ rfl w (z1 w hw)) ?_
          simp only [Act.put, List.setIfInBounds_toArray, List.set_cons_succ, List.set_cons_zero]
          refine w_value (.string (s.extract a b)) (by kernel_rfl) (fun w hw => x_sSub _ _ _ _ _ _ _ _ _ s a b rfl rfl rfl (by have := HBK.out; omega) (by have := HBK.out; omega) w) ?_
          simp only [Act.put, List.setIfInBounds_toArray, List.set_cons_succ, List.set_cons_zero]
          refine w_value (.string (s.extract a b)) (by kernel_rfl) (fun w hw => x_assign _ _ _ _ _ _ _ _ rfl w) ?_
          simp only [Act.put, List.setIfInBounds_toArray, List.set_cons_succ, List.set_cons_zero]
          refine w_nil ?_
          intro W6 hCW6
          have HF1 := hide (HL5.out.keep (HCB2.out W6 hCW6))
          have HF2 := hide (HA5.out.trans (Aside.of_below (HCB2.out W6 hCW6)))
          clear hCW6 z0 z1
          go_wp2
          go_ret
          have hbk := HBK.out
          exact ⟨by rw [← hbk]; rfl, by rw [← hbk]; exact HF1.out, HF2.out⟩
        · have hd : decide ((30 : Int) < k) = false := by simp; omega
          have hd2 : decide ((30 : Int) < (b : Int) - a) = false := by rw [hsub]; exact hd
          have he : E = e0 := by rw [HE.out, if_neg h30]
          have hx : X = x0 := by rw [HX.out, if_neg h30]
          subst he
          subst hx
          have HL5 := HLW
          have HA5 := HAW
          generalize W = w5 at *
          clear h30
          go_wp2
          try rw [show Value.pointer (some ⟨p, 0, none⟩) = PT p from rfl]
          obtain ⟨C2, hC2⟩ : ∃ C2 : World → Prop, C2 = fun W => Below w5.heap.size w5 W := ⟨_, rfl⟩
          have HCD2 : Hid (C2 { w5 with drawn := w5.drawn + 1 }) := by rw [hC2]; exact ⟨rfl, rfl, rfl, Nat.le_refl _, fun _ _ => rfl⟩
          have HCB2 : Hid (∀ W, C2 W → Below w5.heap.size w5 W) := by rw [hC2]; exact fun W h => h
          clear hC2
          have z0 : ∀ W, C2 W → W.cell? ⟨p, 0, none⟩ = some (.string s) := fun W hW => (HL5.out.keep (HCB2.out W hW)).c0
          have z1 : ∀ W, C2 W → W.cell? ⟨p, 1, none⟩ = some (.int .i64 b) := fun W hW => (HL5.out.keep (HCB2.out W hW)).c1
          refine w_lit (C := C2) (by kernel_rfl) (by kernel_rfl) HCD2.out ?_
          refine w_value (PT p) (by kernel_rfl) (fun w hw => x_move _ _ _ _ _ _ _ _ rfl w) ?_
          simp only [Act.put, List.setIfInBounds_toArray, List.set_cons_succ, List.set_cons_zero]
          refine w_value (PT p) (by kernel_rfl) (fun w hw => x_nilCheck _ _ _ _ _ _ _ _ rfl w) ?_
          simp only [Act.put, List.setIfInBounds_toArray, List.set_cons_succ, List.set_cons_zero]
          refine w_value (PT p) (by kernel_rfl) (fun w hw => x_lxF0 _ _ _ _ _ _ _ _ rfl w) ?_
          simp only [Act.put, List.setIfInBounds_toArray, List.set_cons_succ, List.set_cons_zero]
          refine w_value (.string s) (by kernel_rfl) (fun w hw => x_ldS _ _ _ _ _ _ _ p _ rfl w (z0 w hw)) ?_
          simp only [Act.put, List.setIfInBounds_toArray, List.set_cons_succ, List.set_cons_zero]
          refine w_value (.int .i64 a) (by kernel_rfl) (fun w hw => x_move _ _ _ _ _ _ _ _ rfl w) ?_
          simp only [Act.put, List.setIfInBounds_toArray, List.set_cons_succ, List.set_cons_zero]
          refine w_value (PT p) (by kernel_rfl) (fun w hw => x_move _ _ _ _ _ _ _ _ rfl w) ?_
          simp only [Act.put, List.setIfInBounds_toArray, List.set_cons_succ, List.set_cons_zero]
          refine w_value (PT p) (by kernel_rfl) (fun w hw => x_nilCheck _ _ _ _ _ _ _ _ rfl w) ?_
          simp only [Act.put, List.setIfInBounds_toArray, List.set_cons_succ, List.set_cons_zero]
          refine w_value (.pointer (some ⟨p, 1, none⟩)) (by kernel_rfl) (fun w hw => x_lxF1 _ _ _ _ _ _ _ _ rfl w) ?_
          simp only [Act.put, List.setIfInBounds_toArray, List.set_cons_succ, List.set_cons_zero]
          refine w_value (.int .i64 b) (by kernel_rfl) (fun w hw => x_ldN _ _ _ _ _ _ _ p 1 _ rfl w (z1 w hw)) ?_
          simp only [Act.put, List.setIfInBounds_toArray, List.set_cons_succ, List.set_cons_zero]
          refine w_value (.string (s.extract a b)) (by kernel_rfl) (fun w hw => x_sSub _ _ _ _ _ _ _ _ _ s a b rfl rfl rfl (by have := HBK.out; omega) (by have := HBK.out; omega) w) ?_
          simp only [Act.put, List.setIfInBounds_toArray, List.set_cons_succ, List.set_cons_zero]
          refine w_value (.string (s.extract a b)) (by kernel_rfl) (fun w hw => x_assign _ _ _ _ _ _ _ _ rfl w) ?_
          simp only [Act.put, List.setIfInBounds_toArray, List.set_cons_succ, List.set_cons_zero]
          refine w_nil ?_
          intro W6 hCW6
          have HF1 := hide (HL5.out.keep (HCB2.out W6 hCW6))
          have HF2 := hide (HA5.out.trans (Aside.of_below (HCB2.out W6 hCW6)))
          clear hCW6 z0 z1
          go_wp2
          go_ret
          have hbk := HBK.out
          exact ⟨by rw [← hbk]; rfl, by rw [← hbk]; exact HF1.out, HF2.out⟩
    · have hlt : decide ((b : Int) < (s.size : Int)) = false := by simp; omega
      have HBK : Hid (b = a + k) := by
        show _ = _
        have h := HJ.out
        rw [List.drop_eq_nil_of_le (by rw [bN_len]; omega), lettN] at h
        have := HBB.out
        omega
      go_wp2
      try rw [show Value.pointer (some ⟨p, 0, none⟩) = PT p from rfl]
      refine w_lit (C := C) (by kernel_rfl) (by kernel_rfl) HCD.out ?_
      refine w_value (PT p) (by kernel_rfl) (fun w hw => x_move _ _ _ _ _ _ _ _ rfl w) ?_
      simp only [Act.put, List.setIfInBounds_toArray, List.set_cons_succ, List.set_cons_zero]
      refine w_value (PT p) (by kernel_rfl) (fun w hw => x_nilCheck _ _ _ _ _ _ _ _ rfl w) ?_
      simp only [Act.put, List.setIfInBounds_toArray, List.set_cons_succ, List.set_cons_zero]
      refine w_value (.pointer (some ⟨p, 1, none⟩)) (by kernel_rfl) (fun w hw => x_lxF1 _ _ _ _ _ _ _ _ rfl w) ?_
      simp only [Act.put, List.setIfInBounds_toArray, List.set_cons_succ, List.set_cons_zero]
      refine w_value (.int .i64 b) (by kernel_rfl) (fun w hw => x_ldN _ _ _ _ _ _ _ p 1 _ rfl w (y1 w hw)) ?_
      simp only [Act.put, List.setIfInBounds_toArray, List.set_cons_succ, List.set_cons_zero]
      refine w_value (PT p) (by kernel_rfl) (fun w hw => x_move _ _ _ _ _ _ _ _ rfl w) ?_
      simp only [Act.put, List.setIfInBounds_toArray, List.set_cons_succ, List.set_cons_zero]
      refine w_value (PT p) (by kernel_rfl) (fun w hw => x_nilCheck _ _ _ _ _ _ _ _ rfl w) ?_
      simp only [Act.put, List.setIfInBounds_toArray, List.set_cons_succ, List.set_cons_zero]
      refine w_value (PT p) (by kernel_rfl) (fun w hw => x_lxF0 _ _ _ _ _ _ _ _ rfl w) ?_
      simp only [Act.put, List.setIfInBounds_toArray, List.set_cons_succ, List.set_cons_zero]
      refine w_value (.string s) (by kernel_rfl) (fun w hw => x_ldS _ _ _ _ _ _ _ p _ rfl w (y0 w hw)) ?_
      simp only [Act.put, List.setIfInBounds_toArray, List.set_cons_succ, List.set_cons_zero]
      refine w_value (.int .i64 s.size) (by kernel_rfl) (fun w hw => x_lenS _ _ _ _ _ _ _ s rfl w) ?_
      simp only [Act.put, List.setIfInBounds_toArray, List.set_cons_succ, List.set_cons_zero]
      refine w_value (.bool false) (by kernel_rfl) (fun w hw => x_lssZ _ _ _ _ _ _ _ _ b s.size false hlt rfl rfl w) ?_
      simp only [Act.put, List.setIfInBounds_toArray, List.set_cons_succ, List.set_cons_zero]
      refine w_value (.bool false) (by kernel_rfl) (fun w hw => x_move _ _ _ _ _ _ _ _ rfl w) ?_
      simp only [Act.put, List.setIfInBounds_toArray, List.set_cons_succ, List.set_cons_zero]
      refine w_skip (by kernel_rfl) ?_
      simp only [Act.put, List.setIfInBounds_toArray, List.set_cons_succ, List.set_cons_zero]
      refine w_skip (by kernel_rfl) ?_
      simp only [Act.put, List.setIfInBounds_toArray, List.set_cons_succ, List.set_cons_zero]
      refine w_skip (by kernel_rfl) ?_
      simp only [Act.put, List.setIfInBounds_toArray, List.set_cons_succ, List.set_cons_zero]
      refine w_skip (by kernel_rfl) ?_
      simp only [Act.put, List.setIfInBounds_toArray, List.set_cons_succ, List.set_cons_zero]
      refine w_skip (by kernel_rfl) ?_
      simp only [Act.put, List.setIfInBounds_toArray, List.set_cons_succ, List.set_cons_zero]
      refine w_skip (by kernel_rfl) ?_
      simp only [Act.put, List.setIfInBounds_toArray, List.set_cons_succ, List.set_cons_zero]
      refine w_skip (by kernel_rfl) ?_
      simp only [Act.put, List.setIfInBounds_toArray, List.set_cons_succ, List.set_cons_zero]
      refine w_skip (by kernel_rfl) ?_
      simp only [Act.put, List.setIfInBounds_toArray, List.set_cons_succ, List.set_cons_zero]
      refine w_skip (by kernel_rfl) ?_
      simp only [Act.put, List.setIfInBounds_toArray, List.set_cons_succ, List.set_cons_zero]
      refine w_skip (by kernel_rfl) ?_
      simp only [Act.put, List.setIfInBounds_toArray, List.set_cons_succ, List.set_cons_zero]
      refine w_value (.bool false) (by kernel_rfl) (fun w hw => x_pick _ _ _ _ _ _ _ _ _ false undef (.bool false) rfl rfl rfl w) ?_
      simp only [Act.put, List.setIfInBounds_toArray, List.set_cons_succ, List.set_cons_zero]
      refine w_nil ?_
      intro W hCW
      have HLW := hide (HLJ.out.keep (HCB.out W hCW))
      have HAW := hide (HA.out.trans (Aside.of_below (HCB.out W hCW)))
      clear hCW y0 y1 hG
      have c1 := HLW.out.c1
      have hsub : ((b : Int) - (a : Int)) = (k : Int) := by have := HBK.out; omega
      unfold PT
      by_cases h30 : 30 < k
      · have hd : decide ((30 : Int) < k) = true := by simp; omega
        have hd2 : decide ((30 : Int) < (b : Int) - a) = true := by rw [hsub]; exact hd
        have HFL := hide (lxFail_any p 3 a s b e0 x0 W HLW.out)
        rw [show ((3 : Nat) : Int) = 3 from rfl] at HFL
        have he : E = 3 := by rw [HE.out, if_pos h30]
        have hx : a = X := by rw [HX.out, if_pos h30]
        subst he
        subst hx
        unfold PT at HFL
        clear h30
        go_wp2_with fail
        refine HFL.out.mono ?_
        rintro r w5 ⟨rfl, h5, hA5⟩
        have HL5 := hide h5
        have HA5 := hide (HAW.out.trans hA5)
        clear h5 hA5
        go_wp2
        try rw [show Value.pointer (some ⟨p, 0, none⟩) = PT p from rfl]
        obtain ⟨C2, hC2⟩ : ∃ C2 : World → Prop, C2 = fun W => Below w5.heap.size w5 W := ⟨_, rfl⟩
        have HCD2 : Hid (C2 { w5 with drawn := w5.drawn + 1 }) := by rw [hC2]; exact ⟨rfl, rfl, rfl, Nat.le_refl _, fun _ _ => rfl⟩
        have HCB2 : Hid (∀ W, C2 W → Below w5.heap.size w5 W) := by rw [hC2]; exact fun W h => h
        clear hC2
        have z0 : ∀ W, C2 W → W.cell? ⟨p, 0, none⟩ = some (.string s) := fun W hW => (HL5.out.keep (HCB2.out W hW)).c0
        have z1 : ∀ W, C2 W → W.cell? ⟨p, 1, none⟩ = some (.int .i64 b) := fun W hW => (HL5.out.keep (HCB2.out W hW)).c1
        refine w_lit (C := C2) (by kernel_rfl) (by kernel_rfl) HCD2.out ?_
        refine w_value (PT p) (by kernel_rfl) (fun w hw => x_move _ _ _ _ _ _ _ _ rfl w) ?_
        simp only [Act.put, List.setIfInBounds_toArray, List.set_cons_succ, List.set_cons_zero]
        refine w_value (PT p) (by kernel_rfl) (fun w hw => x_nilCheck _ _ _ _ _ _ _ _ rfl w) ?_
        simp only [Act.put, List.setIfInBounds_toArray, List.set_cons_succ, List.set_cons_zero]
        refine w_value (PT p) (by kernel_rfl) (fun w hw => x_lxF0 _ _ _ _ _ _ _ _ rfl w) ?_
        simp only [Act.put, List.setIfInBounds_toArray, List.set_cons_succ, List.set_cons_zero]
        refine w_value (.string s) (by kernel_rfl) (fun w hw => x_ldS _ _ _ _ _ _ _ p _ rfl w (z0 w hw)) ?_
        simp only [Act.put, List.setIfInBounds_toArray, List.set_cons_succ, List.set_cons_zero]
        refine w_value (.int .i64 a) (by kernel_rfl) (fun w hw => x_move _ _ _ _ _ _ _ _ rfl w) ?_
        simp only [Act.put, List.setIfInBounds_toArray, List.set_cons_succ, List.set_cons_zero]
        refine w_value (PT p) (by kernel_rfl) (fun w hw => x_move _ _ _ _ _ _ _ _ rfl w) ?_
        simp only [Act.put, List.setIfInBounds_toArray, List.set_cons_succ, List.set_cons_zero]
        refine w_value (PT p) (by kernel_rfl) (fun w hw => x_nilCheck _ _ _ _ _ _ _ _ rfl w) ?_
        simp only [Act.put, List.setIfInBounds_toArray, List.set_cons_succ, List.set_cons_zero]
        refine w_value (.pointer (some ⟨p, 1, none⟩)) (by kernel_rfl) (fun w hw => x_lxF1 _ _ _ _ _ _ _ _ rfl w) ?_
        simp only [Act.put, List.setIfInBounds_toArray, List.set_cons_succ, List.set_cons_zero]
        refine w_value (.int .i64 b) (by kernel_rfl) (fun w hw => x_ldN _ _ _ _ _ _ _ p 1 _ rfl w (z1 w hw)) ?_
        simp only [Act.put, List.setIfInBounds_toArray, List.set_cons_succ, List.set_cons_zero]
        refine w_value (.string (s.extract a b)) (by kernel_rfl) (fun w hw => x_sSub _ _ _ _ _ _ _ _ _ s a b rfl rfl rfl (by have := HBK.out; omega) (by have := HBK.out; omega) w) ?_
        simp only [Act.put, List.setIfInBounds_toArray, List.set_cons_succ, List.set_cons_zero]
        refine w_value (.string (s.extract a b)) (by kernel_rfl) (fun w hw => x_assign _ _ _ _ _ _ _ _ rfl w) ?_
        simp only [Act.put, List.setIfInBounds_toArray, List.set_cons_succ, List.set_cons_zero]
        refine w_nil ?_
        intro W6 hCW6
        have HF1 := hide (HL5.out.keep (HCB2.out W6 hCW6))
        have HF2 := hide (HA5.out.trans (Aside.of_below (HCB2.out W6 hCW6)))
        clear hCW6 z0 z1
        go_wp2
        go_ret
        have hbk := HBK.out
        exact ⟨by rw [← hbk]; rfl, by rw [← hbk]; exact HF1.out, HF2.out⟩
      · have hd : decide ((30 : Int) < k) = false := by simp; omega
        have hd2 : decide ((30 : Int) < (b : Int) - a) = false := by rw [hsub]; exact hd
        have he : E = e0 := by rw [HE.out, if_neg h30]
        have hx : X = x0 := by rw [HX.out, if_neg h30]
        subst he
        subst hx
        have HL5 := HLW
        have HA5 := HAW
        generalize W = w5 at *
        clear h30
        go_wp2
        try rw [show Value.pointer (some ⟨p, 0, none⟩) = PT p from rfl]
        obtain ⟨C2, hC2⟩ : ∃ C2 : World → Prop, C2 = fun W => Below w5.heap.size w5 W := ⟨_, rfl⟩
        have HCD2 : Hid (C2 { w5 with drawn := w5.drawn + 1 }) := by rw [hC2]; exact ⟨rfl, rfl, rfl, Nat.le_refl _, fun _ _ => rfl⟩
        have HCB2 : Hid (∀ W, C2 W → Below w5.heap.size w5 W) := by rw [hC2]; exact fun W h => h
        clear hC2
        have z0 : ∀ W, C2 W → W.cell? ⟨p, 0, none⟩ = some (.string s) := fun W hW => (HL5.out.keep (HCB2.out W hW)).c0
        have z1 : ∀ W, C2 W → W.cell? ⟨p, 1, none⟩ = some (.int .i64 b) := fun W hW => (HL5.out.keep (HCB2.out W hW)).c1
        refine w_lit (C := C2) (by kernel_rfl) (by kernel_rfl) HCD2.out ?_
        refine w_value (PT p) (by kernel_rfl) (fun w hw => x_move _ _ _ _ _ _ _ _ rfl w) ?_
        simp only [Act.put, List.setIfInBounds_toArray, List.set_cons_succ, List.set_cons_zero]
        refine w_value (PT p) (by kernel_rfl) (fun w hw => x_nilCheck _ _ _ _ _ _ _ _ rfl w) ?_
        simp only [Act.put, List.setIfInBounds_toArray, List.set_cons_succ, List.set_cons_zero]
        refine w_value (PT p) (by kernel_rfl) (fun w hw => x_lxF0 _ _ _ _ _ _ _ _ rfl w) ?_
        simp only [Act.put, List.setIfInBounds_toArray, List.set_cons_succ, List.set_cons_zero]
        refine w_value (.string s) (by kernel_rfl) (fun w hw => x_ldS _ _ _ _ _ _ _ p _ rfl w (z0 w hw)) ?_
        simp only [Act.put, List.setIfInBounds_toArray, List.set_cons_succ, List.set_cons_zero]
        refine w_value (.int .i64 a) (by kernel_rfl) (fun w hw => x_move _ _ _ _ _ _ _ _ rfl w) ?_
        simp only [Act.put, List.setIfInBounds_toArray, List.set_cons_succ, List.set_cons_zero]
        refine w_value (PT p) (by kernel_rfl) (fun w hw => x_move _ _ _ _ _ _ _ _ rfl w) ?_
        simp only [Act.put, List.setIfInBounds_toArray, List.set_cons_succ, List.set_cons_zero]
        refine w_value (PT p) (by kernel_rfl) (fun w hw => x_nilCheck _ _ _ _ _ _ _ _ rfl w) ?_
        simp only [Act.put, List.setIfInBounds_toArray, List.set_cons_succ, List.set_cons_zero]
        refine w_value (.pointer (some ⟨p, 1, none⟩)) (by kernel_rfl) (fun w hw => x_lxF1 _ _ _ _ _ _ _ _ rfl w) ?_
        simp only [Act.put, List.setIfInBounds_toArray, List.set_cons_succ, List.set_cons_zero]
        refine w_value (.int .i64 b) (by kernel_rfl) (fun w hw => x_ldN _ _ _ _ _ _ _ p 1 _ rfl w (z1 w hw)) ?_
        simp only [Act.put, List.setIfInBounds_toArray, List.set_cons_succ, List.set_cons_zero]
        refine w_value (.string (s.extract a b)) (by kernel_rfl) (fun w hw => x_sSub _ _ _ _ _ _ _ _ _ s a b rfl rfl rfl (by have := HBK.out; omega) (by have := HBK.out; omega) w) ?_
        simp only [Act.put, List.setIfInBounds_toArray, List.set_cons_succ, List.set_cons_zero]
        refine w_value (.string (s.extract a b)) (by kernel_rfl) (fun w hw => x_assign _ _ _ _ _ _ _ _ rfl w) ?_
        simp only [Act.put, List.setIfInBounds_toArray, List.set_cons_succ, List.set_cons_zero]
        refine w_nil ?_
        intro W6 hCW6
        have HF1 := hide (HL5.out.keep (HCB2.out W6 hCW6))
        have HF2 := hide (HA5.out.trans (Aside.of_below (HCB2.out W6 hCW6)))
        clear hCW6 z0 z1
        go_wp2
        go_ret
        have hbk := HBK.out
        exact ⟨by rw [← hbk]; rfl, by rw [← hbk]; exact HF1.out, HF2.out⟩
end Go.Proofs.YtjlgepahgmkamaaGreatDoor
