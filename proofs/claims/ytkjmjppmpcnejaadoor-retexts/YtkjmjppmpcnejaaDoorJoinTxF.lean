/- Texts of this claim put together: LawReWiths, LawReKeys, TxF. -/
import Derived.Test.YtkjmjppmpcnejaaDoorShF
import Derived.Test.YtkjmjppmpcnejaaDoorMathSame
import Derived.Test.YtkjmjppmpcnejaaDoorJoinTxE
/- ReWiths: an expression with other kids has what its op makes of them; with its own it is itself. -/
namespace Go.Proofs.YtkjmjppmpcnejaaDoor
set_option maxRecDepth 100000
set_option linter.unusedSimpArgs false
set_option linter.unusedVariables false
open Go.RowKit

theorem cnt_bounds {l : List RE} (h : cntL l ≤ 100000) : l.length ≤ 1099511627776 ∧ (catL l).length ≤ 1099511627776 ∧ (flatL 4 l).length ≤ 1099511627776 ∧ (flatL 6 l).length ≤ 1099511627776 := by
  have a0 := cntL_len l
  have a1 := cntL_len (catL l); have a2 := cntL_catL l
  have b1 := cntL_len (flatL 4 l); have b2 := cntL_flatL 4 l
  have c1 := cntL_len (flatL 6 l); have c2 := cntL_flatL 6 l
  omega
theorem cntL_shapes (l : List SHP) (h : ∀ x ∈ l, Tx x ∧ x.nodes ≤ 30) : cntL (l.map SHP.re) ≤ 660 * l.length := by
  induction l with
  | nil => simp [cntL]
  | cons x l ih =>
    have e1 := x.cnt (h x (by simp)).1
    have e3 := (h x (by simp)).2
    have e2 := ih fun k hk => h k (by simp [hk])
    rw [List.map_cons, cntL_cons, List.length_cons]
    omega

end Go.Proofs.YtkjmjppmpcnejaaDoor
/- ReKeys: keys are one just where all parts are. -/
namespace Go.Proofs.YtkjmjppmpcnejaaDoor
set_option maxRecDepth 100000
set_option linter.unusedSimpArgs false
set_option linter.unusedVariables false
open Go.RowKit

theorem key_len (r : RE) : r.key.length ≤ 514 * r.cnt := by
  refine RE.ind (P := fun r => r.key.length ≤ 514 * r.cnt) ?_ r
  intro o s ks ih
  have hk : (keysL ks).length ≤ 514 * cntL ks := by
    unfold keysL
    induction ks with
    | nil => simp
    | cons k ks ih2 =>
      have e1 := ih k (by simp)
      have e2 := ih2 fun x hx => ih x (by simp [hx])
      rw [cntL_cons, List.map_cons, List.flatten_cons, List.length_append]
      omega
  have hr := runs_le s
  rw [RE.key_mk, RE.cnt_mk]
  have h3 : (if o = 2 then rnB (runsOf s) else []).length ≤ 512 := by
    split
    · rw [rnB_length]; omega
    · simp
  simp only [List.length_cons, List.length_append, List.length_nil]
  omega

theorem key_nil (w : World) : Calls Tryd.prog 16 #[.pointer none] w fun e w' => e = .returned (.string ⟨#[]⟩) ∧ Below w.heap.size w w' := by
  have hk : Calls Tryd.prog 40 #[.pointer none, .slice none 0 0] w fun e w' => e = .returned (.slice none 0 0) ∧ w' = w := by
    go_enter Tryd.func40, Tryd.ntmps40
    go_wp2
    go_ret
    exact ⟨rfl, rfl⟩
  have HK := hide hk
  clear hk
  go_enter Tryd.func16, Tryd.ntmps16
  go_wp2_with fail
  refine HK.out.mono ?_
  rintro e w1 ⟨rfl, rfl⟩
  have hcv := run_convert_bytes_nil (P := Tryd.prog) w1 57 5 Tryd.underlying57 Tryd.underlying5 0 0 9 Tryd.underlying9
  go_wp2
  go_ret
  exact ⟨rfl, Below.refl _ _⟩
theorem size_nil (w : World) : Calls Tryd.prog 14 #[.pointer none] w fun e w' => e = .returned (.int .i64 0) ∧ Below w.heap.size w w' := by
  go_enter Tryd.func14, Tryd.ntmps14
  go_wp2
  go_ret
  exact ⟨rfl, Below.refl _ _⟩
theorem null_nil (w : World) : Calls Tryd.prog 12 #[.pointer none] w fun e w' => e = .returned (.bool false) ∧ Below w.heap.size w w' := by
  have hk : Calls Tryd.prog 37 #[.pointer none] w fun e w' => ∃ b, e = .returned (PT b) ∧ ReAt w' b rNothing ∧ Below w.heap.size w w' := by
    go_enter Tryd.func37, Tryd.ntmps37
    go_wp2_with fail
    refine (nothing_any _).mono ?_
    rintro e w1 ⟨b, rfl, h1, h2⟩
    have H1 := hide h1
    have H2 := hide h2
    clear h1 h2
    unfold PT
    go_wp2
    go_ret
    exact ⟨b, rfl, H1.out, H2.out⟩
  have HK := hide hk
  clear hk
  go_enter Tryd.func12, Tryd.ntmps12
  go_wp2_with fail
  refine HK.out.mono ?_
  rintro e w1 ⟨b, rfl, h1, h2⟩
  obtain ⟨v, hb, -⟩ := h1.row
  have c7 := hb.cell 7
  simp only [reC, List.getElem?_toArray, List.getElem?_cons_zero, List.getElem?_cons_succ, PT] at c7
  have hn : rNothing.null = false := by unfold rNothing; rw [RE.null_mk]; rfl
  rw [hn] at c7
  have H2 := hide h2
  clear h1 h2 hb
  unfold PT
  go_wp2
  go_ret
  exact ⟨rfl, H2.out⟩
theorem back_nil (w : World) : Calls Tryd.prog 19 #[.pointer none] w fun e w' => e = .returned (.pointer none) ∧ Below w.heap.size w w' := by
  go_enter Tryd.func19, Tryd.ntmps19
  go_wp2
  go_ret
  exact ⟨rfl, Below.refl _ _⟩

/-- The cells of a shape in its box. -/
def shC (s : SHP) (a : Option Addr) (c : Nat) : Array Value := #[.int .i64 s.op, .int .u8 s.lo, .int .u8 s.hi, .string s.text, .slice a s.kids.length c]
structure Two (w : World) (B : Nat) (s t : SHP) (a : Option Addr) (c : Nat) (a' : Option Addr) (c' : Nat) (W : World) : Prop where
  below : Below B w W
  x : Blk W B (shC s a c) 24
  y : Blk W (B + 1) (shC t a' c') 24
theorem Two.step {w : World} {B : Nat} {s t : SHP} {a : Option Addr} {c : Nat} {a' : Option Addr} {c' : Nat} {W W' : World} (h : Two w B s t a c a' c' W) (hb : Below W.heap.size W W') : Two w B s t a c a' c' W' :=
  ⟨h.below.trans (hb.mono (by have := h.x.lt; omega)), h.x.below hb h.x.lt, h.y.below hb h.y.lt⟩

set_option maxHeartbeats 2000000 in
theorem reKeys_any (cs ct : List Value) (s t : SHP) (w : World) (hs : ShC w cs s) (ht : ShC w ct t) (hT : TabAt w) :
    Calls Tryd.prog 4 #[ShVal cs, ShVal ct] w fun e w' => e = .returned (.bool true) ∧ Below w.heap.size w w' := by
  have HC := hide hs
  have HD := hide ht
  have HT := hide hT
  obtain ⟨kv, rfl, hrow, -⟩ := hs.open
  obtain ⟨-, a, cap, rfl, -⟩ := hrow.at
  obtain ⟨kv, rfl, hrow2, -⟩ := ht.open
  obtain ⟨-, a', cap', rfl, -⟩ := hrow2.at
  clear hs hT hrow ht hrow2
  obtain ⟨B, hB⟩ : ∃ B, B = w.heap.size := ⟨_, rfl⟩
  unfold ShVal
  go_enter Tryd.func4, Tryd.ntmps4
  go_wp2_with fail
  have h2 : Two w B s t a cap a' cap' ((w.alloc (.cells (shC s a cap) 24)).alloc (.cells (shC t a' cap') 24)) :=
    ⟨((Below.refl _ _).alloc (Nat.le_of_eq hB) _).alloc (by simp; omega) _, (Blk.newAt hB _ _).alloc _, Blk.newAt (by simp; omega) _ _⟩
  unfold shC at h2
  refine (head3_any _ (HT.out.agree (Agree.of_all (K := fun _ => True) (hB ▸ h2.below)) trivial)).mono ?_
  rintro e w1 ⟨rfl, hb1⟩
  have H1 := hide (h2.step hb1)
  have HB := hide hB
  rw [← hB]
  clear h2 hb1 hB
  have hx := H1.out.x
  have x0 := hx.cell 0; have x1 := hx.cell 1; have x2 := hx.cell 2; have x3 := hx.cell 3; have x4 := hx.cell 4
  simp only [shC, List.getElem?_toArray, List.getElem?_cons_zero, List.getElem?_cons_succ] at x0 x1 x2 x3 x4
  clear hx
  have HFEW := hide (few_any s _ w1 (HC.out.keep (HB.out ▸ H1.out.below)))
  unfold ShVal at HFEW
  go_wp2_with fail
  refine HFEW.out.mono ?_
  rintro e w2 ⟨few, rfl, hfw, hb2⟩
  have H2 := hide (H1.out.step hb2)
  have HFW := hide hfw
  clear hb2 hfw HFEW x0 x1 x2 x3 x4 H1
  cases few
  · go_wp2
    go_ret
    exact ⟨rfl, HB.out ▸ H2.out.below⟩
  obtain ⟨htx, hnd⟩ := HFW.out rfl
  clear HFW
  have hx := H2.out.y
  have x0 := hx.cell 0; have x1 := hx.cell 1; have x2 := hx.cell 2; have x3 := hx.cell 3; have x4 := hx.cell 4
  simp only [shC, List.getElem?_toArray, List.getElem?_cons_zero, List.getElem?_cons_succ] at x0 x1 x2 x3 x4
  clear hx
  have HFEW := hide (few_any t _ w2 (HD.out.keep (HB.out ▸ H2.out.below)))
  unfold ShVal at HFEW
  go_wp2_with fail
  refine HFEW.out.mono ?_
  rintro e w3 ⟨few, rfl, hfw, hb2⟩
  have H3 := hide (H2.out.step hb2)
  have HFW := hide hfw
  clear hb2 hfw HFEW x0 x1 x2 x3 x4 H2
  cases few
  · go_wp2
    go_ret
    exact ⟨rfl, HB.out ▸ H3.out.below⟩
  obtain ⟨htx2, hnd2⟩ := HFW.out rfl
  clear HFW
  have hx := H3.out.x
  have x0 := hx.cell 0; have x1 := hx.cell 1; have x2 := hx.cell 2; have x3 := hx.cell 3; have x4 := hx.cell 4
  simp only [shC, List.getElem?_toArray, List.getElem?_cons_zero, List.getElem?_cons_succ] at x0 x1 x2 x3 x4
  clear hx
  have HMK := hide (make_any s _ w3 (HC.out.keep (HB.out ▸ H3.out.below)) htx hnd (HT.out.agree (Agree.of_all (K := fun _ => True) (HB.out ▸ H3.out.below)) trivial))
  unfold ShVal at HMK
  go_wp2_with fail
  refine HMK.out.mono ?_
  rintro e w4 ⟨rb, rfl, hr, hb2⟩
  have H4 := hide (H3.out.step hb2)
  have HR := hide hr
  clear hb2 hr HMK x0 x1 x2 x3 x4 H3
  have hx := H4.out.y
  have x0 := hx.cell 0; have x1 := hx.cell 1; have x2 := hx.cell 2; have x3 := hx.cell 3; have x4 := hx.cell 4
  simp only [shC, List.getElem?_toArray, List.getElem?_cons_zero, List.getElem?_cons_succ] at x0 x1 x2 x3 x4
  clear hx
  have HMK := hide (make_any t _ w4 (HD.out.keep (HB.out ▸ H4.out.below)) htx2 hnd2 (HT.out.agree (Agree.of_all (K := fun _ => True) (HB.out ▸ H4.out.below)) trivial))
  unfold ShVal at HMK
  unfold PT
  go_wp2_with fail
  refine HMK.out.mono ?_
  rintro e w5 ⟨qb, rfl, hr, hb2⟩
  have HBB := hide (H4.out.step hb2).below
  have HLE : Hid (B ≤ w5.heap.size) := Nat.le_trans (by have := H4.out.x.lt; omega) hb2.size
  have HRA := hide (HR.out.keep hb2)
  have HRB := hide hr
  have HTB := hide (HT.out.agree (Agree.of_all (K := fun _ => True) (HB.out ▸ (H4.out.step hb2).below)) trivial)
  have hk1 : s.re.key.length ≤ 1099511627776 := by have e1 := s.cnt htx; have e2 := key_len s.re; omega
  have hk2 : t.re.key.length ≤ 1099511627776 := by have e1 := t.cnt htx2; have e2 := key_len t.re; omega
  have HK1 := hide hk1
  have HK2 := hide hk2
  have HW1 := hide s.wf.k
  have HW2 := hide t.wf.k
  clear hb2 hr HMK x0 x1 x2 x3 x4 H4 HR hk1 hk2 htx htx2 hnd hnd2 HC HD HT
  obtain ⟨r, hr⟩ : ∃ r, r = s.re := ⟨_, rfl⟩
  obtain ⟨r2, hr2⟩ : ∃ r2, r2 = t.re := ⟨_, rfl⟩
  rw [← hr] at HRA HK1 HW1
  rw [← hr2] at HRB HK2 HW2
  clear hr hr2
  obtain ⟨bb, hbb⟩ : ∃ bb, bb = (r.key == r2.key) := ⟨_, rfl⟩
  have HSB : Hid ((bb = true → (strB r.key).toList = (strB r2.key).toList) ∧ (bb = false → ¬ (strB r.key).toList = (strB r2.key).toList)) := by
    refine ⟨fun h => ?_, fun h => ?_⟩
    · rw [hbb, beq_iff_eq] at h
      rw [h]
    · rw [hbb, beq_eq_false_iff_ne] at h
      exact fun e => h (strB_inj (key_lt256 r HW1.out) (key_lt256 r2 HW2.out) (Go.WideShapes.bytes_inj (by rw [ByteArray.toList_eq, ByteArray.toList_eq] at e; exact e)))
  have HLX : Hid ((lexN r.key r2.key == 0) = bb) := by
    show _ = _
    rw [hbb]
    by_cases he : r.key = r2.key
    · rw [he, lexN_self]; simp
    · rw [beq_eq_false_iff_ne.2 he]
      exact beq_eq_false_iff_ne.2 fun h => he (lexN_zero _ _ h)
  have HAL : Hid (∀ W, Below w5.heap.size w5 W → Calls Tryd.prog 17 #[PT rb, PT qb] W fun e w' => e = .returned (.bool bb) ∧ Below W.heap.size W w') := fun W hW => by
    rw [hbb]; exact alike_any r r2 rb qb W HW1.out HW2.out (HRA.out.keep hW) (HRB.out.keep hW)
  have HSA : Hid (∀ W, Below w5.heap.size w5 W → Calls Tryd.prog 18 #[PT rb, PT qb] W fun e w' => e = .returned (.bool bb) ∧ Below W.heap.size W w') := fun W hW => by
    rw [← HLX.out]; exact (same_re r r2 rb qb W HW1.out HW2.out (HRA.out.keep hW) (HRB.out.keep hW) (HTB.out.agree (Agree.of_all (K := fun _ => True) hW) trivial)).mono fun e w' ⟨h1, h2⟩ => ⟨h1, h2.below⟩
  have hke := key_any r rb w5 HW1.out HRA.out HK1.out HTB.out
  have HKE := hide hke
  clear hke hbb
  unfold PT at HKE HAL HSA ⊢
  go_wp2_with fail
  refine HKE.out.mono ?_
  rintro e w6 ⟨rfl, hb6⟩
  have hke := key_any r2 qb w6 HW2.out (HRB.out.keep hb6) HK2.out (HTB.out.agree (Agree.of_all (K := fun _ => True) hb6) trivial)
  have HKF := hide hke
  have HB6 := hide hb6
  clear hke hb6 HKE
  unfold PT at HKF
  go_wp2_with fail
  refine HKF.out.mono ?_
  rintro e w7 ⟨rfl, hb7⟩
  have HB7 := hide (HB6.out.trans (hb7.mono HB6.out.size))
  clear hb7 HKF HB6
  have hst := HSB.out
  clear HSB HLX HK1 HK2
  generalize strB r.key = k1 at hst ⊢
  generalize strB r2.key = k2 at hst ⊢
  cases bb
  · replace hst : (k1.toList == k2.toList) = false := beq_eq_false_iff_ne.2 (hst.2 rfl)
    go_wp2_with fail
    refine (HAL.out w7 HB7.out).mono ?_
    rintro e w8 ⟨rfl, hb8⟩
    have HB8 := hide (HB7.out.trans (hb8.mono HB7.out.size))
    clear hb8 HB7
    go_wp2_with fail
    refine (HSA.out w8 HB8.out).mono ?_
    rintro e w9 ⟨rfl, hb8⟩
    have HB9 := hide (HB8.out.trans (hb8.mono HB8.out.size))
    clear hb8 HB8
    go_wp2_with fail
    refine (HAL.out w9 HB9.out).mono ?_
    rintro e w10 ⟨rfl, hb8⟩
    have HB10 := hide (HB9.out.trans (hb8.mono HB9.out.size))
    clear hb8 HB9
    go_wp2_with fail
    refine (key_nil w10).mono ?_
    rintro e w11 ⟨rfl, hb8⟩
    have HB11 := hide (HB10.out.trans (hb8.mono HB10.out.size))
    clear hb8 HB10
    go_wp2_with fail
    refine (size_nil w11).mono ?_
    rintro e w12 ⟨rfl, hb8⟩
    have HB12 := hide (HB11.out.trans (hb8.mono HB11.out.size))
    clear hb8 HB11
    go_wp2_with fail
    refine (null_nil w12).mono ?_
    rintro e w13 ⟨rfl, hb8⟩
    have HB13 := hide (HB12.out.trans (hb8.mono HB12.out.size))
    clear hb8 HB12
    go_wp2_with fail
    refine (back_nil w13).mono ?_
    rintro e w14 ⟨rfl, hb8⟩
    have HB14 := hide (HBB.out.trans ((HB13.out.trans (hb8.mono HB13.out.size)).mono HLE.out))
    clear hb8 HB13
    go_wp2
    go_ret
    exact ⟨rfl, HB.out ▸ HB14.out⟩
  · replace hst : (k1.toList == k2.toList) = true := by rw [hst.1 rfl]; simp
    go_wp2_with fail
    refine (HAL.out w7 HB7.out).mono ?_
    rintro e w8 ⟨rfl, hb8⟩
    have HB8 := hide (HB7.out.trans (hb8.mono HB7.out.size))
    clear hb8 HB7
    go_wp2_with fail
    refine (HSA.out w8 HB8.out).mono ?_
    rintro e w9 ⟨rfl, hb8⟩
    have HB9 := hide (HB8.out.trans (hb8.mono HB8.out.size))
    clear hb8 HB8
    go_wp2_with fail
    refine (HAL.out w9 HB9.out).mono ?_
    rintro e w10 ⟨rfl, hb8⟩
    have HB10 := hide (HB9.out.trans (hb8.mono HB9.out.size))
    clear hb8 HB9
    go_wp2_with fail
    refine (key_nil w10).mono ?_
    rintro e w11 ⟨rfl, hb8⟩
    have HB11 := hide (HB10.out.trans (hb8.mono HB10.out.size))
    clear hb8 HB10
    go_wp2_with fail
    refine (size_nil w11).mono ?_
    rintro e w12 ⟨rfl, hb8⟩
    have HB12 := hide (HB11.out.trans (hb8.mono HB11.out.size))
    clear hb8 HB11
    go_wp2_with fail
    refine (null_nil w12).mono ?_
    rintro e w13 ⟨rfl, hb8⟩
    have HB13 := hide (HB12.out.trans (hb8.mono HB12.out.size))
    clear hb8 HB12
    go_wp2_with fail
    refine (back_nil w13).mono ?_
    rintro e w14 ⟨rfl, hb8⟩
    have HB14 := hide (HBB.out.trans ((HB13.out.trans (hb8.mono HB13.out.size)).mono HLE.out))
    clear hb8 HB13
    go_wp2
    go_ret
    exact ⟨rfl, HB.out ▸ HB14.out⟩
theorem reKeys_all (v v1 : Value) (s t : SHP) (w : World) (hv : ∃ cs, v = ShVal cs ∧ ShC w cs s) (hv1 : ∃ cs, v1 = ShVal cs ∧ ShC w cs t) (hT : TabAt w) :
    Calls Tryd.prog 4 #[v, v1] w fun e w' => e = .returned (.bool true) ∧ Below w.heap.size w w' := by
  obtain ⟨cs, rfl, hs⟩ := hv
  obtain ⟨ct, rfl, ht⟩ := hv1
  exact reKeys_any cs ct s t w hs ht hT
end Go.Proofs.YtkjmjppmpcnejaaDoor
/- The number of an expression's parts; its settled form; a text of few letters. -/
namespace Go.Proofs.YtkjmjppmpcnejaaDoor
set_option maxRecDepth 100000
set_option linter.unusedSimpArgs false
set_option linter.unusedVariables false
open Go.RowKit

theorem x_eqOpB (ρ : Operand → Value) (d : Option Tmp) (x y : Operand) (t : TypeId) (pos : String) (af : Array Edge) (g : Option (Nat × Bool)) (u v : Int) (c : Bool) (hc : (u == v) = c) (hx : ρ x = .int .i64 u) (hy : ρ y = .int .i64 v) (w : World) :
    (execOp ρ { dst := d, op := .binOp .eql 47 x y 47, type := t, pos := pos, after := af, guard := g }).run Tryd.prog w = .ok (.value (.bool c)) w := by
  rw [← hc]
  simp [go_sem, hx, hy]
theorem x_leqIntB (ρ : Operand → Value) (d : Option Tmp) (x y : Operand) (t : TypeId) (pos : String) (af : Array Edge) (g : Option (Nat × Bool)) (u v : Int) (h : u ≤ v) (hx : ρ x = .int .i64 u) (hy : ρ y = .int .i64 v) (w : World) :
    (execOp ρ { dst := d, op := .binOp .leq 3 x y 3, type := t, pos := pos, after := af, guard := g }).run Tryd.prog w = .ok (.value (.bool true)) w := by
  simp [go_sem, hx, hy, h]
theorem x_geqStr (ρ : Operand → Value) (d : Option Tmp) (x y : Operand) (t : TypeId) (pos : String) (af : Array Edge) (g : Option (Nat × Bool)) (u v : ByteArray) (h : Op.bytesLess u.toList v.toList = true) (hx : ρ x = .string u) (hy : ρ y = .string v) (w : World) :
    (execOp ρ { dst := d, op := .binOp .geq 9 x y 9, type := t, pos := pos, after := af, guard := g }).run Tryd.prog w = .ok (.value (.bool false)) w := by
  simp [go_sem, hx, hy, binOp, Op.stringOp, h]
theorem less_map : ∀ (a b : List Nat), (∀ x ∈ a, x < 256) → (∀ x ∈ b, x < 256) → lexN a b < 0 → Op.bytesLess (a.map UInt8.ofNat) (b.map UInt8.ofNat) = true
  | [], [], _, _, h => by simp [lexN] at h
  | [], _ :: _, _, _, _ => rfl
  | _ :: _, [], _, _, h => by simp [lexN] at h
  | x :: a, y :: b, ha, hb, h => by
    have hx := ha x (by simp)
    have hy := hb y (by simp)
    have lt : ∀ m n : Nat, m < 256 → n < 256 → m < n → UInt8.ofNat m < UInt8.ofNat n := fun m n h1 h2 h3 => by
      rw [UInt8.lt_iff_toNat_lt, UInt8.toNat_ofNat', UInt8.toNat_ofNat']; omega
    simp only [lexN] at h
    by_cases h1 : x < y
    · simp [Op.bytesLess, lt x y hx hy h1]
    · rw [if_neg h1] at h
      by_cases h2 : y < x
      · rw [if_pos h2] at h; omega
      · rw [if_neg h2] at h
        have e : x = y := by omega
        subst e
        simp [Op.bytesLess, less_map a b (fun z hz => ha z (by simp [hz])) (fun z hz => hb z (by simp [hz])) h]
theorem key_less {a b : RE} (ha : WfK a) (hb : WfK b) (h : ltK a b) : Op.bytesLess (strB a.key).toList (strB b.key).toList = true := by
  have e : ∀ l : List Nat, (strB l).toList = l.map UInt8.ofNat := fun l => by
    rw [ByteArray.toList_eq]
    simp [strB, strOfNums, Function.comp_def]
  rw [e, e]
  exact less_map _ _ (key_lt256 a ha) (key_lt256 b hb) h

set_option maxHeartbeats 1000000 in
theorem sizeLaw_any (r : RE) : r.cnt ≤ 1000000 → ∀ (b : Nat) (w : World), ReAt w b r → Calls Tryd.prog 15 #[PT b] w fun e w' => e = .returned (.int .i64 r.cnt) ∧ Below w.heap.size w w' := by
  refine RE.ind (P := fun r => r.cnt ≤ 1000000 → ∀ (b : Nat) (w : World), ReAt w b r → Calls Tryd.prog 15 #[PT b] w fun e w' => e = .returned (.int .i64 r.cnt) ∧ Below w.heap.size w w') ?_ r
  intro o s ks ih hcn b w h
  rw [RE.cnt_mk] at hcn ⊢
  obtain ⟨a, c, row, HX⟩ := h.see
  have x5 := (HX.out w (Below.refl _ _)).2.2
  have HROW := hide row
  have HIH := hide ih
  obtain ⟨hn, -⟩ := row.at
  clear row h HX ih
  go_enter Tryd.func15, Tryd.ntmps15
  unfold PT
  go_wp2
  go_loopw [3, 11] (fun q i wr => ∃ k : Nat, k ≤ ks.length ∧ i = .int .i64 k ∧ q = .int .i64 ((1 + cntL (ks.take k) : Nat) : Int) ∧ Hid (Below w.heap.size w wr)) (fun _ i _ => ks.length - (intOf i).toNat)
  case atStart => exact ⟨0, by omega, rfl, rfl, Below.refl _ _⟩
  case round =>
    obtain ⟨k, hk1, rfl, rfl, HW⟩ := hrel
    obtain ⟨-, a', cap', e1, g1⟩ := (HROW.out.below HW.out).at
    obtain ⟨rfl, rfl⟩ : a = a' ∧ c = cap' := by cases e1; exact ⟨rfl, rfl⟩
    clear e1
    by_cases hlt : k < ks.length
    · have hkd : decide (k < ks.length) = true := by simp [hlt]
      obtain ⟨g, f, p, rfl, -, hc0, hr0⟩ := g1 k hlt
      have hT : cntL (ks.take (k + 1)) = cntL (ks.take k) + (ks[k]).cnt := by
        rw [List.take_succ_eq_append_getElem hlt, cntL_append, cntL_cons]; simp [cntL]
      have hle : cntL (ks.take (k + 1)) ≤ cntL ks := by
        conv => rhs; rw [← List.take_append_drop (k + 1) ks, cntL_append]
        omega
      have HC := hide (HIH.out _ (List.getElem_mem hlt) (by omega) p wr hr0)
      generalize ks[k] = kk at *
      have HT := hide hT
      obtain ⟨m, hm⟩ : ∃ m, m = 1 + cntL (ks.take k) := ⟨_, rfl⟩
      obtain ⟨m2, hm2⟩ : ∃ m2, m2 = kk.cnt := ⟨_, rfl⟩
      have hmb : m + m2 ≤ 1000000 := by omega
      have HM := hide hm
      have HM2 := hide hm2
      rw [← hm2] at HC
      rw [← hm]
      clear g1 hr0 hT hle hm hm2
      unfold PT at hc0 HC
      go_wp2_with fail
      refine HC.out.mono ?_
      rintro e w1 ⟨rfl, hb⟩
      have HB := hide (HW.out.trans (hb.mono HW.out.size))
      clear hb HC hc0
      go_wp2
      refine ⟨⟨k + 1, by omega, by go_num, ?_, HB⟩, by simp [intOf]; omega⟩
      rw [HT.out, ← HM2.out, ← Nat.add_assoc, ← HM.out]
      go_num
    · obtain rfl : k = ks.length := by omega
      rw [List.take_length]
      clear g1
      go_wp2
      go_ret
      exact ⟨rfl, HW.out⟩

abbrev SetAt (r : RE) : Prop := ∀ (b : Nat) (w : World), ReAt w b r → TabAt w → Calls Tryd.prog 13 #[PT b] w fun e w' => e = .returned (.bool true) ∧ Below w.heap.size w w'
set_option maxHeartbeats 1000000 in
theorem set0 (s : BitVec 256) : SetAt (.mk 0 s []) := by
  intro b w h _
  obtain ⟨a, c, row, HX⟩ := h.see
  have x0 := (HX.out w (Below.refl _ _)).1
  have x5 := (HX.out w (Below.refl _ _)).2.2
  simp only [List.length_nil] at x5
  clear row h
  clear HX
  go_enter Tryd.func13, Tryd.ntmps13
  unfold PT
  go_wp2
  go_loopw [14] (fun i wr => i = .int .i64 0 ∧ wr = w) (fun _ _ => 0)
  case atStart => exact ⟨rfl, rfl⟩
  case round =>
    obtain ⟨rfl, rfl⟩ := hrel
    go_wp2
    go_ret
    exact ⟨rfl, Below.refl _ _⟩
set_option maxHeartbeats 1000000 in
theorem set1 (s : BitVec 256) : SetAt (.mk 1 s []) := by
  intro b w h _
  obtain ⟨a, c, row, HX⟩ := h.see
  have x0 := (HX.out w (Below.refl _ _)).1
  have x5 := (HX.out w (Below.refl _ _)).2.2
  simp only [List.length_nil] at x5
  clear row h
  clear HX
  go_enter Tryd.func13, Tryd.ntmps13
  unfold PT
  go_wp2
  go_loopw [14] (fun i wr => i = .int .i64 0 ∧ wr = w) (fun _ _ => 0)
  case atStart => exact ⟨rfl, rfl⟩
  case round =>
    obtain ⟨rfl, rfl⟩ := hrel
    go_wp2
    go_ret
    exact ⟨rfl, Below.refl _ _⟩
set_option maxHeartbeats 1000000 in
theorem set2 (s : BitVec 256) (hs : s ≠ 0#256) : SetAt (.mk 2 s []) := by
  intro b w h _
  obtain ⟨a, c, row, HX⟩ := h.see
  have x0 := (HX.out w (Below.refl _ _)).1
  have x5 := (HX.out w (Below.refl _ _)).2.2
  simp only [List.length_nil] at x5
  clear row h
  have xs := (HX.out w (Below.refl _ _)).2.1
  have s0 := xs 0 (by omega); have s1 := xs 1 (by omega); have s2 := xs 2 (by omega); have s3 := xs 3 (by omega)
  simp only [Nat.add_zero, Nat.reduceAdd] at s0 s1 s2 s3
  clear xs
  have HE := empty_any s w
  have hs0 : (s == 0#256) = false := by simpa using hs
  rw [hs0] at HE
  have HE := hide HE
  unfold SV at HE
  clear HX
  go_enter Tryd.func13, Tryd.ntmps13
  unfold PT
  go_wp2
  go_loopw [14] (fun i wr => i = .int .i64 0 ∧ wr = w) (fun _ _ => 0)
  case atStart => exact ⟨rfl, rfl⟩
  case round =>
    obtain ⟨rfl, rfl⟩ := hrel
    go_wp2_with fail
    refine HE.out.mono ?_
    rintro e w1 ⟨rfl, hb⟩
    have HB := hide hb
    clear hb HE
    go_wp2
    go_ret
    exact ⟨rfl, HB.out⟩
set_option maxHeartbeats 4000000 in
theorem set3 (s : BitVec 256) (ks : List RE) (h2 : 2 ≤ ks.length) (hk : ∀ k ∈ ks, k.op ≠ 0 ∧ k.op ≠ 1 ∧ k.op ≠ 3) (hw : ∀ k ∈ ks, Wf k) (hcn : cntL ks ≤ 1000000) (ih : ∀ k ∈ ks, SetAt k) : SetAt (.mk 3 s ks) := by
  intro b w h hT
  obtain ⟨a, c, row, HX⟩ := h.see
  have HX : Hid (∀ W, Below w.heap.size w W → W.cell? ⟨b, 0, none⟩ = some (.int .i64 (3 : Nat)) ∧ (∀ j, j < 4 → W.cell? ⟨b, 1 + j, none⟩ = some (.int .u64 (wd s j))) ∧ W.cell? ⟨b, 5, none⟩ = some (.slice a ks.length c)) := HX
  have x5 := (HX.out w (Below.refl _ _)).2.2
  have HROW := hide row
  have HIH := hide ih
  have HTB := hide hT
  have HK := hide hk
  have HWF := hide hw



  obtain ⟨hn, -⟩ := row.at
  have hnc : ks.length ≤ 1000000 := by have := cntL_len ks; omega
  clear row h ih hT hk hw
  have HKL : Hid (∀ k ∈ ks, k.key.length ≤ 1099511627776) := fun k hk => by
    have e1 := key_len k
    obtain ⟨u, v, e⟩ := List.append_of_mem hk
    have e2 : cntL ks = cntL u + (k.cnt + cntL v) := by rw [e, cntL_append, cntL_cons]
    omega
  go_enter Tryd.func13, Tryd.ntmps13
  unfold PT
  go_wp2
  clear x5
  go_loopw [3, 14] (fun q i wr => ∃ (k n : Nat), k ≤ ks.length ∧ i = .int .i64 k ∧ q = .int .i64 n ∧ n = ((ks.take k).filter fun x => x.op == 2).length ∧ Hid (Below w.heap.size w wr)) (fun _ i _ => ks.length - (intOf i).toNat)
  case atStart => exact ⟨0, 0, by omega, rfl, rfl, rfl, Below.refl _ _⟩
  case round =>
    obtain ⟨k, n, hk1, rfl, rfl, hnn, HW⟩ := hrel
    obtain ⟨-, a', cap', e1, g1⟩ := (HROW.out.below HW.out).at
    obtain ⟨rfl, rfl⟩ : a = a' ∧ c = cap' := by cases e1; exact ⟨rfl, rfl⟩
    clear e1
    by_cases hlt : k < ks.length
    · have hkd : decide (k < ks.length) = true := by simp [hlt]
      obtain ⟨g, f, p, rfl, -, hc0, hr0⟩ := g1 k hlt
      have HM := hide (List.getElem_mem hlt)
      have hnk : n ≤ k := by
        rw [hnn]
        exact Nat.le_trans (List.length_filter_le _ _) (by rw [List.length_take]; omega)
      have HNT : Hid (((ks.take (k + 1)).filter fun x => x.op == 2).length = n + if (ks[k]).op = 2 then 1 else 0) := by
        show _ = _
        rw [List.take_succ_eq_append_getElem hlt, List.filter_append, List.length_append, ← hnn]
        congr 1
        by_cases h : (ks[k]).op = 2 <;> simp [h]
      have HC := hide (HIH.out _ (List.getElem_mem hlt) p wr hr0 (HTB.out.agree (Agree.of_all (K := fun _ => True) HW.out) trivial))
      have HR0 := hide hr0
      generalize ks[k] = kk at *
      clear g1 hr0 hnn
      obtain ⟨ko, hko⟩ : ∃ ko, ko = kk.op := ⟨_, rfl⟩
      have n0 : ((ko : Int) == 0) = false := beq_eq_false_iff_ne.2 (by have := HK.out kk HM.out; omega)
      have n1 : ((ko : Int) == 1) = false := beq_eq_false_iff_ne.2 (by have := HK.out kk HM.out; omega)
      have n3 : ((ko : Int) == 3) = false := beq_eq_false_iff_ne.2 (by have := HK.out kk HM.out; omega)
      have HKO := hide hko
      clear hko
      unfold PT at hc0 HC
      go_wp2_with fail
      refine HC.out.mono ?_
      rintro e w1 ⟨rfl, hb⟩
      have HB := hide (HW.out.trans (hb.mono HW.out.size))
      have hR1 := HR0.out.keep hb
      have y0 := hR1.cell0
      rw [← HKO.out] at y0
      have HR1 := hide hR1
      have x0 := (HX.out w1 HB.out).1
      have HBW := HB
      clear hb HC hc0 hR1 HW HR0
      by_cases h2k : ko = 2
      · have c2 : ((ko : Int) == 2) = true := beq_iff_eq.2 (by omega)
        have HNE : Hid (((ks.take (k + 1)).filter fun x => x.op == 2).length = n + 1) := by
          show _ = _
          rw [HNT.out, ← HKO.out]
          rw [if_pos h2k]
        clear h2k
        have HBX := HB
        go_wp2
        refine ⟨⟨k + 1, n + 1, by omega, by go_num, by go_num, HNE.out.symm, HBX⟩, by simp [intOf]; omega⟩
      · have c2 : ((ko : Int) == 2) = false := beq_eq_false_iff_ne.2 (by omega)
        have HNE : Hid (((ks.take (k + 1)).filter fun x => x.op == 2).length = n) := by
          show _ = _
          rw [HNT.out, ← HKO.out]
          rw [if_neg h2k]; rfl
        clear h2k
        have HBX := HB
        go_wp2
        refine ⟨⟨k + 1, n, by omega, by go_num, by go_num, HNE.out.symm, HBX⟩, by simp [intOf]; omega⟩
    · obtain rfl : k = ks.length := by omega
      clear g1
      have x0 := (HX.out wr HW.out).1
      have x5 := (HX.out wr HW.out).2.2
      rw [List.take_length] at hnn
      have hd : decide ((2 : Int) ≤ ks.length) = true := by simp; omega
      have hd2 : decide (2 ≤ ks.length) = true := by simp; omega
      go_wp2
      go_ret
      exact ⟨rfl, HW.out⟩
set_option maxHeartbeats 4000000 in
theorem set4 (s : BitVec 256) (ks : List RE) (h2 : 2 ≤ ks.length) (hk : ∀ k ∈ ks, k.op ≠ 0 ∧ k.op ≠ 4) (hp : ks.Pairwise ltK) (hf : (ks.filter fun k => k.op == 2).length ≤ 1) (hw : ∀ k ∈ ks, Wf k) (hcn : cntL ks ≤ 1000000) (ih : ∀ k ∈ ks, SetAt k) : SetAt (.mk 4 s ks) := by
  intro b w h hT
  obtain ⟨a, c, row, HX⟩ := h.see
  have HX : Hid (∀ W, Below w.heap.size w W → W.cell? ⟨b, 0, none⟩ = some (.int .i64 (4 : Nat)) ∧ (∀ j, j < 4 → W.cell? ⟨b, 1 + j, none⟩ = some (.int .u64 (wd s j))) ∧ W.cell? ⟨b, 5, none⟩ = some (.slice a ks.length c)) := HX
  have x5 := (HX.out w (Below.refl _ _)).2.2
  have HROW := hide row
  have HIH := hide ih
  have HTB := hide hT
  have HK := hide hk
  have HWF := hide hw
  have HP := hide hp
  have HF := hide hf

  obtain ⟨hn, -⟩ := row.at
  have hnc : ks.length ≤ 1000000 := by have := cntL_len ks; omega
  clear row h ih hT hk hw hp hf
  have HKL : Hid (∀ k ∈ ks, k.key.length ≤ 1099511627776) := fun k hk => by
    have e1 := key_len k
    obtain ⟨u, v, e⟩ := List.append_of_mem hk
    have e2 : cntL ks = cntL u + (k.cnt + cntL v) := by rw [e, cntL_append, cntL_cons]
    omega
  go_enter Tryd.func13, Tryd.ntmps13
  unfold PT
  go_wp2
  clear x5
  go_loopw [3, 14] (fun q i wr => ∃ (k n : Nat), k ≤ ks.length ∧ i = .int .i64 k ∧ q = .int .i64 n ∧ n = ((ks.take k).filter fun x => x.op == 2).length ∧ Hid (Below w.heap.size w wr)) (fun _ i _ => ks.length - (intOf i).toNat)
  case atStart => exact ⟨0, 0, by omega, rfl, rfl, rfl, Below.refl _ _⟩
  case round =>
    obtain ⟨k, n, hk1, rfl, rfl, hnn, HW⟩ := hrel
    obtain ⟨-, a', cap', e1, g1⟩ := (HROW.out.below HW.out).at
    obtain ⟨rfl, rfl⟩ : a = a' ∧ c = cap' := by cases e1; exact ⟨rfl, rfl⟩
    clear e1
    by_cases hlt : k < ks.length
    · have hkd : decide (k < ks.length) = true := by simp [hlt]
      obtain ⟨g, f, p, rfl, -, hc0, hr0⟩ := g1 k hlt
      have HM := hide (List.getElem_mem hlt)
      have hnk : n ≤ k := by
        rw [hnn]
        exact Nat.le_trans (List.length_filter_le _ _) (by rw [List.length_take]; omega)
      have HNT : Hid (((ks.take (k + 1)).filter fun x => x.op == 2).length = n + if (ks[k]).op = 2 then 1 else 0) := by
        show _ = _
        rw [List.take_succ_eq_append_getElem hlt, List.filter_append, List.length_append, ← hnn]
        congr 1
        by_cases h : (ks[k]).op = 2 <;> simp [h]
      have HC := hide (HIH.out _ (List.getElem_mem hlt) p wr hr0 (HTB.out.agree (Agree.of_all (K := fun _ => True) HW.out) trivial))
      have HR0 := hide hr0
      have HPP : Hid (∀ hk0 : 0 < k, ∃ p0, ∃ x0, wr.cell? ⟨g, f + (k - 1), none⟩ = some (PT p0) ∧ ReAt wr p0 x0 ∧ x0 ∈ ks ∧ ltK x0 ks[k]) := fun hk0 => by
        obtain ⟨g', f', p0, e2, -, hc1, hr1⟩ := g1 (k - 1) (by omega)
        obtain ⟨rfl, rfl⟩ : g = g' ∧ f = f' := by cases e2; exact ⟨rfl, rfl⟩
        exact ⟨p0, ks[k - 1], hc1, hr1, List.getElem_mem _, List.pairwise_iff_getElem.1 HP.out (k - 1) k (by omega) hlt (by omega)⟩
      generalize ks[k] = kk at *
      clear g1 hr0 hnn
      obtain ⟨ko, hko⟩ : ∃ ko, ko = kk.op := ⟨_, rfl⟩
      have n0 : ((ko : Int) == 0) = false := beq_eq_false_iff_ne.2 (by have := HK.out kk HM.out; omega)
      have hne : ((ko : Int) == (4 : Nat)) = false := beq_eq_false_iff_ne.2 (by have := HK.out kk HM.out; omega)
      have HKO := hide hko
      clear hko
      unfold PT at hc0 HC
      go_wp2_with fail
      refine HC.out.mono ?_
      rintro e w1 ⟨rfl, hb⟩
      have HB := hide (HW.out.trans (hb.mono HW.out.size))
      have hR1 := HR0.out.keep hb
      have y0 := hR1.cell0
      rw [← HKO.out] at y0
      have HR1 := hide hR1
      have x0 := (HX.out w1 HB.out).1
      have HBW := HB
      have HPQ : Hid (∀ hk0 : 0 < k, ∃ p0, ∃ x0, w1.cell? ⟨g, f + (k - 1), none⟩ = some (PT p0) ∧ ReAt w1 p0 x0 ∧ x0 ∈ ks ∧ ltK x0 kk) := fun hk0 => by
        obtain ⟨p0, x0, h1, h2, h3, h4⟩ := HPP.out hk0
        exact ⟨p0, x0, (World.cell?_of_block (w := wr) (hb.block _ (World.block_lt_of_cell? _ _ h1))).trans h1, h2.keep hb, h3, h4⟩
      clear hb HC hc0 hR1 HW HR0 HPP
      by_cases h2k : ko = 2
      · have c2 : ((ko : Int) == 2) = true := beq_iff_eq.2 (by omega)
        have HNE : Hid (((ks.take (k + 1)).filter fun x => x.op == 2).length = n + 1) := by
          show _ = _
          rw [HNT.out, ← HKO.out]
          rw [if_pos h2k]
        clear h2k
        have HQP : Hid (∀ W, Below w.heap.size w W → Below w1.heap.size w1 W → W.cell? ⟨p, 0, none⟩ = some (.int .i64 ko)) := fun W _ hW => by rw [HKO.out]; exact (HR1.out.keep hW).cell0
        by_cases hk0 : 0 < k
        · have hkp : decide ((0 : Int) < k) = true := by simp; omega
          obtain ⟨p0, x0, hc1, hr1, hm1, hlt1⟩ := HPQ.out hk0
          obtain ⟨s0, hs0⟩ : ∃ s0, s0 = strB x0.key := ⟨_, rfl⟩
          obtain ⟨s1, hs1⟩ : ∃ s1, s1 = strB kk.key := ⟨_, rfl⟩
          have HLS : Hid (Op.bytesLess s0.toList s1.toList = true) := by rw [hs0, hs1]; exact key_less (HWF.out _ hm1).k (HWF.out _ HM.out).k hlt1
          have HTW : Hid (∀ W, Below w.heap.size w W → TabAt W) := fun W hW => HTB.out.agree (Agree.of_all (K := fun _ => True) hW) trivial
          have HQA : Hid (∀ W, Below w.heap.size w W → Below w1.heap.size w1 W → Calls Tryd.prog 16 #[PT p0] W fun e w' => e = .returned (.string s0) ∧ Below W.heap.size W w') := fun W hW hW1 => by
            rw [hs0]; exact key_any x0 p0 W (HWF.out _ hm1).k (hr1.keep hW1) (HKL.out _ hm1) (HTW.out W hW)
          have HQB : Hid (∀ W, Below w.heap.size w W → Below w1.heap.size w1 W → Calls Tryd.prog 16 #[PT p] W fun e w' => e = .returned (.string s1) ∧ Below W.heap.size W w') := fun W hW hW1 => by
            rw [hs1]; exact key_any kk p W (HWF.out _ HM.out).k (HR1.out.keep hW1) (HKL.out _ HM.out) (HTW.out W hW)
          have HQ0 : Hid (∀ W, Below w1.heap.size w1 W → W.cell? ⟨g, f + (k - 1), none⟩ = some (PT p0)) := fun W hW => (World.cell?_of_block (w := w1) (hW.block _ (World.block_lt_of_cell? _ _ hc1))).trans hc1
          clear hs0 hs1 hc1 hr1 hm1 hlt1
          go_wp2
          have hG : Grows fun W => Below w.heap.size w W ∧ Below w1.heap.size w1 W := fun W W' h1 h2 => ⟨h1.1.trans (h2.mono h1.1.size), h1.2.trans (h2.mono h1.2.size)⟩
          have hqp := HQP.out
          have hls := HLS.out
          have hk9 : k ≤ 9223372036854775807 := by omega
          obtain ⟨nn, hnn2⟩ : ∃ nn, nn = ks.length := ⟨_, rfl⟩
          refine w_lit (C := fun W => Below w.heap.size w W ∧ Below w1.heap.size w1 W) (by kernel_rfl) (by kernel_rfl) ⟨HB.out.trans ⟨rfl, rfl, rfl, Nat.le_refl _, fun _ _ => rfl⟩, ⟨rfl, rfl, rfl, Nat.le_refl _, fun _ _ => rfl⟩⟩ ?_
          refine w_value (PT p) (by kernel_rfl) (fun w hw => x_move _ _ _ _ _ _ _ _ rfl w) ?_
          simp only [Act.put, List.setIfInBounds_toArray, List.set_cons_succ, List.set_cons_zero]
          refine w_value (PT p) (by kernel_rfl) (fun w hw => x_nilCheck _ _ _ _ _ _ _ _ rfl w) ?_
          simp only [Act.put, List.setIfInBounds_toArray, List.set_cons_succ, List.set_cons_zero]
          refine w_value (PT p) (by kernel_rfl) (fun w hw => x_field0 _ _ _ _ _ _ _ _ rfl w) ?_
          simp only [Act.put, List.setIfInBounds_toArray, List.set_cons_succ, List.set_cons_zero]
          refine w_value (.int .i64 ko) (by kernel_rfl) (fun w hw => x_loadOp _ _ _ _ _ _ _ _ ko rfl w (hqp w hw.1 hw.2)) ?_
          simp only [Act.put, List.setIfInBounds_toArray, List.set_cons_succ, List.set_cons_zero]
          refine w_value (PT b) (by kernel_rfl) (fun w hw => x_move _ _ _ _ _ _ _ _ rfl w) ?_
          simp only [Act.put, List.setIfInBounds_toArray, List.set_cons_succ, List.set_cons_zero]
          refine w_value (PT b) (by kernel_rfl) (fun w hw => x_nilCheck _ _ _ _ _ _ _ _ rfl w) ?_
          simp only [Act.put, List.setIfInBounds_toArray, List.set_cons_succ, List.set_cons_zero]
          refine w_value (PT b) (by kernel_rfl) (fun w hw => x_field0 _ _ _ _ _ _ _ _ rfl w) ?_
          simp only [Act.put, List.setIfInBounds_toArray, List.set_cons_succ, List.set_cons_zero]
          refine w_value (.int .i64 (4 : Nat)) (by kernel_rfl) (fun w hw => x_loadOp _ _ _ _ _ _ _ _ 4 rfl w (HX.out w hw.1).1) ?_
          simp only [Act.put, List.setIfInBounds_toArray, List.set_cons_succ, List.set_cons_zero]
          refine w_value (.bool false) (by kernel_rfl) (fun w hw => x_eqOpB _ _ _ _ _ _ _ _ ko 4 false hne rfl rfl w) ?_
          simp only [Act.put, List.setIfInBounds_toArray, List.set_cons_succ, List.set_cons_zero]
          refine w_value (.bool false) (by kernel_rfl) (fun w hw => x_move _ _ _ _ _ _ _ _ rfl w) ?_
          simp only [Act.put, List.setIfInBounds_toArray, List.set_cons_succ, List.set_cons_zero]
          refine w_value (.int .i64 k) (by kernel_rfl) (fun w hw => x_move _ _ _ _ _ _ _ _ rfl w) ?_
          simp only [Act.put, List.setIfInBounds_toArray, List.set_cons_succ, List.set_cons_zero]
          refine w_value (.bool true) (by kernel_rfl) (fun w hw => (x_gtrInt _ _ _ _ _ _ _ _ k 0 rfl rfl w).trans (by rw [hkp])) ?_
          simp only [Act.put, List.setIfInBounds_toArray, List.set_cons_succ, List.set_cons_zero]
          refine w_value (.bool true) (by kernel_rfl) (fun w hw => x_move _ _ _ _ _ _ _ _ rfl w) ?_
          simp only [Act.put, List.setIfInBounds_toArray, List.set_cons_succ, List.set_cons_zero]
          refine w_value (PT b) (by kernel_rfl) (fun w hw => x_move _ _ _ _ _ _ _ _ rfl w) ?_
          simp only [Act.put, List.setIfInBounds_toArray, List.set_cons_succ, List.set_cons_zero]
          refine w_value (PT b) (by kernel_rfl) (fun w hw => x_nilCheck _ _ _ _ _ _ _ _ rfl w) ?_
          simp only [Act.put, List.setIfInBounds_toArray, List.set_cons_succ, List.set_cons_zero]
          refine w_value (.pointer (some ⟨b, 5, none⟩)) (by kernel_rfl) (fun w hw => x_field2 _ _ _ _ _ _ _ _ rfl w) ?_
          simp only [Act.put, List.setIfInBounds_toArray, List.set_cons_succ, List.set_cons_zero]
          refine w_value (.slice (some ⟨g, f, none⟩) ks.length c) (by kernel_rfl) (fun w hw => x_loadKids _ _ _ _ _ _ _ b 5 _ rfl w (HX.out w hw.1).2.2) ?_
          simp only [Act.put, List.setIfInBounds_toArray, List.set_cons_succ, List.set_cons_zero]
          refine w_value (.int .i64 k) (by kernel_rfl) (fun w hw => x_move _ _ _ _ _ _ _ _ rfl w) ?_
          simp only [Act.put, List.setIfInBounds_toArray, List.set_cons_succ, List.set_cons_zero]
          refine w_value (.int .i64 ((k - 1 : Nat) : Int)) (by kernel_rfl) (fun w hw => x_sub1 _ _ _ _ _ _ _ k rfl rfl hk0 hk9 w) ?_
          simp only [Act.put, List.setIfInBounds_toArray, List.set_cons_succ, List.set_cons_zero]
          refine w_value (.pointer (some ⟨g, f + (k - 1), none⟩)) (by kernel_rfl) (fun w hw => x_idxP _ _ _ _ _ _ _ _ g f ks.length c (k - 1) rfl rfl (by omega) w) ?_
          simp only [Act.put, List.setIfInBounds_toArray, List.set_cons_succ, List.set_cons_zero]
          refine w_value (PT p0) (by kernel_rfl) (fun w hw => x_loadP _ _ _ _ _ _ _ _ _ _ rfl w (HQ0.out w hw.2)) ?_
          simp only [Act.put, List.setIfInBounds_toArray, List.set_cons_succ, List.set_cons_zero]
          refine w_call hG 16 #[PT p0] (.string s0) (by kernel_rfl) (fun w => x_call1 _ _ _ _ _ _ _ _ _ _ rfl rfl (enters_of Tryd.func16 (by kernel_rfl) rfl) w) (fun w hw => HQA.out w hw.1 hw.2) ?_
          simp only [Act.put, List.setIfInBounds_toArray, List.set_cons_succ, List.set_cons_zero]
          refine w_value (PT p) (by kernel_rfl) (fun w hw => x_move _ _ _ _ _ _ _ _ rfl w) ?_
          simp only [Act.put, List.setIfInBounds_toArray, List.set_cons_succ, List.set_cons_zero]
          refine w_call hG 16 #[PT p] (.string s1) (by kernel_rfl) (fun w => x_call1 _ _ _ _ _ _ _ _ _ _ rfl rfl (enters_of Tryd.func16 (by kernel_rfl) rfl) w) (fun w hw => HQB.out w hw.1 hw.2) ?_
          simp only [Act.put, List.setIfInBounds_toArray, List.set_cons_succ, List.set_cons_zero]
          refine w_value (.bool false) (by kernel_rfl) (fun w hw => x_geqStr _ _ _ _ _ _ _ _ s0 s1 hls rfl rfl w) ?_
          simp only [Act.put, List.setIfInBounds_toArray, List.set_cons_succ, List.set_cons_zero]
          refine w_value (.bool false) (by kernel_rfl) (fun w hw => x_pick _ _ _ _ _ _ _ _ _ true (.bool false) (.bool false) rfl rfl rfl w) ?_
          simp only [Act.put, List.setIfInBounds_toArray, List.set_cons_succ, List.set_cons_zero]
          refine w_value (.bool false) (by kernel_rfl) (fun w hw => x_pick _ _ _ _ _ _ _ _ _ false (.bool true) (.bool false) rfl rfl rfl w) ?_
          simp only [Act.put, List.setIfInBounds_toArray, List.set_cons_succ, List.set_cons_zero]
          refine w_nil ?_
          intro W hW
          have HBX := hide hW.1
          clear hW hG hqp hls hnn2
          go_wp2
          refine ⟨⟨k + 1, n + 1, by omega, by go_num, by go_num, HNE.out.symm, HBX⟩, by simp [intOf]; omega⟩
        · have hkp : decide ((0 : Int) < k) = false := by simp; omega
          go_wp2
          have hG : Grows fun W => Below w.heap.size w W ∧ Below w1.heap.size w1 W := fun W W' h1 h2 => ⟨h1.1.trans (h2.mono h1.1.size), h1.2.trans (h2.mono h1.2.size)⟩
          have hqp := HQP.out
          refine w_lit (C := fun W => Below w.heap.size w W ∧ Below w1.heap.size w1 W) (by kernel_rfl) (by kernel_rfl) ⟨HB.out.trans ⟨rfl, rfl, rfl, Nat.le_refl _, fun _ _ => rfl⟩, ⟨rfl, rfl, rfl, Nat.le_refl _, fun _ _ => rfl⟩⟩ ?_
          refine w_value (PT p) (by kernel_rfl) (fun w hw => x_move _ _ _ _ _ _ _ _ rfl w) ?_
          simp only [Act.put, List.setIfInBounds_toArray, List.set_cons_succ, List.set_cons_zero]
          refine w_value (PT p) (by kernel_rfl) (fun w hw => x_nilCheck _ _ _ _ _ _ _ _ rfl w) ?_
          simp only [Act.put, List.setIfInBounds_toArray, List.set_cons_succ, List.set_cons_zero]
          refine w_value (PT p) (by kernel_rfl) (fun w hw => x_field0 _ _ _ _ _ _ _ _ rfl w) ?_
          simp only [Act.put, List.setIfInBounds_toArray, List.set_cons_succ, List.set_cons_zero]
          refine w_value (.int .i64 ko) (by kernel_rfl) (fun w hw => x_loadOp _ _ _ _ _ _ _ _ ko rfl w (hqp w hw.1 hw.2)) ?_
          simp only [Act.put, List.setIfInBounds_toArray, List.set_cons_succ, List.set_cons_zero]
          refine w_value (PT b) (by kernel_rfl) (fun w hw => x_move _ _ _ _ _ _ _ _ rfl w) ?_
          simp only [Act.put, List.setIfInBounds_toArray, List.set_cons_succ, List.set_cons_zero]
          refine w_value (PT b) (by kernel_rfl) (fun w hw => x_nilCheck _ _ _ _ _ _ _ _ rfl w) ?_
          simp only [Act.put, List.setIfInBounds_toArray, List.set_cons_succ, List.set_cons_zero]
          refine w_value (PT b) (by kernel_rfl) (fun w hw => x_field0 _ _ _ _ _ _ _ _ rfl w) ?_
          simp only [Act.put, List.setIfInBounds_toArray, List.set_cons_succ, List.set_cons_zero]
          refine w_value (.int .i64 (4 : Nat)) (by kernel_rfl) (fun w hw => x_loadOp _ _ _ _ _ _ _ _ 4 rfl w (HX.out w hw.1).1) ?_
          simp only [Act.put, List.setIfInBounds_toArray, List.set_cons_succ, List.set_cons_zero]
          refine w_value (.bool false) (by kernel_rfl) (fun w hw => x_eqOpB _ _ _ _ _ _ _ _ ko 4 false hne rfl rfl w) ?_
          simp only [Act.put, List.setIfInBounds_toArray, List.set_cons_succ, List.set_cons_zero]
          refine w_value (.bool false) (by kernel_rfl) (fun w hw => x_move _ _ _ _ _ _ _ _ rfl w) ?_
          simp only [Act.put, List.setIfInBounds_toArray, List.set_cons_succ, List.set_cons_zero]
          refine w_value (.int .i64 k) (by kernel_rfl) (fun w hw => x_move _ _ _ _ _ _ _ _ rfl w) ?_
          simp only [Act.put, List.setIfInBounds_toArray, List.set_cons_succ, List.set_cons_zero]
          refine w_value (.bool false) (by kernel_rfl) (fun w hw => (x_gtrInt _ _ _ _ _ _ _ _ k 0 rfl rfl w).trans (by rw [hkp])) ?_
          simp only [Act.put, List.setIfInBounds_toArray, List.set_cons_succ, List.set_cons_zero]
          refine w_value (.bool false) (by kernel_rfl) (fun w hw => x_move _ _ _ _ _ _ _ _ rfl w) ?_
          simp only [Act.put, List.setIfInBounds_toArray, List.set_cons_succ, List.set_cons_zero]
          refine w_skip (by kernel_rfl) ?_
          simp only [Act.put, List.setIfInBounds_toArray, List.set_cons_succ, List.set_cons_zero]
          refine w_skip (by kernel_rfl) ?_
          simp only [Act.put, List.setIfInBounds_toArray, List.set_cons_succ, List.set_cons_zero]
          refine w_skip (by kernel_rfl) ?_
          simp only [Act.put, List.setIfInBounds_toArray, List.set_cons_succ, List.set_cons_zero]
          refine w_skip (by kernel_rfl) ?_
          simp only [Act.put, List.setIfInBounds_toArray, List.set_cons_succ, List.set_cons_zero]
          refine w_skip (by kernel_rfl) ?_
          simp only [Act.put, List.setIfInBounds_toArray, List.set_cons_succ, List.set_cons_zero]
          refine w_skip (by kernel_rfl) ?_
          simp only [Act.put, List.setIfInBounds_toArray, List.set_cons_succ, List.set_cons_zero]
          refine w_skip (by kernel_rfl) ?_
          simp only [Act.put, List.setIfInBounds_toArray, List.set_cons_succ, List.set_cons_zero]
          refine w_skip (by kernel_rfl) ?_
          simp only [Act.put, List.setIfInBounds_toArray, List.set_cons_succ, List.set_cons_zero]
          refine w_skip (by kernel_rfl) ?_
          simp only [Act.put, List.setIfInBounds_toArray, List.set_cons_succ, List.set_cons_zero]
          refine w_skip (by kernel_rfl) ?_
          simp only [Act.put, List.setIfInBounds_toArray, List.set_cons_succ, List.set_cons_zero]
          refine w_skip (by kernel_rfl) ?_
          simp only [Act.put, List.setIfInBounds_toArray, List.set_cons_succ, List.set_cons_zero]
          refine w_skip (by kernel_rfl) ?_
          simp only [Act.put, List.setIfInBounds_toArray, List.set_cons_succ, List.set_cons_zero]
          refine w_value (.bool false) (by kernel_rfl) (fun w hw => x_pick _ _ _ _ _ _ _ _ _ false undef (.bool false) rfl rfl rfl w) ?_
          simp only [Act.put, List.setIfInBounds_toArray, List.set_cons_succ, List.set_cons_zero]
          refine w_value (.bool false) (by kernel_rfl) (fun w hw => x_pick _ _ _ _ _ _ _ _ _ false (.bool true) (.bool false) rfl rfl rfl w) ?_
          simp only [Act.put, List.setIfInBounds_toArray, List.set_cons_succ, List.set_cons_zero]
          refine w_nil ?_
          intro W hW
          have HBX := hide hW.1
          clear hW hG hqp
          go_wp2
          refine ⟨⟨k + 1, n + 1, by omega, by go_num, by go_num, HNE.out.symm, HBX⟩, by simp [intOf]; omega⟩
      · have c2 : ((ko : Int) == 2) = false := beq_eq_false_iff_ne.2 (by omega)
        have HNE : Hid (((ks.take (k + 1)).filter fun x => x.op == 2).length = n) := by
          show _ = _
          rw [HNT.out, ← HKO.out]
          rw [if_neg h2k]; rfl
        clear h2k
        have HQP : Hid (∀ W, Below w.heap.size w W → Below w1.heap.size w1 W → W.cell? ⟨p, 0, none⟩ = some (.int .i64 ko)) := fun W _ hW => by rw [HKO.out]; exact (HR1.out.keep hW).cell0
        by_cases hk0 : 0 < k
        · have hkp : decide ((0 : Int) < k) = true := by simp; omega
          obtain ⟨p0, x0, hc1, hr1, hm1, hlt1⟩ := HPQ.out hk0
          obtain ⟨s0, hs0⟩ : ∃ s0, s0 = strB x0.key := ⟨_, rfl⟩
          obtain ⟨s1, hs1⟩ : ∃ s1, s1 = strB kk.key := ⟨_, rfl⟩
          have HLS : Hid (Op.bytesLess s0.toList s1.toList = true) := by rw [hs0, hs1]; exact key_less (HWF.out _ hm1).k (HWF.out _ HM.out).k hlt1
          have HTW : Hid (∀ W, Below w.heap.size w W → TabAt W) := fun W hW => HTB.out.agree (Agree.of_all (K := fun _ => True) hW) trivial
          have HQA : Hid (∀ W, Below w.heap.size w W → Below w1.heap.size w1 W → Calls Tryd.prog 16 #[PT p0] W fun e w' => e = .returned (.string s0) ∧ Below W.heap.size W w') := fun W hW hW1 => by
            rw [hs0]; exact key_any x0 p0 W (HWF.out _ hm1).k (hr1.keep hW1) (HKL.out _ hm1) (HTW.out W hW)
          have HQB : Hid (∀ W, Below w.heap.size w W → Below w1.heap.size w1 W → Calls Tryd.prog 16 #[PT p] W fun e w' => e = .returned (.string s1) ∧ Below W.heap.size W w') := fun W hW hW1 => by
            rw [hs1]; exact key_any kk p W (HWF.out _ HM.out).k (HR1.out.keep hW1) (HKL.out _ HM.out) (HTW.out W hW)
          have HQ0 : Hid (∀ W, Below w1.heap.size w1 W → W.cell? ⟨g, f + (k - 1), none⟩ = some (PT p0)) := fun W hW => (World.cell?_of_block (w := w1) (hW.block _ (World.block_lt_of_cell? _ _ hc1))).trans hc1
          clear hs0 hs1 hc1 hr1 hm1 hlt1
          go_wp2
          have hG : Grows fun W => Below w.heap.size w W ∧ Below w1.heap.size w1 W := fun W W' h1 h2 => ⟨h1.1.trans (h2.mono h1.1.size), h1.2.trans (h2.mono h1.2.size)⟩
          have hqp := HQP.out
          have hls := HLS.out
          have hk9 : k ≤ 9223372036854775807 := by omega
          obtain ⟨nn, hnn2⟩ : ∃ nn, nn = ks.length := ⟨_, rfl⟩
          refine w_lit (C := fun W => Below w.heap.size w W ∧ Below w1.heap.size w1 W) (by kernel_rfl) (by kernel_rfl) ⟨HB.out.trans ⟨rfl, rfl, rfl, Nat.le_refl _, fun _ _ => rfl⟩, ⟨rfl, rfl, rfl, Nat.le_refl _, fun _ _ => rfl⟩⟩ ?_
          refine w_value (PT p) (by kernel_rfl) (fun w hw => x_move _ _ _ _ _ _ _ _ rfl w) ?_
          simp only [Act.put, List.setIfInBounds_toArray, List.set_cons_succ, List.set_cons_zero]
          refine w_value (PT p) (by kernel_rfl) (fun w hw => x_nilCheck _ _ _ _ _ _ _ _ rfl w) ?_
          simp only [Act.put, List.setIfInBounds_toArray, List.set_cons_succ, List.set_cons_zero]
          refine w_value (PT p) (by kernel_rfl) (fun w hw => x_field0 _ _ _ _ _ _ _ _ rfl w) ?_
          simp only [Act.put, List.setIfInBounds_toArray, List.set_cons_succ, List.set_cons_zero]
          refine w_value (.int .i64 ko) (by kernel_rfl) (fun w hw => x_loadOp _ _ _ _ _ _ _ _ ko rfl w (hqp w hw.1 hw.2)) ?_
          simp only [Act.put, List.setIfInBounds_toArray, List.set_cons_succ, List.set_cons_zero]
          refine w_value (PT b) (by kernel_rfl) (fun w hw => x_move _ _ _ _ _ _ _ _ rfl w) ?_
          simp only [Act.put, List.setIfInBounds_toArray, List.set_cons_succ, List.set_cons_zero]
          refine w_value (PT b) (by kernel_rfl) (fun w hw => x_nilCheck _ _ _ _ _ _ _ _ rfl w) ?_
          simp only [Act.put, List.setIfInBounds_toArray, List.set_cons_succ, List.set_cons_zero]
          refine w_value (PT b) (by kernel_rfl) (fun w hw => x_field0 _ _ _ _ _ _ _ _ rfl w) ?_
          simp only [Act.put, List.setIfInBounds_toArray, List.set_cons_succ, List.set_cons_zero]
          refine w_value (.int .i64 (4 : Nat)) (by kernel_rfl) (fun w hw => x_loadOp _ _ _ _ _ _ _ _ 4 rfl w (HX.out w hw.1).1) ?_
          simp only [Act.put, List.setIfInBounds_toArray, List.set_cons_succ, List.set_cons_zero]
          refine w_value (.bool false) (by kernel_rfl) (fun w hw => x_eqOpB _ _ _ _ _ _ _ _ ko 4 false hne rfl rfl w) ?_
          simp only [Act.put, List.setIfInBounds_toArray, List.set_cons_succ, List.set_cons_zero]
          refine w_value (.bool false) (by kernel_rfl) (fun w hw => x_move _ _ _ _ _ _ _ _ rfl w) ?_
          simp only [Act.put, List.setIfInBounds_toArray, List.set_cons_succ, List.set_cons_zero]
          refine w_value (.int .i64 k) (by kernel_rfl) (fun w hw => x_move _ _ _ _ _ _ _ _ rfl w) ?_
          simp only [Act.put, List.setIfInBounds_toArray, List.set_cons_succ, List.set_cons_zero]
          refine w_value (.bool true) (by kernel_rfl) (fun w hw => (x_gtrInt _ _ _ _ _ _ _ _ k 0 rfl rfl w).trans (by rw [hkp])) ?_
          simp only [Act.put, List.setIfInBounds_toArray, List.set_cons_succ, List.set_cons_zero]
          refine w_value (.bool true) (by kernel_rfl) (fun w hw => x_move _ _ _ _ _ _ _ _ rfl w) ?_
          simp only [Act.put, List.setIfInBounds_toArray, List.set_cons_succ, List.set_cons_zero]
          refine w_value (PT b) (by kernel_rfl) (fun w hw => x_move _ _ _ _ _ _ _ _ rfl w) ?_
          simp only [Act.put, List.setIfInBounds_toArray, List.set_cons_succ, List.set_cons_zero]
          refine w_value (PT b) (by kernel_rfl) (fun w hw => x_nilCheck _ _ _ _ _ _ _ _ rfl w) ?_
          simp only [Act.put, List.setIfInBounds_toArray, List.set_cons_succ, List.set_cons_zero]
          refine w_value (.pointer (some ⟨b, 5, none⟩)) (by kernel_rfl) (fun w hw => x_field2 _ _ _ _ _ _ _ _ rfl w) ?_
          simp only [Act.put, List.setIfInBounds_toArray, List.set_cons_succ, List.set_cons_zero]
          refine w_value (.slice (some ⟨g, f, none⟩) ks.length c) (by kernel_rfl) (fun w hw => x_loadKids _ _ _ _ _ _ _ b 5 _ rfl w (HX.out w hw.1).2.2) ?_
          simp only [Act.put, List.setIfInBounds_toArray, List.set_cons_succ, List.set_cons_zero]
          refine w_value (.int .i64 k) (by kernel_rfl) (fun w hw => x_move _ _ _ _ _ _ _ _ rfl w) ?_
          simp only [Act.put, List.setIfInBounds_toArray, List.set_cons_succ, List.set_cons_zero]
          refine w_value (.int .i64 ((k - 1 : Nat) : Int)) (by kernel_rfl) (fun w hw => x_sub1 _ _ _ _ _ _ _ k rfl rfl hk0 hk9 w) ?_
          simp only [Act.put, List.setIfInBounds_toArray, List.set_cons_succ, List.set_cons_zero]
          refine w_value (.pointer (some ⟨g, f + (k - 1), none⟩)) (by kernel_rfl) (fun w hw => x_idxP _ _ _ _ _ _ _ _ g f ks.length c (k - 1) rfl rfl (by omega) w) ?_
          simp only [Act.put, List.setIfInBounds_toArray, List.set_cons_succ, List.set_cons_zero]
          refine w_value (PT p0) (by kernel_rfl) (fun w hw => x_loadP _ _ _ _ _ _ _ _ _ _ rfl w (HQ0.out w hw.2)) ?_
          simp only [Act.put, List.setIfInBounds_toArray, List.set_cons_succ, List.set_cons_zero]
          refine w_call hG 16 #[PT p0] (.string s0) (by kernel_rfl) (fun w => x_call1 _ _ _ _ _ _ _ _ _ _ rfl rfl (enters_of Tryd.func16 (by kernel_rfl) rfl) w) (fun w hw => HQA.out w hw.1 hw.2) ?_
          simp only [Act.put, List.setIfInBounds_toArray, List.set_cons_succ, List.set_cons_zero]
          refine w_value (PT p) (by kernel_rfl) (fun w hw => x_move _ _ _ _ _ _ _ _ rfl w) ?_
          simp only [Act.put, List.setIfInBounds_toArray, List.set_cons_succ, List.set_cons_zero]
          refine w_call hG 16 #[PT p] (.string s1) (by kernel_rfl) (fun w => x_call1 _ _ _ _ _ _ _ _ _ _ rfl rfl (enters_of Tryd.func16 (by kernel_rfl) rfl) w) (fun w hw => HQB.out w hw.1 hw.2) ?_
          simp only [Act.put, List.setIfInBounds_toArray, List.set_cons_succ, List.set_cons_zero]
          refine w_value (.bool false) (by kernel_rfl) (fun w hw => x_geqStr _ _ _ _ _ _ _ _ s0 s1 hls rfl rfl w) ?_
          simp only [Act.put, List.setIfInBounds_toArray, List.set_cons_succ, List.set_cons_zero]
          refine w_value (.bool false) (by kernel_rfl) (fun w hw => x_pick _ _ _ _ _ _ _ _ _ true (.bool false) (.bool false) rfl rfl rfl w) ?_
          simp only [Act.put, List.setIfInBounds_toArray, List.set_cons_succ, List.set_cons_zero]
          refine w_value (.bool false) (by kernel_rfl) (fun w hw => x_pick _ _ _ _ _ _ _ _ _ false (.bool true) (.bool false) rfl rfl rfl w) ?_
          simp only [Act.put, List.setIfInBounds_toArray, List.set_cons_succ, List.set_cons_zero]
          refine w_nil ?_
          intro W hW
          have HBX := hide hW.1
          clear hW hG hqp hls hnn2
          go_wp2
          refine ⟨⟨k + 1, n, by omega, by go_num, by go_num, HNE.out.symm, HBX⟩, by simp [intOf]; omega⟩
        · have hkp : decide ((0 : Int) < k) = false := by simp; omega
          go_wp2
          have hG : Grows fun W => Below w.heap.size w W ∧ Below w1.heap.size w1 W := fun W W' h1 h2 => ⟨h1.1.trans (h2.mono h1.1.size), h1.2.trans (h2.mono h1.2.size)⟩
          have hqp := HQP.out
          refine w_lit (C := fun W => Below w.heap.size w W ∧ Below w1.heap.size w1 W) (by kernel_rfl) (by kernel_rfl) ⟨HB.out.trans ⟨rfl, rfl, rfl, Nat.le_refl _, fun _ _ => rfl⟩, ⟨rfl, rfl, rfl, Nat.le_refl _, fun _ _ => rfl⟩⟩ ?_
          refine w_value (PT p) (by kernel_rfl) (fun w hw => x_move _ _ _ _ _ _ _ _ rfl w) ?_
          simp only [Act.put, List.setIfInBounds_toArray, List.set_cons_succ, List.set_cons_zero]
          refine w_value (PT p) (by kernel_rfl) (fun w hw => x_nilCheck _ _ _ _ _ _ _ _ rfl w) ?_
          simp only [Act.put, List.setIfInBounds_toArray, List.set_cons_succ, List.set_cons_zero]
          refine w_value (PT p) (by kernel_rfl) (fun w hw => x_field0 _ _ _ _ _ _ _ _ rfl w) ?_
          simp only [Act.put, List.setIfInBounds_toArray, List.set_cons_succ, List.set_cons_zero]
          refine w_value (.int .i64 ko) (by kernel_rfl) (fun w hw => x_loadOp _ _ _ _ _ _ _ _ ko rfl w (hqp w hw.1 hw.2)) ?_
          simp only [Act.put, List.setIfInBounds_toArray, List.set_cons_succ, List.set_cons_zero]
          refine w_value (PT b) (by kernel_rfl) (fun w hw => x_move _ _ _ _ _ _ _ _ rfl w) ?_
          simp only [Act.put, List.setIfInBounds_toArray, List.set_cons_succ, List.set_cons_zero]
          refine w_value (PT b) (by kernel_rfl) (fun w hw => x_nilCheck _ _ _ _ _ _ _ _ rfl w) ?_
          simp only [Act.put, List.setIfInBounds_toArray, List.set_cons_succ, List.set_cons_zero]
          refine w_value (PT b) (by kernel_rfl) (fun w hw => x_field0 _ _ _ _ _ _ _ _ rfl w) ?_
          simp only [Act.put, List.setIfInBounds_toArray, List.set_cons_succ, List.set_cons_zero]
          refine w_value (.int .i64 (4 : Nat)) (by kernel_rfl) (fun w hw => x_loadOp _ _ _ _ _ _ _ _ 4 rfl w (HX.out w hw.1).1) ?_
          simp only [Act.put, List.setIfInBounds_toArray, List.set_cons_succ, List.set_cons_zero]
          refine w_value (.bool false) (by kernel_rfl) (fun w hw => x_eqOpB _ _ _ _ _ _ _ _ ko 4 false hne rfl rfl w) ?_
          simp only [Act.put, List.setIfInBounds_toArray, List.set_cons_succ, List.set_cons_zero]
          refine w_value (.bool false) (by kernel_rfl) (fun w hw => x_move _ _ _ _ _ _ _ _ rfl w) ?_
          simp only [Act.put, List.setIfInBounds_toArray, List.set_cons_succ, List.set_cons_zero]
          refine w_value (.int .i64 k) (by kernel_rfl) (fun w hw => x_move _ _ _ _ _ _ _ _ rfl w) ?_
          simp only [Act.put, List.setIfInBounds_toArray, List.set_cons_succ, List.set_cons_zero]
          refine w_value (.bool false) (by kernel_rfl) (fun w hw => (x_gtrInt _ _ _ _ _ _ _ _ k 0 rfl rfl w).trans (by rw [hkp])) ?_
          simp only [Act.put, List.setIfInBounds_toArray, List.set_cons_succ, List.set_cons_zero]
          refine w_value (.bool false) (by kernel_rfl) (fun w hw => x_move _ _ _ _ _ _ _ _ rfl w) ?_
          simp only [Act.put, List.setIfInBounds_toArray, List.set_cons_succ, List.set_cons_zero]
          refine w_skip (by kernel_rfl) ?_
          simp only [Act.put, List.setIfInBounds_toArray, List.set_cons_succ, List.set_cons_zero]
          refine w_skip (by kernel_rfl) ?_
          simp only [Act.put, List.setIfInBounds_toArray, List.set_cons_succ, List.set_cons_zero]
          refine w_skip (by kernel_rfl) ?_
          simp only [Act.put, List.setIfInBounds_toArray, List.set_cons_succ, List.set_cons_zero]
          refine w_skip (by kernel_rfl) ?_
          simp only [Act.put, List.setIfInBounds_toArray, List.set_cons_succ, List.set_cons_zero]
          refine w_skip (by kernel_rfl) ?_
          simp only [Act.put, List.setIfInBounds_toArray, List.set_cons_succ, List.set_cons_zero]
          refine w_skip (by kernel_rfl) ?_
          simp only [Act.put, List.setIfInBounds_toArray, List.set_cons_succ, List.set_cons_zero]
          refine w_skip (by kernel_rfl) ?_
          simp only [Act.put, List.setIfInBounds_toArray, List.set_cons_succ, List.set_cons_zero]
          refine w_skip (by kernel_rfl) ?_
          simp only [Act.put, List.setIfInBounds_toArray, List.set_cons_succ, List.set_cons_zero]
          refine w_skip (by kernel_rfl) ?_
          simp only [Act.put, List.setIfInBounds_toArray, List.set_cons_succ, List.set_cons_zero]
          refine w_skip (by kernel_rfl) ?_
          simp only [Act.put, List.setIfInBounds_toArray, List.set_cons_succ, List.set_cons_zero]
          refine w_skip (by kernel_rfl) ?_
          simp only [Act.put, List.setIfInBounds_toArray, List.set_cons_succ, List.set_cons_zero]
          refine w_skip (by kernel_rfl) ?_
          simp only [Act.put, List.setIfInBounds_toArray, List.set_cons_succ, List.set_cons_zero]
          refine w_value (.bool false) (by kernel_rfl) (fun w hw => x_pick _ _ _ _ _ _ _ _ _ false undef (.bool false) rfl rfl rfl w) ?_
          simp only [Act.put, List.setIfInBounds_toArray, List.set_cons_succ, List.set_cons_zero]
          refine w_value (.bool false) (by kernel_rfl) (fun w hw => x_pick _ _ _ _ _ _ _ _ _ false (.bool true) (.bool false) rfl rfl rfl w) ?_
          simp only [Act.put, List.setIfInBounds_toArray, List.set_cons_succ, List.set_cons_zero]
          refine w_nil ?_
          intro W hW
          have HBX := hide hW.1
          clear hW hG hqp
          go_wp2
          refine ⟨⟨k + 1, n, by omega, by go_num, by go_num, HNE.out.symm, HBX⟩, by simp [intOf]; omega⟩
    · obtain rfl : k = ks.length := by omega
      clear g1
      have x0 := (HX.out wr HW.out).1
      have x5 := (HX.out wr HW.out).2.2
      rw [List.take_length] at hnn
      have hn1 : n ≤ 1 := by have := HF.out; omega
      have hd : decide ((2 : Int) ≤ ks.length) = true := by simp; omega
      have hd2 : decide (2 ≤ ks.length) = true := by simp; omega
      have hd3 : decide ((n : Int) ≤ 1) = true := by simp; omega
      have hd4 : decide (n ≤ 1) = true := by simp; omega
      clear hnn
      go_wp2
      go_ret
      exact ⟨rfl, HW.out⟩
set_option maxHeartbeats 4000000 in
theorem set5 (s : BitVec 256) (ks : List RE) (h2 : ks.length = 1) (hk : ∀ k ∈ ks, k.op ≠ 0 ∧ k.op ≠ 1 ∧ k.op ≠ 5) (hw : ∀ k ∈ ks, Wf k) (hcn : cntL ks ≤ 1000000) (ih : ∀ k ∈ ks, SetAt k) : SetAt (.mk 5 s ks) := by
  intro b w h hT
  obtain ⟨a, c, row, HX⟩ := h.see
  have HX : Hid (∀ W, Below w.heap.size w W → W.cell? ⟨b, 0, none⟩ = some (.int .i64 (5 : Nat)) ∧ (∀ j, j < 4 → W.cell? ⟨b, 1 + j, none⟩ = some (.int .u64 (wd s j))) ∧ W.cell? ⟨b, 5, none⟩ = some (.slice a ks.length c)) := HX
  have x5 := (HX.out w (Below.refl _ _)).2.2
  have HROW := hide row
  have HIH := hide ih
  have HTB := hide hT
  have HK := hide hk
  have HWF := hide hw



  obtain ⟨hn, -⟩ := row.at
  have hnc : ks.length ≤ 1000000 := by have := cntL_len ks; omega
  clear row h ih hT hk hw
  have HKL : Hid (∀ k ∈ ks, k.key.length ≤ 1099511627776) := fun k hk => by
    have e1 := key_len k
    obtain ⟨u, v, e⟩ := List.append_of_mem hk
    have e2 : cntL ks = cntL u + (k.cnt + cntL v) := by rw [e, cntL_append, cntL_cons]
    omega
  go_enter Tryd.func13, Tryd.ntmps13
  unfold PT
  go_wp2
  clear x5
  go_loopw [3, 14] (fun q i wr => ∃ (k n : Nat), k ≤ ks.length ∧ i = .int .i64 k ∧ q = .int .i64 n ∧ n = ((ks.take k).filter fun x => x.op == 2).length ∧ Hid (Below w.heap.size w wr)) (fun _ i _ => ks.length - (intOf i).toNat)
  case atStart => exact ⟨0, 0, by omega, rfl, rfl, rfl, Below.refl _ _⟩
  case round =>
    obtain ⟨k, n, hk1, rfl, rfl, hnn, HW⟩ := hrel
    obtain ⟨-, a', cap', e1, g1⟩ := (HROW.out.below HW.out).at
    obtain ⟨rfl, rfl⟩ : a = a' ∧ c = cap' := by cases e1; exact ⟨rfl, rfl⟩
    clear e1
    by_cases hlt : k < ks.length
    · have hkd : decide (k < ks.length) = true := by simp [hlt]
      obtain ⟨g, f, p, rfl, -, hc0, hr0⟩ := g1 k hlt
      have HM := hide (List.getElem_mem hlt)
      have hnk : n ≤ k := by
        rw [hnn]
        exact Nat.le_trans (List.length_filter_le _ _) (by rw [List.length_take]; omega)
      have HNT : Hid (((ks.take (k + 1)).filter fun x => x.op == 2).length = n + if (ks[k]).op = 2 then 1 else 0) := by
        show _ = _
        rw [List.take_succ_eq_append_getElem hlt, List.filter_append, List.length_append, ← hnn]
        congr 1
        by_cases h : (ks[k]).op = 2 <;> simp [h]
      have HC := hide (HIH.out _ (List.getElem_mem hlt) p wr hr0 (HTB.out.agree (Agree.of_all (K := fun _ => True) HW.out) trivial))
      have HR0 := hide hr0
      generalize ks[k] = kk at *
      clear g1 hr0 hnn
      obtain ⟨ko, hko⟩ : ∃ ko, ko = kk.op := ⟨_, rfl⟩
      have n0 : ((ko : Int) == 0) = false := beq_eq_false_iff_ne.2 (by have := HK.out kk HM.out; omega)
      have n1 : ((ko : Int) == 1) = false := beq_eq_false_iff_ne.2 (by have := HK.out kk HM.out; omega)
      have n5 : ((ko : Int) == 5) = false := beq_eq_false_iff_ne.2 (by have := HK.out kk HM.out; omega)
      have HKO := hide hko
      clear hko
      unfold PT at hc0 HC
      go_wp2_with fail
      refine HC.out.mono ?_
      rintro e w1 ⟨rfl, hb⟩
      have HB := hide (HW.out.trans (hb.mono HW.out.size))
      have hR1 := HR0.out.keep hb
      have y0 := hR1.cell0
      rw [← HKO.out] at y0
      have HR1 := hide hR1
      have x0 := (HX.out w1 HB.out).1
      have HBW := HB
      clear hb HC hc0 hR1 HW HR0
      by_cases h2k : ko = 2
      · have c2 : ((ko : Int) == 2) = true := beq_iff_eq.2 (by omega)
        have HNE : Hid (((ks.take (k + 1)).filter fun x => x.op == 2).length = n + 1) := by
          show _ = _
          rw [HNT.out, ← HKO.out]
          rw [if_pos h2k]
        clear h2k
        have HBX := HB
        go_wp2
        refine ⟨⟨k + 1, n + 1, by omega, by go_num, by go_num, HNE.out.symm, HBX⟩, by simp [intOf]; omega⟩
      · have c2 : ((ko : Int) == 2) = false := beq_eq_false_iff_ne.2 (by omega)
        have HNE : Hid (((ks.take (k + 1)).filter fun x => x.op == 2).length = n) := by
          show _ = _
          rw [HNT.out, ← HKO.out]
          rw [if_neg h2k]; rfl
        clear h2k
        have HBX := HB
        go_wp2
        refine ⟨⟨k + 1, n, by omega, by go_num, by go_num, HNE.out.symm, HBX⟩, by simp [intOf]; omega⟩
    · obtain rfl : k = ks.length := by omega
      clear g1
      have x0 := (HX.out wr HW.out).1
      have x5 := (HX.out wr HW.out).2.2
      rw [List.take_length] at hnn
      rw [h2] at x5
      go_wp2
      go_ret
      exact ⟨rfl, HW.out⟩
set_option maxHeartbeats 4000000 in
theorem set6 (s : BitVec 256) (ks : List RE) (h2 : 2 ≤ ks.length) (hk : ∀ k ∈ ks, k.op ≠ 0 ∧ k.op ≠ 6) (hp : ks.Pairwise ltK) (hf : (ks.filter fun k => k.op == 2).length ≤ 1) (hw : ∀ k ∈ ks, Wf k) (hcn : cntL ks ≤ 1000000) (ih : ∀ k ∈ ks, SetAt k) : SetAt (.mk 6 s ks) := by
  intro b w h hT
  obtain ⟨a, c, row, HX⟩ := h.see
  have HX : Hid (∀ W, Below w.heap.size w W → W.cell? ⟨b, 0, none⟩ = some (.int .i64 (6 : Nat)) ∧ (∀ j, j < 4 → W.cell? ⟨b, 1 + j, none⟩ = some (.int .u64 (wd s j))) ∧ W.cell? ⟨b, 5, none⟩ = some (.slice a ks.length c)) := HX
  have x5 := (HX.out w (Below.refl _ _)).2.2
  have HROW := hide row
  have HIH := hide ih
  have HTB := hide hT
  have HK := hide hk
  have HWF := hide hw
  have HP := hide hp
  have HF := hide hf

  obtain ⟨hn, -⟩ := row.at
  have hnc : ks.length ≤ 1000000 := by have := cntL_len ks; omega
  clear row h ih hT hk hw hp hf
  have HKL : Hid (∀ k ∈ ks, k.key.length ≤ 1099511627776) := fun k hk => by
    have e1 := key_len k
    obtain ⟨u, v, e⟩ := List.append_of_mem hk
    have e2 : cntL ks = cntL u + (k.cnt + cntL v) := by rw [e, cntL_append, cntL_cons]
    omega
  go_enter Tryd.func13, Tryd.ntmps13
  unfold PT
  go_wp2
  clear x5
  go_loopw [3, 14] (fun q i wr => ∃ (k n : Nat), k ≤ ks.length ∧ i = .int .i64 k ∧ q = .int .i64 n ∧ n = ((ks.take k).filter fun x => x.op == 2).length ∧ Hid (Below w.heap.size w wr)) (fun _ i _ => ks.length - (intOf i).toNat)
  case atStart => exact ⟨0, 0, by omega, rfl, rfl, rfl, Below.refl _ _⟩
  case round =>
    obtain ⟨k, n, hk1, rfl, rfl, hnn, HW⟩ := hrel
    obtain ⟨-, a', cap', e1, g1⟩ := (HROW.out.below HW.out).at
    obtain ⟨rfl, rfl⟩ : a = a' ∧ c = cap' := by cases e1; exact ⟨rfl, rfl⟩
    clear e1
    by_cases hlt : k < ks.length
    · have hkd : decide (k < ks.length) = true := by simp [hlt]
      obtain ⟨g, f, p, rfl, -, hc0, hr0⟩ := g1 k hlt
      have HM := hide (List.getElem_mem hlt)
      have hnk : n ≤ k := by
        rw [hnn]
        exact Nat.le_trans (List.length_filter_le _ _) (by rw [List.length_take]; omega)
      have HNT : Hid (((ks.take (k + 1)).filter fun x => x.op == 2).length = n + if (ks[k]).op = 2 then 1 else 0) := by
        show _ = _
        rw [List.take_succ_eq_append_getElem hlt, List.filter_append, List.length_append, ← hnn]
        congr 1
        by_cases h : (ks[k]).op = 2 <;> simp [h]
      have HC := hide (HIH.out _ (List.getElem_mem hlt) p wr hr0 (HTB.out.agree (Agree.of_all (K := fun _ => True) HW.out) trivial))
      have HR0 := hide hr0
      have HPP : Hid (∀ hk0 : 0 < k, ∃ p0, ∃ x0, wr.cell? ⟨g, f + (k - 1), none⟩ = some (PT p0) ∧ ReAt wr p0 x0 ∧ x0 ∈ ks ∧ ltK x0 ks[k]) := fun hk0 => by
        obtain ⟨g', f', p0, e2, -, hc1, hr1⟩ := g1 (k - 1) (by omega)
        obtain ⟨rfl, rfl⟩ : g = g' ∧ f = f' := by cases e2; exact ⟨rfl, rfl⟩
        exact ⟨p0, ks[k - 1], hc1, hr1, List.getElem_mem _, List.pairwise_iff_getElem.1 HP.out (k - 1) k (by omega) hlt (by omega)⟩
      generalize ks[k] = kk at *
      clear g1 hr0 hnn
      obtain ⟨ko, hko⟩ : ∃ ko, ko = kk.op := ⟨_, rfl⟩
      have n0 : ((ko : Int) == 0) = false := beq_eq_false_iff_ne.2 (by have := HK.out kk HM.out; omega)
      have hne : ((ko : Int) == (6 : Nat)) = false := beq_eq_false_iff_ne.2 (by have := HK.out kk HM.out; omega)
      have HKO := hide hko
      clear hko
      unfold PT at hc0 HC
      go_wp2_with fail
      refine HC.out.mono ?_
      rintro e w1 ⟨rfl, hb⟩
      have HB := hide (HW.out.trans (hb.mono HW.out.size))
      have hR1 := HR0.out.keep hb
      have y0 := hR1.cell0
      rw [← HKO.out] at y0
      have HR1 := hide hR1
      have x0 := (HX.out w1 HB.out).1
      have HBW := HB
      have HPQ : Hid (∀ hk0 : 0 < k, ∃ p0, ∃ x0, w1.cell? ⟨g, f + (k - 1), none⟩ = some (PT p0) ∧ ReAt w1 p0 x0 ∧ x0 ∈ ks ∧ ltK x0 kk) := fun hk0 => by
        obtain ⟨p0, x0, h1, h2, h3, h4⟩ := HPP.out hk0
        exact ⟨p0, x0, (World.cell?_of_block (w := wr) (hb.block _ (World.block_lt_of_cell? _ _ h1))).trans h1, h2.keep hb, h3, h4⟩
      clear hb HC hc0 hR1 HW HR0 HPP
      by_cases h2k : ko = 2
      · have c2 : ((ko : Int) == 2) = true := beq_iff_eq.2 (by omega)
        have HNE : Hid (((ks.take (k + 1)).filter fun x => x.op == 2).length = n + 1) := by
          show _ = _
          rw [HNT.out, ← HKO.out]
          rw [if_pos h2k]
        clear h2k
        have HQP : Hid (∀ W, Below w.heap.size w W → Below w1.heap.size w1 W → W.cell? ⟨p, 0, none⟩ = some (.int .i64 ko)) := fun W _ hW => by rw [HKO.out]; exact (HR1.out.keep hW).cell0
        by_cases hk0 : 0 < k
        · have hkp : decide ((0 : Int) < k) = true := by simp; omega
          obtain ⟨p0, x0, hc1, hr1, hm1, hlt1⟩ := HPQ.out hk0
          obtain ⟨s0, hs0⟩ : ∃ s0, s0 = strB x0.key := ⟨_, rfl⟩
          obtain ⟨s1, hs1⟩ : ∃ s1, s1 = strB kk.key := ⟨_, rfl⟩
          have HLS : Hid (Op.bytesLess s0.toList s1.toList = true) := by rw [hs0, hs1]; exact key_less (HWF.out _ hm1).k (HWF.out _ HM.out).k hlt1
          have HTW : Hid (∀ W, Below w.heap.size w W → TabAt W) := fun W hW => HTB.out.agree (Agree.of_all (K := fun _ => True) hW) trivial
          have HQA : Hid (∀ W, Below w.heap.size w W → Below w1.heap.size w1 W → Calls Tryd.prog 16 #[PT p0] W fun e w' => e = .returned (.string s0) ∧ Below W.heap.size W w') := fun W hW hW1 => by
            rw [hs0]; exact key_any x0 p0 W (HWF.out _ hm1).k (hr1.keep hW1) (HKL.out _ hm1) (HTW.out W hW)
          have HQB : Hid (∀ W, Below w.heap.size w W → Below w1.heap.size w1 W → Calls Tryd.prog 16 #[PT p] W fun e w' => e = .returned (.string s1) ∧ Below W.heap.size W w') := fun W hW hW1 => by
            rw [hs1]; exact key_any kk p W (HWF.out _ HM.out).k (HR1.out.keep hW1) (HKL.out _ HM.out) (HTW.out W hW)
          have HQ0 : Hid (∀ W, Below w1.heap.size w1 W → W.cell? ⟨g, f + (k - 1), none⟩ = some (PT p0)) := fun W hW => (World.cell?_of_block (w := w1) (hW.block _ (World.block_lt_of_cell? _ _ hc1))).trans hc1
          clear hs0 hs1 hc1 hr1 hm1 hlt1
          go_wp2
          have hG : Grows fun W => Below w.heap.size w W ∧ Below w1.heap.size w1 W := fun W W' h1 h2 => ⟨h1.1.trans (h2.mono h1.1.size), h1.2.trans (h2.mono h1.2.size)⟩
          have hqp := HQP.out
          have hls := HLS.out
          have hk9 : k ≤ 9223372036854775807 := by omega
          obtain ⟨nn, hnn2⟩ : ∃ nn, nn = ks.length := ⟨_, rfl⟩
          refine w_lit (C := fun W => Below w.heap.size w W ∧ Below w1.heap.size w1 W) (by kernel_rfl) (by kernel_rfl) ⟨HB.out.trans ⟨rfl, rfl, rfl, Nat.le_refl _, fun _ _ => rfl⟩, ⟨rfl, rfl, rfl, Nat.le_refl _, fun _ _ => rfl⟩⟩ ?_
          refine w_value (PT p) (by kernel_rfl) (fun w hw => x_move _ _ _ _ _ _ _ _ rfl w) ?_
          simp only [Act.put, List.setIfInBounds_toArray, List.set_cons_succ, List.set_cons_zero]
          refine w_value (PT p) (by kernel_rfl) (fun w hw => x_nilCheck _ _ _ _ _ _ _ _ rfl w) ?_
          simp only [Act.put, List.setIfInBounds_toArray, List.set_cons_succ, List.set_cons_zero]
          refine w_value (PT p) (by kernel_rfl) (fun w hw => x_field0 _ _ _ _ _ _ _ _ rfl w) ?_
          simp only [Act.put, List.setIfInBounds_toArray, List.set_cons_succ, List.set_cons_zero]
          refine w_value (.int .i64 ko) (by kernel_rfl) (fun w hw => x_loadOp _ _ _ _ _ _ _ _ ko rfl w (hqp w hw.1 hw.2)) ?_
          simp only [Act.put, List.setIfInBounds_toArray, List.set_cons_succ, List.set_cons_zero]
          refine w_value (PT b) (by kernel_rfl) (fun w hw => x_move _ _ _ _ _ _ _ _ rfl w) ?_
          simp only [Act.put, List.setIfInBounds_toArray, List.set_cons_succ, List.set_cons_zero]
          refine w_value (PT b) (by kernel_rfl) (fun w hw => x_nilCheck _ _ _ _ _ _ _ _ rfl w) ?_
          simp only [Act.put, List.setIfInBounds_toArray, List.set_cons_succ, List.set_cons_zero]
          refine w_value (PT b) (by kernel_rfl) (fun w hw => x_field0 _ _ _ _ _ _ _ _ rfl w) ?_
          simp only [Act.put, List.setIfInBounds_toArray, List.set_cons_succ, List.set_cons_zero]
          refine w_value (.int .i64 (6 : Nat)) (by kernel_rfl) (fun w hw => x_loadOp _ _ _ _ _ _ _ _ 6 rfl w (HX.out w hw.1).1) ?_
          simp only [Act.put, List.setIfInBounds_toArray, List.set_cons_succ, List.set_cons_zero]
          refine w_value (.bool false) (by kernel_rfl) (fun w hw => x_eqOpB _ _ _ _ _ _ _ _ ko 6 false hne rfl rfl w) ?_
          simp only [Act.put, List.setIfInBounds_toArray, List.set_cons_succ, List.set_cons_zero]
          refine w_value (.bool false) (by kernel_rfl) (fun w hw => x_move _ _ _ _ _ _ _ _ rfl w) ?_
          simp only [Act.put, List.setIfInBounds_toArray, List.set_cons_succ, List.set_cons_zero]
          refine w_value (.int .i64 k) (by kernel_rfl) (fun w hw => x_move _ _ _ _ _ _ _ _ rfl w) ?_
          simp only [Act.put, List.setIfInBounds_toArray, List.set_cons_succ, List.set_cons_zero]
          refine w_value (.bool true) (by kernel_rfl) (fun w hw => (x_gtrInt _ _ _ _ _ _ _ _ k 0 rfl rfl w).trans (by rw [hkp])) ?_
          simp only [Act.put, List.setIfInBounds_toArray, List.set_cons_succ, List.set_cons_zero]
          refine w_value (.bool true) (by kernel_rfl) (fun w hw => x_move _ _ _ _ _ _ _ _ rfl w) ?_
          simp only [Act.put, List.setIfInBounds_toArray, List.set_cons_succ, List.set_cons_zero]
          refine w_value (PT b) (by kernel_rfl) (fun w hw => x_move _ _ _ _ _ _ _ _ rfl w) ?_
          simp only [Act.put, List.setIfInBounds_toArray, List.set_cons_succ, List.set_cons_zero]
          refine w_value (PT b) (by kernel_rfl) (fun w hw => x_nilCheck _ _ _ _ _ _ _ _ rfl w) ?_
          simp only [Act.put, List.setIfInBounds_toArray, List.set_cons_succ, List.set_cons_zero]
          refine w_value (.pointer (some ⟨b, 5, none⟩)) (by kernel_rfl) (fun w hw => x_field2 _ _ _ _ _ _ _ _ rfl w) ?_
          simp only [Act.put, List.setIfInBounds_toArray, List.set_cons_succ, List.set_cons_zero]
          refine w_value (.slice (some ⟨g, f, none⟩) ks.length c) (by kernel_rfl) (fun w hw => x_loadKids _ _ _ _ _ _ _ b 5 _ rfl w (HX.out w hw.1).2.2) ?_
          simp only [Act.put, List.setIfInBounds_toArray, List.set_cons_succ, List.set_cons_zero]
          refine w_value (.int .i64 k) (by kernel_rfl) (fun w hw => x_move _ _ _ _ _ _ _ _ rfl w) ?_
          simp only [Act.put, List.setIfInBounds_toArray, List.set_cons_succ, List.set_cons_zero]
          refine w_value (.int .i64 ((k - 1 : Nat) : Int)) (by kernel_rfl) (fun w hw => x_sub1 _ _ _ _ _ _ _ k rfl rfl hk0 hk9 w) ?_
          simp only [Act.put, List.setIfInBounds_toArray, List.set_cons_succ, List.set_cons_zero]
          refine w_value (.pointer (some ⟨g, f + (k - 1), none⟩)) (by kernel_rfl) (fun w hw => x_idxP _ _ _ _ _ _ _ _ g f ks.length c (k - 1) rfl rfl (by omega) w) ?_
          simp only [Act.put, List.setIfInBounds_toArray, List.set_cons_succ, List.set_cons_zero]
          refine w_value (PT p0) (by kernel_rfl) (fun w hw => x_loadP _ _ _ _ _ _ _ _ _ _ rfl w (HQ0.out w hw.2)) ?_
          simp only [Act.put, List.setIfInBounds_toArray, List.set_cons_succ, List.set_cons_zero]
          refine w_call hG 16 #[PT p0] (.string s0) (by kernel_rfl) (fun w => x_call1 _ _ _ _ _ _ _ _ _ _ rfl rfl (enters_of Tryd.func16 (by kernel_rfl) rfl) w) (fun w hw => HQA.out w hw.1 hw.2) ?_
          simp only [Act.put, List.setIfInBounds_toArray, List.set_cons_succ, List.set_cons_zero]
          refine w_value (PT p) (by kernel_rfl) (fun w hw => x_move _ _ _ _ _ _ _ _ rfl w) ?_
          simp only [Act.put, List.setIfInBounds_toArray, List.set_cons_succ, List.set_cons_zero]
          refine w_call hG 16 #[PT p] (.string s1) (by kernel_rfl) (fun w => x_call1 _ _ _ _ _ _ _ _ _ _ rfl rfl (enters_of Tryd.func16 (by kernel_rfl) rfl) w) (fun w hw => HQB.out w hw.1 hw.2) ?_
          simp only [Act.put, List.setIfInBounds_toArray, List.set_cons_succ, List.set_cons_zero]
          refine w_value (.bool false) (by kernel_rfl) (fun w hw => x_geqStr _ _ _ _ _ _ _ _ s0 s1 hls rfl rfl w) ?_
          simp only [Act.put, List.setIfInBounds_toArray, List.set_cons_succ, List.set_cons_zero]
          refine w_value (.bool false) (by kernel_rfl) (fun w hw => x_pick _ _ _ _ _ _ _ _ _ true (.bool false) (.bool false) rfl rfl rfl w) ?_
          simp only [Act.put, List.setIfInBounds_toArray, List.set_cons_succ, List.set_cons_zero]
          refine w_value (.bool false) (by kernel_rfl) (fun w hw => x_pick _ _ _ _ _ _ _ _ _ false (.bool true) (.bool false) rfl rfl rfl w) ?_
          simp only [Act.put, List.setIfInBounds_toArray, List.set_cons_succ, List.set_cons_zero]
          refine w_nil ?_
          intro W hW
          have HBX := hide hW.1
          clear hW hG hqp hls hnn2
          go_wp2
          refine ⟨⟨k + 1, n + 1, by omega, by go_num, by go_num, HNE.out.symm, HBX⟩, by simp [intOf]; omega⟩
        · have hkp : decide ((0 : Int) < k) = false := by simp; omega
          go_wp2
          have hG : Grows fun W => Below w.heap.size w W ∧ Below w1.heap.size w1 W := fun W W' h1 h2 => ⟨h1.1.trans (h2.mono h1.1.size), h1.2.trans (h2.mono h1.2.size)⟩
          have hqp := HQP.out
          refine w_lit (C := fun W => Below w.heap.size w W ∧ Below w1.heap.size w1 W) (by kernel_rfl) (by kernel_rfl) ⟨HB.out.trans ⟨rfl, rfl, rfl, Nat.le_refl _, fun _ _ => rfl⟩, ⟨rfl, rfl, rfl, Nat.le_refl _, fun _ _ => rfl⟩⟩ ?_
          refine w_value (PT p) (by kernel_rfl) (fun w hw => x_move _ _ _ _ _ _ _ _ rfl w) ?_
          simp only [Act.put, List.setIfInBounds_toArray, List.set_cons_succ, List.set_cons_zero]
          refine w_value (PT p) (by kernel_rfl) (fun w hw => x_nilCheck _ _ _ _ _ _ _ _ rfl w) ?_
          simp only [Act.put, List.setIfInBounds_toArray, List.set_cons_succ, List.set_cons_zero]
          refine w_value (PT p) (by kernel_rfl) (fun w hw => x_field0 _ _ _ _ _ _ _ _ rfl w) ?_
          simp only [Act.put, List.setIfInBounds_toArray, List.set_cons_succ, List.set_cons_zero]
          refine w_value (.int .i64 ko) (by kernel_rfl) (fun w hw => x_loadOp _ _ _ _ _ _ _ _ ko rfl w (hqp w hw.1 hw.2)) ?_
          simp only [Act.put, List.setIfInBounds_toArray, List.set_cons_succ, List.set_cons_zero]
          refine w_value (PT b) (by kernel_rfl) (fun w hw => x_move _ _ _ _ _ _ _ _ rfl w) ?_
          simp only [Act.put, List.setIfInBounds_toArray, List.set_cons_succ, List.set_cons_zero]
          refine w_value (PT b) (by kernel_rfl) (fun w hw => x_nilCheck _ _ _ _ _ _ _ _ rfl w) ?_
          simp only [Act.put, List.setIfInBounds_toArray, List.set_cons_succ, List.set_cons_zero]
          refine w_value (PT b) (by kernel_rfl) (fun w hw => x_field0 _ _ _ _ _ _ _ _ rfl w) ?_
          simp only [Act.put, List.setIfInBounds_toArray, List.set_cons_succ, List.set_cons_zero]
          refine w_value (.int .i64 (6 : Nat)) (by kernel_rfl) (fun w hw => x_loadOp _ _ _ _ _ _ _ _ 6 rfl w (HX.out w hw.1).1) ?_
          simp only [Act.put, List.setIfInBounds_toArray, List.set_cons_succ, List.set_cons_zero]
          refine w_value (.bool false) (by kernel_rfl) (fun w hw => x_eqOpB _ _ _ _ _ _ _ _ ko 6 false hne rfl rfl w) ?_
          simp only [Act.put, List.setIfInBounds_toArray, List.set_cons_succ, List.set_cons_zero]
          refine w_value (.bool false) (by kernel_rfl) (fun w hw => x_move _ _ _ _ _ _ _ _ rfl w) ?_
          simp only [Act.put, List.setIfInBounds_toArray, List.set_cons_succ, List.set_cons_zero]
          refine w_value (.int .i64 k) (by kernel_rfl) (fun w hw => x_move _ _ _ _ _ _ _ _ rfl w) ?_
          simp only [Act.put, List.setIfInBounds_toArray, List.set_cons_succ, List.set_cons_zero]
          refine w_value (.bool false) (by kernel_rfl) (fun w hw => (x_gtrInt _ _ _ _ _ _ _ _ k 0 rfl rfl w).trans (by rw [hkp])) ?_
          simp only [Act.put, List.setIfInBounds_toArray, List.set_cons_succ, List.set_cons_zero]
          refine w_value (.bool false) (by kernel_rfl) (fun w hw => x_move _ _ _ _ _ _ _ _ rfl w) ?_
          simp only [Act.put, List.setIfInBounds_toArray, List.set_cons_succ, List.set_cons_zero]
          refine w_skip (by kernel_rfl) ?_
          simp only [Act.put, List.setIfInBounds_toArray, List.set_cons_succ, List.set_cons_zero]
          refine w_skip (by kernel_rfl) ?_
          simp only [Act.put, List.setIfInBounds_toArray, List.set_cons_succ, List.set_cons_zero]
          refine w_skip (by kernel_rfl) ?_
          simp only [Act.put, List.setIfInBounds_toArray, List.set_cons_succ, List.set_cons_zero]
          refine w_skip (by kernel_rfl) ?_
          simp only [Act.put, List.setIfInBounds_toArray, List.set_cons_succ, List.set_cons_zero]
          refine w_skip (by kernel_rfl) ?_
          simp only [Act.put, List.setIfInBounds_toArray, List.set_cons_succ, List.set_cons_zero]
          refine w_skip (by kernel_rfl) ?_
          simp only [Act.put, List.setIfInBounds_toArray, List.set_cons_succ, List.set_cons_zero]
          refine w_skip (by kernel_rfl) ?_
          simp only [Act.put, List.setIfInBounds_toArray, List.set_cons_succ, List.set_cons_zero]
          refine w_skip (by kernel_rfl) ?_
          simp only [Act.put, List.setIfInBounds_toArray, List.set_cons_succ, List.set_cons_zero]
          refine w_skip (by kernel_rfl) ?_
          simp only [Act.put, List.setIfInBounds_toArray, List.set_cons_succ, List.set_cons_zero]
          refine w_skip (by kernel_rfl) ?_
          simp only [Act.put, List.setIfInBounds_toArray, List.set_cons_succ, List.set_cons_zero]
          refine w_skip (by kernel_rfl) ?_
          simp only [Act.put, List.setIfInBounds_toArray, List.set_cons_succ, List.set_cons_zero]
          refine w_skip (by kernel_rfl) ?_
          simp only [Act.put, List.setIfInBounds_toArray, List.set_cons_succ, List.set_cons_zero]
          refine w_value (.bool false) (by kernel_rfl) (fun w hw => x_pick _ _ _ _ _ _ _ _ _ false undef (.bool false) rfl rfl rfl w) ?_
          simp only [Act.put, List.setIfInBounds_toArray, List.set_cons_succ, List.set_cons_zero]
          refine w_value (.bool false) (by kernel_rfl) (fun w hw => x_pick _ _ _ _ _ _ _ _ _ false (.bool true) (.bool false) rfl rfl rfl w) ?_
          simp only [Act.put, List.setIfInBounds_toArray, List.set_cons_succ, List.set_cons_zero]
          refine w_nil ?_
          intro W hW
          have HBX := hide hW.1
          clear hW hG hqp
          go_wp2
          refine ⟨⟨k + 1, n + 1, by omega, by go_num, by go_num, HNE.out.symm, HBX⟩, by simp [intOf]; omega⟩
      · have c2 : ((ko : Int) == 2) = false := beq_eq_false_iff_ne.2 (by omega)
        have HNE : Hid (((ks.take (k + 1)).filter fun x => x.op == 2).length = n) := by
          show _ = _
          rw [HNT.out, ← HKO.out]
          rw [if_neg h2k]; rfl
        clear h2k
        have HQP : Hid (∀ W, Below w.heap.size w W → Below w1.heap.size w1 W → W.cell? ⟨p, 0, none⟩ = some (.int .i64 ko)) := fun W _ hW => by rw [HKO.out]; exact (HR1.out.keep hW).cell0
        by_cases hk0 : 0 < k
        · have hkp : decide ((0 : Int) < k) = true := by simp; omega
          obtain ⟨p0, x0, hc1, hr1, hm1, hlt1⟩ := HPQ.out hk0
          obtain ⟨s0, hs0⟩ : ∃ s0, s0 = strB x0.key := ⟨_, rfl⟩
          obtain ⟨s1, hs1⟩ : ∃ s1, s1 = strB kk.key := ⟨_, rfl⟩
          have HLS : Hid (Op.bytesLess s0.toList s1.toList = true) := by rw [hs0, hs1]; exact key_less (HWF.out _ hm1).k (HWF.out _ HM.out).k hlt1
          have HTW : Hid (∀ W, Below w.heap.size w W → TabAt W) := fun W hW => HTB.out.agree (Agree.of_all (K := fun _ => True) hW) trivial
          have HQA : Hid (∀ W, Below w.heap.size w W → Below w1.heap.size w1 W → Calls Tryd.prog 16 #[PT p0] W fun e w' => e = .returned (.string s0) ∧ Below W.heap.size W w') := fun W hW hW1 => by
            rw [hs0]; exact key_any x0 p0 W (HWF.out _ hm1).k (hr1.keep hW1) (HKL.out _ hm1) (HTW.out W hW)
          have HQB : Hid (∀ W, Below w.heap.size w W → Below w1.heap.size w1 W → Calls Tryd.prog 16 #[PT p] W fun e w' => e = .returned (.string s1) ∧ Below W.heap.size W w') := fun W hW hW1 => by
            rw [hs1]; exact key_any kk p W (HWF.out _ HM.out).k (HR1.out.keep hW1) (HKL.out _ HM.out) (HTW.out W hW)
          have HQ0 : Hid (∀ W, Below w1.heap.size w1 W → W.cell? ⟨g, f + (k - 1), none⟩ = some (PT p0)) := fun W hW => (World.cell?_of_block (w := w1) (hW.block _ (World.block_lt_of_cell? _ _ hc1))).trans hc1
          clear hs0 hs1 hc1 hr1 hm1 hlt1
          go_wp2
          have hG : Grows fun W => Below w.heap.size w W ∧ Below w1.heap.size w1 W := fun W W' h1 h2 => ⟨h1.1.trans (h2.mono h1.1.size), h1.2.trans (h2.mono h1.2.size)⟩
          have hqp := HQP.out
          have hls := HLS.out
          have hk9 : k ≤ 9223372036854775807 := by omega
          obtain ⟨nn, hnn2⟩ : ∃ nn, nn = ks.length := ⟨_, rfl⟩
          refine w_lit (C := fun W => Below w.heap.size w W ∧ Below w1.heap.size w1 W) (by kernel_rfl) (by kernel_rfl) ⟨HB.out.trans ⟨rfl, rfl, rfl, Nat.le_refl _, fun _ _ => rfl⟩, ⟨rfl, rfl, rfl, Nat.le_refl _, fun _ _ => rfl⟩⟩ ?_
          refine w_value (PT p) (by kernel_rfl) (fun w hw => x_move _ _ _ _ _ _ _ _ rfl w) ?_
          simp only [Act.put, List.setIfInBounds_toArray, List.set_cons_succ, List.set_cons_zero]
          refine w_value (PT p) (by kernel_rfl) (fun w hw => x_nilCheck _ _ _ _ _ _ _ _ rfl w) ?_
          simp only [Act.put, List.setIfInBounds_toArray, List.set_cons_succ, List.set_cons_zero]
          refine w_value (PT p) (by kernel_rfl) (fun w hw => x_field0 _ _ _ _ _ _ _ _ rfl w) ?_
          simp only [Act.put, List.setIfInBounds_toArray, List.set_cons_succ, List.set_cons_zero]
          refine w_value (.int .i64 ko) (by kernel_rfl) (fun w hw => x_loadOp _ _ _ _ _ _ _ _ ko rfl w (hqp w hw.1 hw.2)) ?_
          simp only [Act.put, List.setIfInBounds_toArray, List.set_cons_succ, List.set_cons_zero]
          refine w_value (PT b) (by kernel_rfl) (fun w hw => x_move _ _ _ _ _ _ _ _ rfl w) ?_
          simp only [Act.put, List.setIfInBounds_toArray, List.set_cons_succ, List.set_cons_zero]
          refine w_value (PT b) (by kernel_rfl) (fun w hw => x_nilCheck _ _ _ _ _ _ _ _ rfl w) ?_
          simp only [Act.put, List.setIfInBounds_toArray, List.set_cons_succ, List.set_cons_zero]
          refine w_value (PT b) (by kernel_rfl) (fun w hw => x_field0 _ _ _ _ _ _ _ _ rfl w) ?_
          simp only [Act.put, List.setIfInBounds_toArray, List.set_cons_succ, List.set_cons_zero]
          refine w_value (.int .i64 (6 : Nat)) (by kernel_rfl) (fun w hw => x_loadOp _ _ _ _ _ _ _ _ 6 rfl w (HX.out w hw.1).1) ?_
          simp only [Act.put, List.setIfInBounds_toArray, List.set_cons_succ, List.set_cons_zero]
          refine w_value (.bool false) (by kernel_rfl) (fun w hw => x_eqOpB _ _ _ _ _ _ _ _ ko 6 false hne rfl rfl w) ?_
          simp only [Act.put, List.setIfInBounds_toArray, List.set_cons_succ, List.set_cons_zero]
          refine w_value (.bool false) (by kernel_rfl) (fun w hw => x_move _ _ _ _ _ _ _ _ rfl w) ?_
          simp only [Act.put, List.setIfInBounds_toArray, List.set_cons_succ, List.set_cons_zero]
          refine w_value (.int .i64 k) (by kernel_rfl) (fun w hw => x_move _ _ _ _ _ _ _ _ rfl w) ?_
          simp only [Act.put, List.setIfInBounds_toArray, List.set_cons_succ, List.set_cons_zero]
          refine w_value (.bool true) (by kernel_rfl) (fun w hw => (x_gtrInt _ _ _ _ _ _ _ _ k 0 rfl rfl w).trans (by rw [hkp])) ?_
          simp only [Act.put, List.setIfInBounds_toArray, List.set_cons_succ, List.set_cons_zero]
          refine w_value (.bool true) (by kernel_rfl) (fun w hw => x_move _ _ _ _ _ _ _ _ rfl w) ?_
          simp only [Act.put, List.setIfInBounds_toArray, List.set_cons_succ, List.set_cons_zero]
          refine w_value (PT b) (by kernel_rfl) (fun w hw => x_move _ _ _ _ _ _ _ _ rfl w) ?_
          simp only [Act.put, List.setIfInBounds_toArray, List.set_cons_succ, List.set_cons_zero]
          refine w_value (PT b) (by kernel_rfl) (fun w hw => x_nilCheck _ _ _ _ _ _ _ _ rfl w) ?_
          simp only [Act.put, List.setIfInBounds_toArray, List.set_cons_succ, List.set_cons_zero]
          refine w_value (.pointer (some ⟨b, 5, none⟩)) (by kernel_rfl) (fun w hw => x_field2 _ _ _ _ _ _ _ _ rfl w) ?_
          simp only [Act.put, List.setIfInBounds_toArray, List.set_cons_succ, List.set_cons_zero]
          refine w_value (.slice (some ⟨g, f, none⟩) ks.length c) (by kernel_rfl) (fun w hw => x_loadKids _ _ _ _ _ _ _ b 5 _ rfl w (HX.out w hw.1).2.2) ?_
          simp only [Act.put, List.setIfInBounds_toArray, List.set_cons_succ, List.set_cons_zero]
          refine w_value (.int .i64 k) (by kernel_rfl) (fun w hw => x_move _ _ _ _ _ _ _ _ rfl w) ?_
          simp only [Act.put, List.setIfInBounds_toArray, List.set_cons_succ, List.set_cons_zero]
          refine w_value (.int .i64 ((k - 1 : Nat) : Int)) (by kernel_rfl) (fun w hw => x_sub1 _ _ _ _ _ _ _ k rfl rfl hk0 hk9 w) ?_
          simp only [Act.put, List.setIfInBounds_toArray, List.set_cons_succ, List.set_cons_zero]
          refine w_value (.pointer (some ⟨g, f + (k - 1), none⟩)) (by kernel_rfl) (fun w hw => x_idxP _ _ _ _ _ _ _ _ g f ks.length c (k - 1) rfl rfl (by omega) w) ?_
          simp only [Act.put, List.setIfInBounds_toArray, List.set_cons_succ, List.set_cons_zero]
          refine w_value (PT p0) (by kernel_rfl) (fun w hw => x_loadP _ _ _ _ _ _ _ _ _ _ rfl w (HQ0.out w hw.2)) ?_
          simp only [Act.put, List.setIfInBounds_toArray, List.set_cons_succ, List.set_cons_zero]
          refine w_call hG 16 #[PT p0] (.string s0) (by kernel_rfl) (fun w => x_call1 _ _ _ _ _ _ _ _ _ _ rfl rfl (enters_of Tryd.func16 (by kernel_rfl) rfl) w) (fun w hw => HQA.out w hw.1 hw.2) ?_
          simp only [Act.put, List.setIfInBounds_toArray, List.set_cons_succ, List.set_cons_zero]
          refine w_value (PT p) (by kernel_rfl) (fun w hw => x_move _ _ _ _ _ _ _ _ rfl w) ?_
          simp only [Act.put, List.setIfInBounds_toArray, List.set_cons_succ, List.set_cons_zero]
          refine w_call hG 16 #[PT p] (.string s1) (by kernel_rfl) (fun w => x_call1 _ _ _ _ _ _ _ _ _ _ rfl rfl (enters_of Tryd.func16 (by kernel_rfl) rfl) w) (fun w hw => HQB.out w hw.1 hw.2) ?_
          simp only [Act.put, List.setIfInBounds_toArray, List.set_cons_succ, List.set_cons_zero]
          refine w_value (.bool false) (by kernel_rfl) (fun w hw => x_geqStr _ _ _ _ _ _ _ _ s0 s1 hls rfl rfl w) ?_
          simp only [Act.put, List.setIfInBounds_toArray, List.set_cons_succ, List.set_cons_zero]
          refine w_value (.bool false) (by kernel_rfl) (fun w hw => x_pick _ _ _ _ _ _ _ _ _ true (.bool false) (.bool false) rfl rfl rfl w) ?_
          simp only [Act.put, List.setIfInBounds_toArray, List.set_cons_succ, List.set_cons_zero]
          refine w_value (.bool false) (by kernel_rfl) (fun w hw => x_pick _ _ _ _ _ _ _ _ _ false (.bool true) (.bool false) rfl rfl rfl w) ?_
          simp only [Act.put, List.setIfInBounds_toArray, List.set_cons_succ, List.set_cons_zero]
          refine w_nil ?_
          intro W hW
          have HBX := hide hW.1
          clear hW hG hqp hls hnn2
          go_wp2
          refine ⟨⟨k + 1, n, by omega, by go_num, by go_num, HNE.out.symm, HBX⟩, by simp [intOf]; omega⟩
        · have hkp : decide ((0 : Int) < k) = false := by simp; omega
          go_wp2
          have hG : Grows fun W => Below w.heap.size w W ∧ Below w1.heap.size w1 W := fun W W' h1 h2 => ⟨h1.1.trans (h2.mono h1.1.size), h1.2.trans (h2.mono h1.2.size)⟩
          have hqp := HQP.out
          refine w_lit (C := fun W => Below w.heap.size w W ∧ Below w1.heap.size w1 W) (by kernel_rfl) (by kernel_rfl) ⟨HB.out.trans ⟨rfl, rfl, rfl, Nat.le_refl _, fun _ _ => rfl⟩, ⟨rfl, rfl, rfl, Nat.le_refl _, fun _ _ => rfl⟩⟩ ?_
          refine w_value (PT p) (by kernel_rfl) (fun w hw => x_move _ _ _ _ _ _ _ _ rfl w) ?_
          simp only [Act.put, List.setIfInBounds_toArray, List.set_cons_succ, List.set_cons_zero]
          refine w_value (PT p) (by kernel_rfl) (fun w hw => x_nilCheck _ _ _ _ _ _ _ _ rfl w) ?_
          simp only [Act.put, List.setIfInBounds_toArray, List.set_cons_succ, List.set_cons_zero]
          refine w_value (PT p) (by kernel_rfl) (fun w hw => x_field0 _ _ _ _ _ _ _ _ rfl w) ?_
          simp only [Act.put, List.setIfInBounds_toArray, List.set_cons_succ, List.set_cons_zero]
          refine w_value (.int .i64 ko) (by kernel_rfl) (fun w hw => x_loadOp _ _ _ _ _ _ _ _ ko rfl w (hqp w hw.1 hw.2)) ?_
          simp only [Act.put, List.setIfInBounds_toArray, List.set_cons_succ, List.set_cons_zero]
          refine w_value (PT b) (by kernel_rfl) (fun w hw => x_move _ _ _ _ _ _ _ _ rfl w) ?_
          simp only [Act.put, List.setIfInBounds_toArray, List.set_cons_succ, List.set_cons_zero]
          refine w_value (PT b) (by kernel_rfl) (fun w hw => x_nilCheck _ _ _ _ _ _ _ _ rfl w) ?_
          simp only [Act.put, List.setIfInBounds_toArray, List.set_cons_succ, List.set_cons_zero]
          refine w_value (PT b) (by kernel_rfl) (fun w hw => x_field0 _ _ _ _ _ _ _ _ rfl w) ?_
          simp only [Act.put, List.setIfInBounds_toArray, List.set_cons_succ, List.set_cons_zero]
          refine w_value (.int .i64 (6 : Nat)) (by kernel_rfl) (fun w hw => x_loadOp _ _ _ _ _ _ _ _ 6 rfl w (HX.out w hw.1).1) ?_
          simp only [Act.put, List.setIfInBounds_toArray, List.set_cons_succ, List.set_cons_zero]
          refine w_value (.bool false) (by kernel_rfl) (fun w hw => x_eqOpB _ _ _ _ _ _ _ _ ko 6 false hne rfl rfl w) ?_
          simp only [Act.put, List.setIfInBounds_toArray, List.set_cons_succ, List.set_cons_zero]
          refine w_value (.bool false) (by kernel_rfl) (fun w hw => x_move _ _ _ _ _ _ _ _ rfl w) ?_
          simp only [Act.put, List.setIfInBounds_toArray, List.set_cons_succ, List.set_cons_zero]
          refine w_value (.int .i64 k) (by kernel_rfl) (fun w hw => x_move _ _ _ _ _ _ _ _ rfl w) ?_
          simp only [Act.put, List.setIfInBounds_toArray, List.set_cons_succ, List.set_cons_zero]
          refine w_value (.bool false) (by kernel_rfl) (fun w hw => (x_gtrInt _ _ _ _ _ _ _ _ k 0 rfl rfl w).trans (by rw [hkp])) ?_
          simp only [Act.put, List.setIfInBounds_toArray, List.set_cons_succ, List.set_cons_zero]
          refine w_value (.bool false) (by kernel_rfl) (fun w hw => x_move _ _ _ _ _ _ _ _ rfl w) ?_
          simp only [Act.put, List.setIfInBounds_toArray, List.set_cons_succ, List.set_cons_zero]
          refine w_skip (by kernel_rfl) ?_
          simp only [Act.put, List.setIfInBounds_toArray, List.set_cons_succ, List.set_cons_zero]
          refine w_skip (by kernel_rfl) ?_
          simp only [Act.put, List.setIfInBounds_toArray, List.set_cons_succ, List.set_cons_zero]
          refine w_skip (by kernel_rfl) ?_
          simp only [Act.put, List.setIfInBounds_toArray, List.set_cons_succ, List.set_cons_zero]
          refine w_skip (by kernel_rfl) ?_
          simp only [Act.put, List.setIfInBounds_toArray, List.set_cons_succ, List.set_cons_zero]
          refine w_skip (by kernel_rfl) ?_
          simp only [Act.put, List.setIfInBounds_toArray, List.set_cons_succ, List.set_cons_zero]
          refine w_skip (by kernel_rfl) ?_
          simp only [Act.put, List.setIfInBounds_toArray, List.set_cons_succ, List.set_cons_zero]
          refine w_skip (by kernel_rfl) ?_
          simp only [Act.put, List.setIfInBounds_toArray, List.set_cons_succ, List.set_cons_zero]
          refine w_skip (by kernel_rfl) ?_
          simp only [Act.put, List.setIfInBounds_toArray, List.set_cons_succ, List.set_cons_zero]
          refine w_skip (by kernel_rfl) ?_
          simp only [Act.put, List.setIfInBounds_toArray, List.set_cons_succ, List.set_cons_zero]
          refine w_skip (by kernel_rfl) ?_
          simp only [Act.put, List.setIfInBounds_toArray, List.set_cons_succ, List.set_cons_zero]
          refine w_skip (by kernel_rfl) ?_
          simp only [Act.put, List.setIfInBounds_toArray, List.set_cons_succ, List.set_cons_zero]
          refine w_skip (by kernel_rfl) ?_
          simp only [Act.put, List.setIfInBounds_toArray, List.set_cons_succ, List.set_cons_zero]
          refine w_value (.bool false) (by kernel_rfl) (fun w hw => x_pick _ _ _ _ _ _ _ _ _ false undef (.bool false) rfl rfl rfl w) ?_
          simp only [Act.put, List.setIfInBounds_toArray, List.set_cons_succ, List.set_cons_zero]
          refine w_value (.bool false) (by kernel_rfl) (fun w hw => x_pick _ _ _ _ _ _ _ _ _ false (.bool true) (.bool false) rfl rfl rfl w) ?_
          simp only [Act.put, List.setIfInBounds_toArray, List.set_cons_succ, List.set_cons_zero]
          refine w_nil ?_
          intro W hW
          have HBX := hide hW.1
          clear hW hG hqp
          go_wp2
          refine ⟨⟨k + 1, n, by omega, by go_num, by go_num, HNE.out.symm, HBX⟩, by simp [intOf]; omega⟩
    · obtain rfl : k = ks.length := by omega
      clear g1
      have x0 := (HX.out wr HW.out).1
      have x5 := (HX.out wr HW.out).2.2
      rw [List.take_length] at hnn
      have hn1 : n ≤ 1 := by have := HF.out; omega
      have hd : decide ((2 : Int) ≤ ks.length) = true := by simp; omega
      have hd2 : decide (2 ≤ ks.length) = true := by simp; omega
      have hd3 : decide ((n : Int) ≤ 1) = true := by simp; omega
      have hd4 : decide (n ≤ 1) = true := by simp; omega
      clear hnn
      go_wp2
      go_ret
      exact ⟨rfl, HW.out⟩
set_option maxHeartbeats 4000000 in
theorem set7 (s : BitVec 256) (ks : List RE) (h2 : ks.length = 2) (hk : ∀ k ∈ ks, k.op ≠ 0) (hab : ∀ x y, ks = [x, y] → x ≠ y) (hf : (ks.filter fun k => k.op == 2).length ≤ 1) (hw : ∀ k ∈ ks, Wf k) (hcn : cntL ks ≤ 1000000) (ih : ∀ k ∈ ks, SetAt k) : SetAt (.mk 7 s ks) := by
  intro b w h hT
  obtain ⟨a, c, row, HX⟩ := h.see
  have HX : Hid (∀ W, Below w.heap.size w W → W.cell? ⟨b, 0, none⟩ = some (.int .i64 (7 : Nat)) ∧ (∀ j, j < 4 → W.cell? ⟨b, 1 + j, none⟩ = some (.int .u64 (wd s j))) ∧ W.cell? ⟨b, 5, none⟩ = some (.slice a ks.length c)) := HX
  have x5 := (HX.out w (Below.refl _ _)).2.2
  have HROW := hide row
  have HIH := hide ih
  have HTB := hide hT
  have HK := hide hk
  have HWF := hide hw

  have HF := hide hf
  have HAB := hide hab
  obtain ⟨hn, -⟩ := row.at
  have hnc : ks.length ≤ 1000000 := by have := cntL_len ks; omega
  clear row h ih hT hk hw hf hab
  have HKL : Hid (∀ k ∈ ks, k.key.length ≤ 1099511627776) := fun k hk => by
    have e1 := key_len k
    obtain ⟨u, v, e⟩ := List.append_of_mem hk
    have e2 : cntL ks = cntL u + (k.cnt + cntL v) := by rw [e, cntL_append, cntL_cons]
    omega
  go_enter Tryd.func13, Tryd.ntmps13
  unfold PT
  go_wp2
  clear x5
  go_loopw [3, 14] (fun q i wr => ∃ (k n : Nat), k ≤ ks.length ∧ i = .int .i64 k ∧ q = .int .i64 n ∧ n = ((ks.take k).filter fun x => x.op == 2).length ∧ Hid (Below w.heap.size w wr)) (fun _ i _ => ks.length - (intOf i).toNat)
  case atStart => exact ⟨0, 0, by omega, rfl, rfl, rfl, Below.refl _ _⟩
  case round =>
    obtain ⟨k, n, hk1, rfl, rfl, hnn, HW⟩ := hrel
    obtain ⟨-, a', cap', e1, g1⟩ := (HROW.out.below HW.out).at
    obtain ⟨rfl, rfl⟩ : a = a' ∧ c = cap' := by cases e1; exact ⟨rfl, rfl⟩
    clear e1
    by_cases hlt : k < ks.length
    · have hkd : decide (k < ks.length) = true := by simp [hlt]
      obtain ⟨g, f, p, rfl, -, hc0, hr0⟩ := g1 k hlt
      have HM := hide (List.getElem_mem hlt)
      have hnk : n ≤ k := by
        rw [hnn]
        exact Nat.le_trans (List.length_filter_le _ _) (by rw [List.length_take]; omega)
      have HNT : Hid (((ks.take (k + 1)).filter fun x => x.op == 2).length = n + if (ks[k]).op = 2 then 1 else 0) := by
        show _ = _
        rw [List.take_succ_eq_append_getElem hlt, List.filter_append, List.length_append, ← hnn]
        congr 1
        by_cases h : (ks[k]).op = 2 <;> simp [h]
      have HC := hide (HIH.out _ (List.getElem_mem hlt) p wr hr0 (HTB.out.agree (Agree.of_all (K := fun _ => True) HW.out) trivial))
      have HR0 := hide hr0
      generalize ks[k] = kk at *
      clear g1 hr0 hnn
      obtain ⟨ko, hko⟩ : ∃ ko, ko = kk.op := ⟨_, rfl⟩
      have n0 : ((ko : Int) == 0) = false := beq_eq_false_iff_ne.2 (by have := HK.out kk HM.out; omega)
      have HKO := hide hko
      clear hko
      unfold PT at hc0 HC
      go_wp2_with fail
      refine HC.out.mono ?_
      rintro e w1 ⟨rfl, hb⟩
      have HB := hide (HW.out.trans (hb.mono HW.out.size))
      have hR1 := HR0.out.keep hb
      have y0 := hR1.cell0
      rw [← HKO.out] at y0
      have HR1 := hide hR1
      have x0 := (HX.out w1 HB.out).1
      have HBW := HB
      clear hb HC hc0 hR1 HW HR0
      by_cases h2k : ko = 2
      · have c2 : ((ko : Int) == 2) = true := beq_iff_eq.2 (by omega)
        have HNE : Hid (((ks.take (k + 1)).filter fun x => x.op == 2).length = n + 1) := by
          show _ = _
          rw [HNT.out, ← HKO.out]
          rw [if_pos h2k]
        clear h2k
        have HBX := HB
        go_wp2
        refine ⟨⟨k + 1, n + 1, by omega, by go_num, by go_num, HNE.out.symm, HBX⟩, by simp [intOf]; omega⟩
      · have c2 : ((ko : Int) == 2) = false := beq_eq_false_iff_ne.2 (by omega)
        have HNE : Hid (((ks.take (k + 1)).filter fun x => x.op == 2).length = n) := by
          show _ = _
          rw [HNT.out, ← HKO.out]
          rw [if_neg h2k]; rfl
        clear h2k
        have HBX := HB
        go_wp2
        refine ⟨⟨k + 1, n, by omega, by go_num, by go_num, HNE.out.symm, HBX⟩, by simp [intOf]; omega⟩
    · obtain rfl : k = ks.length := by omega
      clear g1
      have x0 := (HX.out wr HW.out).1
      have x5 := (HX.out wr HW.out).2.2
      rw [List.take_length] at hnn
      rw [h2] at x5
      have HX2 : Hid (∀ W, Below w.heap.size w W → W.cell? ⟨b, 0, none⟩ = some (.int .i64 (7 : Nat)) ∧ (∀ j, j < 4 → W.cell? ⟨b, 1 + j, none⟩ = some (.int .u64 (wd s j))) ∧ W.cell? ⟨b, 5, none⟩ = some (.slice a 2 c)) := by rw [← h2]; exact HX.out
      obtain ⟨y0, y1, rfl⟩ : ∃ y0 y1, ks = [y0, y1] := by
        match ks, h2 with
        | [y0, y1], _ => exact ⟨y0, y1, rfl⟩
      obtain ⟨-, a', cap', e1, g1⟩ := HROW.out.at
      obtain ⟨rfl, rfl⟩ : a = a' ∧ c = cap' := by cases e1; exact ⟨rfl, rfl⟩
      obtain ⟨g, f, p0, rfl, -, hc0, hr0⟩ := g1 0 (by simp)
      obtain ⟨g', f', p1, e2, -, hc1, hr1⟩ := g1 1 (by simp)
      obtain ⟨rfl, rfl⟩ : g = g' ∧ f = f' := by cases e2; exact ⟨rfl, rfl⟩
      have hr0 : ReAt w p0 y0 := hr0
      have hr1 : ReAt w p1 y1 := hr1
      have hnn1 : n ≤ 1 := by have := HF.out; omega
      have HQS : Hid (∀ W, Below w.heap.size w W → Calls Tryd.prog 18 #[PT p0, PT p1] W fun e w' => e = .returned (.bool false) ∧ Below W.heap.size W w') := fun W hW => by
        have k0 := (HWF.out y0 (by simp)).k
        have k1 := (HWF.out y1 (by simp)).k
        have hs := same_re y0 y1 p0 p1 W k0 k1 (hr0.keep hW) (hr1.keep hW) (HTB.out.agree (Agree.of_all (K := fun _ => True) hW) trivial)
        have hne : (lexN y0.key y1.key == 0) = false := beq_eq_false_iff_ne.2 fun h => HAB.out y0 y1 rfl (key_inj k0 k1 (lexN_zero _ _ h))
        rw [hne] at hs
        exact hs.mono fun e w' ⟨h1, h2⟩ => ⟨h1, h2.below⟩
      have HQ0 : Hid (∀ W, Below w.heap.size w W → W.cell? ⟨g, f + 0, none⟩ = some (PT p0)) := fun W hW => (World.cell?_of_block (w := w) (hW.block _ (World.block_lt_of_cell? _ _ hc0))).trans hc0
      have HQ1 : Hid (∀ W, Below w.heap.size w W → W.cell? ⟨g, f + 1, none⟩ = some (PT p1)) := fun W hW => (World.cell?_of_block (w := w) (hW.block _ (World.block_lt_of_cell? _ _ hc1))).trans hc1
      clear g1 e1 e2 hc0 hc1 hr0 hr1 hnn
      go_wp2
      have hG : Grows fun W => Below w.heap.size w W := fun W W' h1 h2 => h1.trans (h2.mono h1.size)
      have hq0 := HQ0.out
      have hq1 := HQ1.out
      have hqs := HQS.out
      have hn1 : (n : Int) ≤ 1 := by omega
      refine w_lit (C := fun W => Below w.heap.size w W) (by kernel_rfl) (by kernel_rfl) (HW.out.trans ⟨rfl, rfl, rfl, Nat.le_refl _, fun _ _ => rfl⟩) ?_
      refine w_value (PT b) (by kernel_rfl) (fun w hw => x_move _ _ _ _ _ _ _ _ rfl w) ?_
      simp only [Act.put, List.setIfInBounds_toArray, List.set_cons_succ, List.set_cons_zero]
      refine w_value (PT b) (by kernel_rfl) (fun w hw => x_nilCheck _ _ _ _ _ _ _ _ rfl w) ?_
      simp only [Act.put, List.setIfInBounds_toArray, List.set_cons_succ, List.set_cons_zero]
      refine w_value (PT b) (by kernel_rfl) (fun w hw => x_field0 _ _ _ _ _ _ _ _ rfl w) ?_
      simp only [Act.put, List.setIfInBounds_toArray, List.set_cons_succ, List.set_cons_zero]
      refine w_value (.int .i64 (7 : Nat)) (by kernel_rfl) (fun w hw => x_loadOp _ _ _ _ _ _ _ _ 7 rfl w (HX2.out w hw).1) ?_
      simp only [Act.put, List.setIfInBounds_toArray, List.set_cons_succ, List.set_cons_zero]
      refine w_value (.bool true) (by kernel_rfl) (fun w hw => x_eqOpC _ _ _ 7 _ _ _ _ 7 true rfl rfl rfl w) ?_
      simp only [Act.put, List.setIfInBounds_toArray, List.set_cons_succ, List.set_cons_zero]
      refine w_value (.bool true) (by kernel_rfl) (fun w hw => x_move _ _ _ _ _ _ _ _ rfl w) ?_
      simp only [Act.put, List.setIfInBounds_toArray, List.set_cons_succ, List.set_cons_zero]
      refine w_value (.int .i64 2) (by kernel_rfl) (fun w hw => x_move _ _ _ _ _ _ _ _ rfl w) ?_
      simp only [Act.put, List.setIfInBounds_toArray, List.set_cons_succ, List.set_cons_zero]
      refine w_value (.bool true) (by kernel_rfl) (fun w hw => x_eqIntB _ _ _ _ _ _ _ _ 2 2 true rfl rfl rfl w) ?_
      simp only [Act.put, List.setIfInBounds_toArray, List.set_cons_succ, List.set_cons_zero]
      refine w_value (.bool true) (by kernel_rfl) (fun w hw => x_pick _ _ _ _ _ _ _ _ _ true (.bool true) (.bool false) rfl rfl rfl w) ?_
      simp only [Act.put, List.setIfInBounds_toArray, List.set_cons_succ, List.set_cons_zero]
      refine w_value (.bool true) (by kernel_rfl) (fun w hw => x_move _ _ _ _ _ _ _ _ rfl w) ?_
      simp only [Act.put, List.setIfInBounds_toArray, List.set_cons_succ, List.set_cons_zero]
      refine w_value (PT b) (by kernel_rfl) (fun w hw => x_move _ _ _ _ _ _ _ _ rfl w) ?_
      simp only [Act.put, List.setIfInBounds_toArray, List.set_cons_succ, List.set_cons_zero]
      refine w_value (PT b) (by kernel_rfl) (fun w hw => x_nilCheck _ _ _ _ _ _ _ _ rfl w) ?_
      simp only [Act.put, List.setIfInBounds_toArray, List.set_cons_succ, List.set_cons_zero]
      refine w_value (.pointer (some ⟨b, 5, none⟩)) (by kernel_rfl) (fun w hw => x_field2 _ _ _ _ _ _ _ _ rfl w) ?_
      simp only [Act.put, List.setIfInBounds_toArray, List.set_cons_succ, List.set_cons_zero]
      refine w_value (.slice (some ⟨g, f, none⟩) 2 c) (by kernel_rfl) (fun w hw => x_loadKids _ _ _ _ _ _ _ b 5 _ rfl w (HX2.out w hw).2.2) ?_
      simp only [Act.put, List.setIfInBounds_toArray, List.set_cons_succ, List.set_cons_zero]
      refine w_value (.pointer (some ⟨g, f + 0, none⟩)) (by kernel_rfl) (fun w hw => x_idxP _ _ _ _ _ _ _ _ g f 2 c 0 rfl rfl (by omega) w) ?_
      simp only [Act.put, List.setIfInBounds_toArray, List.set_cons_succ, List.set_cons_zero]
      refine w_value (PT p0) (by kernel_rfl) (fun w hw => x_loadP _ _ _ _ _ _ _ _ _ _ rfl w (hq0 w hw)) ?_
      simp only [Act.put, List.setIfInBounds_toArray, List.set_cons_succ, List.set_cons_zero]
      refine w_value (PT b) (by kernel_rfl) (fun w hw => x_move _ _ _ _ _ _ _ _ rfl w) ?_
      simp only [Act.put, List.setIfInBounds_toArray, List.set_cons_succ, List.set_cons_zero]
      refine w_value (PT b) (by kernel_rfl) (fun w hw => x_nilCheck _ _ _ _ _ _ _ _ rfl w) ?_
      simp only [Act.put, List.setIfInBounds_toArray, List.set_cons_succ, List.set_cons_zero]
      refine w_value (.pointer (some ⟨b, 5, none⟩)) (by kernel_rfl) (fun w hw => x_field2 _ _ _ _ _ _ _ _ rfl w) ?_
      simp only [Act.put, List.setIfInBounds_toArray, List.set_cons_succ, List.set_cons_zero]
      refine w_value (.slice (some ⟨g, f, none⟩) 2 c) (by kernel_rfl) (fun w hw => x_loadKids _ _ _ _ _ _ _ b 5 _ rfl w (HX2.out w hw).2.2) ?_
      simp only [Act.put, List.setIfInBounds_toArray, List.set_cons_succ, List.set_cons_zero]
      refine w_value (.pointer (some ⟨g, f + 1, none⟩)) (by kernel_rfl) (fun w hw => x_idxP _ _ _ _ _ _ _ _ g f 2 c 1 rfl rfl (by omega) w) ?_
      simp only [Act.put, List.setIfInBounds_toArray, List.set_cons_succ, List.set_cons_zero]
      refine w_value (PT p1) (by kernel_rfl) (fun w hw => x_loadP _ _ _ _ _ _ _ _ _ _ rfl w (hq1 w hw)) ?_
      simp only [Act.put, List.setIfInBounds_toArray, List.set_cons_succ, List.set_cons_zero]
      refine w_call hG 18 #[PT p0, PT p1] (.bool false) (by kernel_rfl) (fun w => x_call2 _ _ _ _ _ _ _ _ _ _ _ _ _ rfl rfl rfl (enters_of Tryd.func18 (by kernel_rfl) rfl) w) (fun w hw => hqs w hw) ?_
      simp only [Act.put, List.setIfInBounds_toArray, List.set_cons_succ, List.set_cons_zero]
      refine w_value (.bool true) (by kernel_rfl) (fun w hw => x_notBool _ _ _ _ _ _ _ false rfl w) ?_
      simp only [Act.put, List.setIfInBounds_toArray, List.set_cons_succ, List.set_cons_zero]
      refine w_value (.bool true) (by kernel_rfl) (fun w hw => x_pick _ _ _ _ _ _ _ _ _ true (.bool true) (.bool false) rfl rfl rfl w) ?_
      simp only [Act.put, List.setIfInBounds_toArray, List.set_cons_succ, List.set_cons_zero]
      refine w_value (.bool true) (by kernel_rfl) (fun w hw => x_move _ _ _ _ _ _ _ _ rfl w) ?_
      simp only [Act.put, List.setIfInBounds_toArray, List.set_cons_succ, List.set_cons_zero]
      refine w_value (.int .i64 n) (by kernel_rfl) (fun w hw => x_move _ _ _ _ _ _ _ _ rfl w) ?_
      simp only [Act.put, List.setIfInBounds_toArray, List.set_cons_succ, List.set_cons_zero]
      refine w_value (.bool true) (by kernel_rfl) (fun w hw => x_leqIntB _ _ _ _ _ _ _ _ n 1 hn1 rfl rfl w) ?_
      simp only [Act.put, List.setIfInBounds_toArray, List.set_cons_succ, List.set_cons_zero]
      refine w_value (.bool true) (by kernel_rfl) (fun w hw => x_pick _ _ _ _ _ _ _ _ _ true (.bool true) (.bool false) rfl rfl rfl w) ?_
      simp only [Act.put, List.setIfInBounds_toArray, List.set_cons_succ, List.set_cons_zero]
      refine w_value (.bool true) (by kernel_rfl) (fun w hw => x_assign _ _ _ _ _ _ _ _ rfl w) ?_
      simp only [Act.put, List.setIfInBounds_toArray, List.set_cons_succ, List.set_cons_zero]
      refine w_nil ?_
      intro W hW
      have HBX := hide hW
      clear hW hG hq0 hq1 hqs
      go_wp2
      go_ret
      exact ⟨rfl, HBX.out⟩
end Go.Proofs.YtkjmjppmpcnejaaDoor
