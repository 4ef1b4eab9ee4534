/- LexParts answers true for every list of parts: words, signs, texts and expressions, with blanks, line ends and remarks ahead, are read as those tokens where they stand, and then the End; lists of more than 15 parts, texts of more than 40 bytes and shapes of more than 15 parts are let through by the statement itself. Conditions: the table of math/bits holds what its initialiser lays (the card ties that to the program's text). -/
/- Texts of this claim put together: LawLexParts, ProofLexParts. -/
import Derived.Test.YtjlgepahgmkamaaGreatDoorJoinLxP5
import Derived.Test.YtjlgepahgmkamaaGreatDoorJoinLxP4
import Derived.Test.YtjlgepahgmkamaaGreatDoorCards
import Derived.Test.YtjlgepahgmkamaaGreatDoorTie
/- LexParts: whatever parts, those tokens. -/
namespace Go.Proofs.YtjlgepahgmkamaaGreatDoor
set_option maxRecDepth 100000
set_option linter.unusedSimpArgs false
set_option linter.unusedVariables false
open Go.RowKit Go.Shelf

/-- One element of a slice of parts. -/
theorem PrtsRow.at {w : World} {v : Value} {ks : List PRT} (h : PrtsRow w v ks) : ks.length ≤ 9223372036854775807 ∧ ∃ a cap, v = .slice a ks.length cap ∧ ∀ k (p : PRT), ks[k]? = some p → ∃ b off va vl vc, a = some ⟨b, off, none⟩ ∧ b < w.heap.size ∧
    (w.cell? ⟨b, off + k * 9, none⟩ = some (.int .i64 p.k) ∧ w.cell? ⟨b, off + k * 9 + 1, none⟩ = some (.int .i64 p.n) ∧ w.cell? ⟨b, off + k * 9 + 2, none⟩ = some (.int .i64 p.gap) ∧ w.cell? ⟨b, off + k * 9 + 3, none⟩ = some (.string p.s) ∧ w.cell? ⟨b, off + k * 9 + 4, none⟩ = some (.int .i64 p.sh.op) ∧ w.cell? ⟨b, off + k * 9 + 5, none⟩ = some (.int .u8 p.sh.lo) ∧ w.cell? ⟨b, off + k * 9 + 6, none⟩ = some (.int .u8 p.sh.hi) ∧ w.cell? ⟨b, off + k * 9 + 7, none⟩ = some (.string p.sh.text) ∧ w.cell? ⟨b, off + k * 9 + 8, none⟩ = some (.slice va vl vc)) ∧
    ShC w [.int .i64 p.sh.op, .int .u8 p.sh.lo, .int .u8 p.sh.hi, .string p.sh.text, .slice va vl vc] p.sh ∧
    PrtC w [.int .i64 p.k, .int .i64 p.n, .int .i64 p.gap, .string p.s, .int .i64 p.sh.op, .int .u8 p.sh.lo, .int .u8 p.sh.hi, .string p.sh.text, .slice va vl vc] p := by
  obtain ⟨cells, ⟨h0, a, cap, rfl, h1⟩, h2⟩ := h
  refine ⟨h0.1, a, cap, rfl, fun k p hk => ?_⟩
  obtain ⟨h3, b, off, e, hlt, hc⟩ := h1 k (List.getElem?_eq_some_iff.1 hk).1
  have h4 := h2 k p hk
  obtain ⟨sc, e5, h5⟩ := h4.cells
  obtain ⟨kv, e6, h6, -⟩ := h5.open
  obtain ⟨-, va, vc, e7, -⟩ := h6.at
  subst e7 e6
  rw [e5] at h4
  refine ⟨b, off, va, _, vc, e, hlt, ⟨?_, ?_, ?_, ?_, ?_, ?_, ?_, ?_, ?_⟩, h5, h4⟩
  · have := hc 0 _ (by rw [e5]; rfl); simpa using this
  · exact hc 1 _ (by rw [e5]; rfl)
  · exact hc 2 _ (by rw [e5]; rfl)
  · exact hc 3 _ (by rw [e5]; rfl)
  · exact hc 4 _ (by rw [e5]; rfl)
  · exact hc 5 _ (by rw [e5]; rfl)
  · exact hc 6 _ (by rw [e5]; rfl)
  · exact hc 7 _ (by rw [e5]; rfl)
  · exact hc 8 _ (by rw [e5]; rfl)
section
variable (ρ : Operand → Value) (d : Option Tmp) (x y : Operand) (t : TypeId) (pos : String) (af : Array Edge) (g : Option (Nat × Bool))
theorem x_fldT3P (b o : Nat) (hx : ρ x = .pointer (some ⟨b, o, none⟩)) (w : World) : (execOp ρ { dst := d, op := .fieldAddr 35 x 3, type := t, pos := pos, after := af, guard := g }).run Tryz.prog w = .ok (.value (.pointer (some ⟨b, o + 3, none⟩))) w := by
  simp [go_sem, hx]
theorem x_ldPosP (b n : Nat) (v : Int) (hx : ρ x = .pointer (some ⟨b, n, none⟩)) (w : World) (hc : w.cell? ⟨b, n, none⟩ = some (.int .i64 v)) : (execOp ρ { dst := d, op := .load 33 x, type := t, pos := pos, after := af, guard := g }).run Tryz.prog w = .ok (.value (.int .i64 v)) w := by
  simp [go_sem, hx, hc]
theorem x_ldOP (b n : Nat) (v : Option Addr) (hx : ρ x = .pointer (some ⟨b, n, none⟩)) (w : World) (hc : w.cell? ⟨b, n, none⟩ = some (.pointer v)) : (execOp ρ { dst := d, op := .load 32 x, type := t, pos := pos, after := af, guard := g }).run Tryz.prog w = .ok (.value (.pointer v)) w := by
  simp [go_sem, hx, hc]
theorem x_neqKP (v : Int) (hx : ρ x = .int .i64 v) (hy : ρ y = .int .i64 v) (w : World) : (execOp ρ { dst := d, op := .binOp .neq 31 x y 31, type := t, pos := pos, after := af, guard := g }).run Tryz.prog w = .ok (.value (.bool false)) w := by
  simp [go_sem, hx, hy]
theorem x_neqPP (v : Int) (hx : ρ x = .int .i64 v) (hy : ρ y = .int .i64 v) (w : World) : (execOp ρ { dst := d, op := .binOp .neq 33 x y 33, type := t, pos := pos, after := af, guard := g }).run Tryz.prog w = .ok (.value (.bool false)) w := by
  simp [go_sem, hx, hy]
theorem x_neqSP (v : ByteArray) (hx : ρ x = .string v) (hy : ρ y = .string v) (w : World) : (execOp ρ { dst := d, op := .binOp .neq 9 x y 9, type := t, pos := pos, after := af, guard := g }).run Tryz.prog w = .ok (.value (.bool false)) w := by
  simp [go_sem, hx, hy]
end
set_option maxHeartbeats 8000000 in
theorem lexParts_any (ks : List PRT) (v : Value) (w : World) (hrow : PrtsRow w v ks) (hT : TabAt w) :
    Calls Tryz.prog 3 #[v] w fun e w' => e = .returned (.bool true) ∧ Below w.heap.size w w' := by
  have HT := hide hT
  obtain ⟨hn, a, cap, rfl, -⟩ := hrow.at
  obtain ⟨n, hnn⟩ : ∃ n, ks.length = n := ⟨_, rfl⟩
  rw [hnn] at hn hrow ⊢
  have HN := hide hnn
  have HROW := hide hrow
  clear hT hrow hnn
  go_enter Tryz.func3, Tryz.ntmps3
  go_wp2_with fail
  refine (head11_any w HT.out).mono ?_
  rintro e w1 ⟨rfl, hb1⟩
  have HB1 := hide hb1
  clear hb1
  by_cases h15 : 15 < n
  · have d0 : decide ((15 : Int) < (n : Int)) = true := by simp; omega
    go_wp2
    go_ret
    exact ⟨rfl, HB1.out⟩
  have d0 : decide ((15 : Int) < (n : Int)) = false := by simp; omega
  have hn15 : n ≤ 15 := by omega
  clear h15
  obtain ⟨w2, hw2⟩ : ∃ w2, w1.alloc (.cells #[] 35) = w2 := ⟨_, rfl⟩
  go_wp2
  go_loopw [3, 4, 22] (fun sv lv iv wr => ∃ (q : Nat) (S : ByteArray) (l : List (LTok × Value)), iv = .int .i64 q ∧ sv = .string S ∧ Hid (q ≤ n) ∧ Hid (S = strB (prtW (ks.take q))) ∧ Hid (∀ p ∈ ks.take q, p.Ok) ∧ Hid (OwnT wr w.heap.size lv l) ∧ Hid (l.map Prod.fst = prtT (ks.take q) 0) ∧ Hid (∀ x ∈ l, PtrOf wr x.1.re x.2) ∧ Hid (Below w.heap.size w wr)) (fun _ _ i _ => n - (intOf i).toNat)
  case atStart =>
    refine ⟨0, ⟨#[]⟩, [], rfl, rfl, Nat.zero_le _, rfl, fun p hp => absurd hp (by simp), ?_, rfl, fun x hx => absurd hx (by simp), ?_⟩
    · refine .inr ⟨w1.heap.size, 0, #[], rfl, HB1.out.size, ?_, Nat.le_refl _, Nat.zero_le _, rfl, rfl, ?_⟩
      · rw [← hw2]; exact Blk.newAt rfl _ _
      · intro j x _ h; simp at h
    · show Below _ _ _
      rw [← hw2]; exact HB1.out.alloc HB1.out.size _
  case round =>
    clear hw2
    obtain ⟨q, S, l, rfl, rfl, HQ, HS, HOK, HOW, HTK, HRE, HBE⟩ := hrel
    have hq := HQ.out
    obtain ⟨-, a', cap', e1, g1⟩ := (HROW.out.keep HBE.out).at
    rw [HN.out] at e1
    obtain ⟨rfl, rfl⟩ : a = a' ∧ cap = cap' := by cases e1; exact ⟨rfl, rfl⟩
    clear e1
    obtain ⟨oa, oc, rfl, hoc⟩ := HOW.out.slice
    have hl : l.length = q := by rw [← List.length_map (f := Prod.fst), HTK.out, prtT_len, List.length_take, HN.out]; omega
    have hS : S.size ≤ 3516 * q := by rw [HS.out, strB_size]; have := prtW_len _ HOK.out; rw [List.length_take, HN.out] at this; omega
    have HL := hide hl
    have hl1 : l.length ≤ 15 := by omega
    clear hl hoc
    by_cases hqn : q < n
    · have dq : decide ((q : Int) < (n : Int)) = true := by simp; omega
      obtain ⟨p, hp⟩ : ∃ p, ks[q]? = some p := ⟨_, List.getElem?_eq_getElem (by rw [HN.out]; exact hqn)⟩
      obtain ⟨b, off, va, vl, vc, rfl, hlt, ⟨c0, c1, c2, c3, c4, c5, c6, c7, c8⟩, hC, hP⟩ := g1 q p hp
      clear g1
      have HP := hide hP
      have HPK := hide hp
      have hps := hP.s
      obtain ⟨K, hK⟩ : ∃ K, wr.heap.size = K := ⟨_, rfl⟩
      obtain ⟨w3, hw3⟩ : ∃ w3, wr.alloc (.cells #[.int .i64 p.k, .int .i64 p.n, .int .i64 p.gap, .string p.s, .int .i64 p.sh.op, .int .u8 p.sh.lo, .int .u8 p.sh.hi, .string p.sh.text, .slice va vl vc] 29) = w3 := ⟨_, rfl⟩
      have hB3 : Blk w3 K #[.int .i64 p.k, .int .i64 p.n, .int .i64 p.gap, .string p.s, .int .i64 p.sh.op, .int .u8 p.sh.lo, .int .u8 p.sh.hi, .string p.sh.text, .slice va vl vc] 29 := by rw [← hw3, ← hK]; exact Blk.newAt rfl _ _
      have hb3 : Below wr.heap.size wr w3 := by rw [← hw3]; exact (Below.refl _ _).alloc (Nat.le_refl _) _
      have HK := hide hK
      have HK3 := hide hB3
      have HB3 := hide hb3
      have HW3 : Hid (Below w.heap.size w w3) := HBE.out.trans (hb3.mono HBE.out.size)
      have HCT := hide (count_any p.sh _ 0 w3 (hC.keep hb3) (by decide))
      have k0 := hB3.cell 0; have k1 := hB3.cell 1; have k2 := hB3.cell 2; have k3 := hB3.cell 3; have k4 := hB3.cell 4; have k5 := hB3.cell 5; have k6 := hB3.cell 6; have k7 := hB3.cell 7; have k8 := hB3.cell 8
      simp only [List.getElem?_toArray, List.getElem?_cons_zero, List.getElem?_cons_succ] at k0 k1 k2 k3 k4 k5 k6 k7 k8
      clear hC hP hp hB3 hb3
      unfold ShVal at HCT
      by_cases h40 : 40 < p.s.size
      · have d1 : decide ((40 : Int) < (p.s.size : Int)) = true := by simp; omega
        go_wp2
        go_ret
        exact ⟨rfl, HW3.out⟩
      have d1 : decide ((40 : Int) < (p.s.size : Int)) = false := by simp; omega
      go_wp2_with fail
      refine HCT.out.mono ?_
      rintro e w4 ⟨c, rfl, ⟨hc1, hc2⟩, hc3, hb4⟩
      have HB4 : Hid (Below wr.heap.size wr w4) := HB3.out.trans (hb4.mono HB3.out.size)
      have HW4 : Hid (Below w.heap.size w w4) := HBE.out.trans (HB4.out.mono HBE.out.size)
      have HK4 := hide (HK3.out.below hb4 HK3.out.lt)
      have HC3 := hide hc3
      clear HCT hc3 hb4 c0 c1 c2 c3 c4 c5 c6 c7 c8 k0 k1 k2 k3 k4 k5 k6 k7 k8 hw3
      by_cases hc15 : 15 < c
      · have d2 : decide ((15 : Int) < (c : Int)) = true := by simp; omega
        go_wp2
        go_ret
        exact ⟨rfl, HW4.out⟩
      have d2 : decide ((15 : Int) < (c : Int)) = false := by simp; omega
      obtain ⟨htx, hnd⟩ := HC3.out (by omega)
      have HPO : Hid p.Ok := ⟨by omega, htx, by omega⟩
      clear htx hnd HC3
      have k0 := HK4.out.cell 0; have k1 := HK4.out.cell 1; have k2 := HK4.out.cell 2; have k3 := HK4.out.cell 3; have k4 := HK4.out.cell 4; have k5 := HK4.out.cell 5; have k6 := HK4.out.cell 6; have k7 := HK4.out.cell 7; have k8 := HK4.out.cell 8
      simp only [List.getElem?_toArray, List.getElem?_cons_zero, List.getElem?_cons_succ] at k0 k1 k2 k3 k4 k5 k6 k7 k8
      have HWR := hide (write_any (HP.out.keep HB4.out) HPO.out (HT.out.agree (Agree.of_all (K := fun _ => True) HW4.out) trivial))
      go_wp2_with fail
      refine HWR.out.mono ?_
      rintro e w5 ⟨o, rfl, hpo, hb5⟩
      have HB5 : Hid (Below wr.heap.size wr w5) := HB4.out.trans (hb5.mono HB4.out.size)
      have HK5 := hide (HK4.out.below hb5 HK4.out.lt)
      have HPT := hide hpo
      clear HWR hpo hb5 k0 k1 k2 k3 k4 k5 k6 k7 k8
      obtain ⟨kd, hkd⟩ : ∃ kd, (p.tok 0).kind = kd := ⟨_, rfl⟩
      obtain ⟨tx, htx⟩ : ∃ tx, (p.tok 0).txt = tx := ⟨_, rfl⟩
      obtain ⟨u, hu⟩ : ∃ u, strB p.wr = u := ⟨_, rfl⟩
      obtain ⟨gb, hgb⟩ : ∃ gb, strB p.gapL = gb := ⟨_, rfl⟩
      have hus : u.size ≤ 3502 := by rw [← hu, strB_size]; exact wr_len HPO.out
      have hgs : gb.size ≤ 14 := by rw [← hgb, strB_size]; exact (gapL_len p).2.1
      have hgx := gx_eq p
      have hg4 := gx_lt p
      have hgc := lxGapsC_at p
      rw [hgb] at hgc
      obtain ⟨gx, egx⟩ : ∃ gx, p.gx = gx := ⟨_, rfl⟩
      rw [egx] at hgx hg4 hgc
      rw [hkd, htx, hu]
      have HKD := hide hkd
      have HTX := hide htx
      have HU := hide hu
      have HGB := hide hgb
      clear hkd htx hu hgb egx
      obtain ⟨K8, hK8⟩ : ∃ K8, w5.heap.size = K8 := ⟨_, rfl⟩
      have HK8 := hide hK8
      have hkk : K < K8 := by have := HK5.out.lt; rw [hK8] at this; exact this
      have hk8 : wr.heap.size ≤ K8 := by have := HB5.out.size; rw [hK8] at this; exact this
      obtain ⟨w6, hw6⟩ : ∃ w6, w5.alloc (.cells #[.int .i64 0, .string ⟨#[]⟩, .pointer none, .int .i64 0] 35) = w6 := ⟨_, rfl⟩
      have hb6 : Below wr.heap.size wr w6 := HB5.out.trans (by rw [← hw6]; exact (Below.refl _ _).alloc HB5.out.size _)
      have hT6 : Blk w6 K8 #[.int .i64 0, .string ⟨#[]⟩, .pointer none, .int .i64 0] 35 := by rw [← hw6, ← hK8]; exact Blk.newAt rfl _ _
      have hb56 : Below w5.heap.size w5 w6 := by rw [← hw6]; exact (Below.refl _ _).alloc (Nat.le_refl _) _
      have hK6 := HK5.out.below hb56 HK5.out.lt
      have hs6 : w6.heap.size = K8 + 1 := by rw [← hw6, ← hK8]; simp
      have q0 := hT6.cell 0; have q1 := hT6.cell 1; have q2 := hT6.cell 2; have q3 := hT6.cell 3
      have f0 := hT6.frozen 0; have f1 := hT6.frozen 1; have f2 := hT6.frozen 2; have f3 := hT6.frozen 3
      simp only [List.getElem?_toArray, List.getElem?_cons_zero, List.getElem?_cons_succ] at q0 q1 q2 q3
      have HB5x : Hid (Below w5.heap.size w5 ((((w6.setCell ⟨K8, 0, none⟩ (.int .i64 kd)).setCell ⟨K8, 1, none⟩ (.string tx)).setCell ⟨K8, 2, none⟩ (.pointer o)).setCell ⟨K8, 3, none⟩ (.int .i64 0))) :=
        (((hb56.setCell (p := ⟨K8, 0, none⟩) (by show w5.heap.size ≤ K8; omega) _).setCell (p := ⟨K8, 1, none⟩) (by show w5.heap.size ≤ K8; omega) _).setCell (p := ⟨K8, 2, none⟩) (by show w5.heap.size ≤ K8; omega) _).setCell (p := ⟨K8, 3, none⟩) (by show w5.heap.size ≤ K8; omega) _
      have hT6b := (((hT6.set 0 (.int .i64 kd)).set 1 (.string tx)).set 2 (.pointer o)).set 3 (.int .i64 0)
      simp only [List.setIfInBounds_toArray, List.set_cons_zero, List.set_cons_succ] at hT6b
      have hs6b : ((((w6.setCell ⟨K8, 0, none⟩ (.int .i64 kd)).setCell ⟨K8, 1, none⟩ (.string tx)).setCell ⟨K8, 2, none⟩ (.pointer o)).setCell ⟨K8, 3, none⟩ (.int .i64 0)).heap.size = K8 + 1 := by rw [← hs6]; simp
      obtain ⟨w6b, hw6b⟩ : ∃ w6b, ((((w6.setCell ⟨K8, 0, none⟩ (.int .i64 kd)).setCell ⟨K8, 1, none⟩ (.string tx)).setCell ⟨K8, 2, none⟩ (.pointer o)).setCell ⟨K8, 3, none⟩ (.int .i64 0)) = w6b := ⟨_, rfl⟩
      rw [hw6b] at HB5x hT6b hs6b
      obtain ⟨w7, hw7⟩ : ∃ w7, w6b.alloc (.cells #[.string ⟨#[32]⟩, .string ⟨#[10, 9]⟩, .string ⟨#[32, 35, 32, 114, 101, 109, 97, 114, 107, 32, 47, 32, 34, 10]⟩, .string ⟨#[32, 32, 13]⟩] 9) = w7 := ⟨_, rfl⟩
      have HG7 : Hid (Blk w7 (K8 + 1) lxGapsC 9) := by rw [← hw7, ← hs6b]; exact Blk.newAt rfl _ _
      have HB57 : Hid (Below w5.heap.size w5 w7) := HB5x.out.trans (by rw [← hw7]; exact (Below.refl _ _).alloc HB5x.out.size _)
      have HT7 : Hid (Blk w7 K8 #[.int .i64 kd, .string tx, .pointer o, .int .i64 0] 35) := by rw [← hw7]; exact hT6b.alloc _
      have HK7 := hide (HK5.out.below HB57.out HK5.out.lt)
      have k2 := HK7.out.cell 2
      simp only [List.getElem?_toArray, List.getElem?_cons_zero, List.getElem?_cons_succ] at k2
      have hgc7 := (HG7.out.cell gx).trans hgc
      have t3 := HT7.out.cell 3
      have r3 := HT7.out.frozen 3
      simp only [List.getElem?_toArray, List.getElem?_cons_zero, List.getElem?_cons_succ] at t3
      clear hb6 hgc hb56 hT6 hT6b hK6
      -- the token's place; it goes into the row
      obtain ⟨w8, hw8⟩ : ∃ w8, w7.setCell ⟨K8, 3, none⟩ (.int .i64 ((S.size : Int) + (gb.size : Int))) = w8 := ⟨_, rfl⟩
      have hT8 := HT7.out.set 3 (.int .i64 ((S.size : Int) + (gb.size : Int)))
      simp only [List.setIfInBounds_toArray, List.set_cons_zero, List.set_cons_succ] at hT8
      rw [hw8] at hT8
      have HB58 : Hid (Below w5.heap.size w5 w8) := by rw [← hw8]; exact HB57.out.setCell (p := ⟨K8, 3, none⟩) (by show w5.heap.size ≤ K8; omega) _
      have HB8 : Hid (Below wr.heap.size wr w8) := HB5.out.trans (HB58.out.mono HB5.out.size)
      have HW8 : Hid (Below w.heap.size w w8) := HBE.out.trans (HB8.out.mono HBE.out.size)
      have HPT8 : Hid (PtrOf w8 (p.tok 0).re (.pointer o)) := HPT.out.map fun _ _ h => h.keep HB58.out
      have HRE8 : Hid (∀ x ∈ l, PtrOf w8 x.1.re x.2) := fun x hx => (HRE.out x hx).map fun _ _ h => h.keep HB8.out
      have e0 := hT8.cell 0; have e1 := hT8.cell 1; have e2 := hT8.cell 2; have e3 := hT8.cell 3
      simp only [List.getElem?_toArray, List.getElem?_cons_zero, List.getElem?_cons_succ] at e0 e1 e2 e3
      obtain ⟨w9, hw9⟩ : ∃ w9, w8.alloc (.cells #[.int .i64 kd, .string tx, .pointer o, .int .i64 ((S.size : Int) + (gb.size : Int))] 35) = w9 := ⟨_, rfl⟩
      have hB9 : Below w8.heap.size w8 w9 := by rw [← hw9]; exact (Below.refl _ _).alloc (Nat.le_refl _) _
      have HK9 : Hid (Blk w9 w8.heap.size #[.int .i64 kd, .string tx, .pointer o, .int .i64 ((S.size : Int) + (gb.size : Int))] 35) := by rw [← hw9]; exact Blk.newAt rfl _ _
      obtain ⟨v2, W2, hr2, hO2, hA2, -⟩ := run_appendT (W := w9) (base := w.heap.size) (v := .slice oa l.length oc) (l := l) 24 ((HOW.out.keep HB8.out).keep hB9) ⟨w8.heap.size, 0, none⟩ 1 (⟨kd, tx, (p.tok 0).re, S.size + gb.size⟩, .pointer o) (fun j u hu => by
          rw [Go.WideShapes.add_plain, Nat.zero_add, HK9.out.cell, ← hu]; simp [encT]) rfl (by omega) (Nat.le_trans HW8.out.size hB9.size)
      have HO2 := hide hO2
      have HW2 : Hid (Below w.heap.size w W2) := (HW8.out.trans (hB9.mono HW8.out.size)).trans hA2.below
      have HRE2 : Hid (∀ x ∈ l ++ [(⟨kd, tx, (p.tok 0).re, S.size + gb.size⟩, Value.pointer o)], PtrOf W2 x.1.re x.2) := fun x hx => by
        rcases List.mem_append.1 hx with hx | hx
        · exact (HRE8.out x hx).map fun _ _ h => (h.keep hB9).appT hA2
        · obtain rfl : x = (⟨kd, tx, (p.tok 0).re, S.size + gb.size⟩, .pointer o) := by simpa using hx
          exact HPT8.out.map fun _ _ h => (h.keep hB9).appT hA2
      have htk : ks.take (q + 1) = ks.take q ++ [p] := by rw [List.take_add_one, HPK.out]; rfl
      have HTK2 : Hid (ks.take (q + 1) = ks.take q ++ [p]) := htk
      clear hO2 hA2 hB9 hT8 htk
      go_wp2_with (refine wpList_append_run rfl _ _ _ rfl _ _ _ rfl rfl hr2 ?_)
      all_goals try (exfalso; simp only [ByteArray.size_append] at *; omega)
      refine ⟨⟨q + 1, S ++ gb ++ u, _, by go_num, rfl, (by show q + 1 ≤ n; omega), ?_, ?_, HO2, ?_, HRE2, HW2⟩, by simp [intOf]; omega⟩
      · show _ = _
        rw [HTK2.out, prtW_snoc, strB_append, strB_append, ← HS.out, HGB.out, HU.out]
      · intro x hx
        rw [HTK2.out] at hx
        rcases List.mem_append.1 hx with hx | hx
        · exact HOK.out x hx
        · obtain rfl : x = p := by simpa using hx
          exact HPO.out
      · show _ = _
        have e1 : S.size = (prtW (ks.take q)).length := by rw [HS.out, strB_size]
        have e2 : gb.size = p.gapL.length := by rw [← HGB.out, strB_size]
        rw [HTK2.out, prtT_snoc, List.map_append, HTK.out, Nat.zero_add, ← e1, ← e2, tok_at p (S.size + gb.size), HKD.out, HTX.out]
        rfl
    · have hqe : q = n := by omega
      have hln : l.length = n := HL.out.trans hqe
      have htk : ks.take q = ks := List.take_of_length_le (by rw [HN.out]; omega)
      have HS' : Hid (S = strB (prtW ks)) := by rw [← htk]; exact HS
      have HOK' : Hid (∀ p ∈ ks, p.Ok) := by rw [← htk]; exact HOK
      have HTK' : Hid (l.map Prod.fst = prtT ks 0) := by have := HTK.out; rw [htk] at this; exact this
      have HLN := hide hln
      have dq : decide ((q : Int) < (n : Int)) = false := by simp; omega
      clear g1 htk HS HOK HTK hqn
      have HALL := hide (lexAll_any S wr (by omega) (HT.out.agree (Agree.of_all (K := fun _ => True) HBE.out) trivial))
      have HLX : Hid (lexT S = .inr (prtT ks 0 ++ [⟨0, ⟨#[]⟩, none, S.size⟩])) := lexT_prts (by omega) HOK'.out (by rw [HS'.out, bytesN_strB (prtW_lt _ HOK'.out)])
      go_wp2_with fail
      refine HALL.out.mono ?_
      rintro e w4 ⟨-, hO, hb4⟩
      obtain ⟨V, g, rfl, hm, hO1, hP1⟩ := hO _ HLX.out
      have hlg : g.length = n + 1 := by rw [← List.length_map (f := Prod.fst), hm, List.length_append, prtT_len, HN.out]; rfl
      obtain ⟨gg, gcap, rfl, hg1, hg2, hgcap, hcell⟩ := hO1.cell (by omega)
      have HC := hide hcell
      have HGM := hide hm
      have HGP := hide hP1
      have HLG := hide hlg
      have HB4 := hide hb4
      have HG2 := hide hg2
      have HOW4 := hide (HOW.out.keep hb4)
      obtain ⟨x, hx⟩ : ∃ x, g[n]? = some x := ⟨_, List.getElem?_eq_getElem (by omega)⟩
      have hx1 : x.1 = ⟨0, ⟨#[]⟩, none, S.size⟩ := by
        have : (g.map Prod.fst)[n]? = some x.1 := by rw [List.getElem?_map, hx]; rfl
        rw [hm, List.getElem?_append_right (by rw [prtT_len, HN.out]; exact Nat.le_refl _), prtT_len, HN.out, Nat.sub_self] at this
        injection this with this
        exact this.symm
      have hx2 := hP1 x (List.mem_of_getElem? hx)
      have c0 := hcell n x hx 0 (by omega); have c1 := hcell n x hx 1 (by omega); have c2 := hcell n x hx 2 (by omega); have c3 := hcell n x hx 3 (by omega)
      obtain ⟨t, tv⟩ := x
      simp only at hx1 hx2
      subst hx1
      obtain rfl : tv = .pointer none := hx2
      simp only [encT, List.getElem?_cons_zero, List.getElem?_cons_succ, Nat.add_zero, Int.natCast_zero] at c0 c1 c2 c3
      rw [hlg, hln]
      clear hO hm hO1 hP1 hlg hcell hb4 hx HALL hg1 hgcap hg2 hl1
      have hEQ : Sem.run Tryz.prog (Op.equalIn 9999 32 (Value.pointer none) (Value.pointer none)) w4 = .ok true w4 := rfl
      go_wp2
      have HB4w : Hid (Below w.heap.size w w4) := HBE.out.trans (HB4.out.mono HBE.out.size)
      clear c0 c1 c2 c3 hEQ
      go_loopw [93] (fun iv wz => ∃ z : Nat, z ≤ n ∧ iv = .int .i64 z ∧ Hid (Below w4.heap.size w4 wz)) (fun i _ => n - (intOf i).toNat)
      case atStart => exact ⟨0, Nat.zero_le _, rfl, Below.refl _ _⟩
      case round =>
        obtain ⟨z, hz, rfl, HBZ⟩ := hrel
        by_cases hzn : z < n
        · have dz : decide ((z : Int) < (n : Int)) = true := by simp; omega
          obtain ⟨gw, wc, e1, -, hgw, hw3, hcw⟩ := HOW4.out.cell (by rw [HLN.out]; omega)
          obtain ⟨rfl, rfl⟩ : oa = some ⟨gw, 0, none⟩ ∧ oc = wc := by cases e1; exact ⟨rfl, rfl⟩
          obtain ⟨y, hy⟩ : ∃ y, l[z]? = some y := ⟨_, List.getElem?_eq_getElem (by rw [HLN.out]; omega)⟩
          obtain ⟨x, hx⟩ : ∃ x, g[z]? = some x := ⟨_, List.getElem?_eq_getElem (by rw [HLG.out]; omega)⟩
          have hxy : x.1 = y.1 ∧ y.1 ∈ prtT ks 0 := by
            have h1 : (l.map Prod.fst)[z]? = some y.1 := by rw [List.getElem?_map, hy]; rfl
            have h2 : (g.map Prod.fst)[z]? = some x.1 := by rw [List.getElem?_map, hx]; rfl
            rw [HTK'.out] at h1
            rw [HGM.out, List.getElem?_append_left (by rw [prtT_len, HN.out]; exact hzn), h1] at h2
            injection h2 with h2
            exact ⟨h2.symm, List.mem_of_getElem? h1⟩
          have hpx := HGP.out x (List.mem_of_getElem? hx)
          have hpy := HRE.out y (List.mem_of_getElem? hy)
          have k0 := hcw z y hy 0 (by omega); have k1 := hcw z y hy 1 (by omega); have k2 := hcw z y hy 2 (by omega); have k3 := hcw z y hy 3 (by omega)
          have c0 := HC.out z x hx 0 (by omega); have c1 := HC.out z x hx 1 (by omega); have c2 := HC.out z x hx 2 (by omega); have c3 := HC.out z x hx 3 (by omega)
          obtain ⟨t, vy⟩ := y
          obtain ⟨t', vx⟩ := x
          simp only at hxy hpx hpy
          obtain ⟨rfl, hmem⟩ := hxy
          obtain ⟨o2, rfl⟩ := hpx.ptr
          obtain ⟨o1, rfl⟩ := hpy.ptr
          have HWF := hide (prtT_wf ks 0 _ hmem)
          simp only [encT, List.getElem?_cons_zero, List.getElem?_cons_succ, Nat.add_zero] at k0 k1 k2 k3 c0 c1 c2 c3
          have hbr : ∀ a, a.block < w4.heap.size → wr.cell? a = w4.cell? a := fun a ha => World.cell?_of_block (HBZ.out.block _ ha)
          rw [← hbr _ hgw] at k0 k1 k2 k3
          rw [← hbr _ HG2.out] at c0 c1 c2 c3
          have hpy := hpy.map fun _ _ h => h.keep HB4.out
          have HPX := hide hpx
          have HPY := hide hpy
          obtain ⟨tk, htk⟩ : ∃ tk : Int, tk = (t'.kind : Int) := ⟨_, rfl⟩
          obtain ⟨ts, hts⟩ : ∃ ts, ts = t'.txt := ⟨_, rfl⟩
          obtain ⟨ta, hta⟩ : ∃ ta : Int, ta = (t'.at' : Int) := ⟨_, rfl⟩
          rw [← htk] at k0 c0
          rw [← hts] at k1 c1
          rw [← hta] at k3 c3
          clear htk hts hta hmem hbr hpx hpy hx hy e1 hw3 hcw
          obtain ⟨KL, hKL⟩ : ∃ KL, wr.heap.size = KL := ⟨_, rfl⟩
          obtain ⟨w5, ew⟩ : ∃ w5, wr.alloc (.cells #[.int .i64 tk, .string ts, .pointer o1, .int .i64 ta] 35) = w5 := ⟨_, rfl⟩
          have hb5 : Below wr.heap.size wr w5 := by rw [← ew]; exact (Below.refl _ _).alloc (Nat.le_refl _) _
          have hK5 : Blk w5 KL #[.int .i64 tk, .string ts, .pointer o1, .int .i64 ta] 35 := by rw [← ew, ← hKL]; exact Blk.newAt rfl _ _
          have HK5 := hide hK5
          have HBz5 := hide hb5
          have HB5 : Hid (Below w4.heap.size w4 w5) := HBZ.out.trans (hb5.mono HBZ.out.size)
          have hgz : gg < wr.heap.size := Nat.lt_of_lt_of_le HG2.out HBZ.out.size
          have yg : ∀ V, Below w5.heap.size w5 V → V.cell? ⟨gg, 0 + z * 4, none⟩ = some (.int .i64 tk) ∧ V.cell? ⟨gg, 0 + z * 4 + 1, none⟩ = some (.string ts) ∧ V.cell? ⟨gg, 0 + z * 4 + 2, none⟩ = some (.pointer o2) ∧ V.cell? ⟨gg, 0 + z * 4 + 3, none⟩ = some (.int .i64 ta) := fun V hV => by
            have hc : ∀ o, V.cell? ⟨gg, o, none⟩ = wr.cell? ⟨gg, o, none⟩ := fun o => (World.cell?_of_block (w := w5) (hV.block _ (Nat.lt_of_lt_of_le hgz HBz5.out.size))).trans (World.cell?_of_block (w := wr) (HBz5.out.block _ hgz))
            rw [Nat.zero_add, hc, hc, hc, hc]
            exact ⟨c0, c1, c2, c3⟩
          have yk : ∀ V, Below w5.heap.size w5 V → V.cell? ⟨KL, 0, none⟩ = some (.int .i64 tk) ∧ V.cell? ⟨KL, 0 + 1, none⟩ = some (.string ts) ∧ V.cell? ⟨KL, 0 + 2, none⟩ = some (.pointer o1) ∧ V.cell? ⟨KL, 0 + 3, none⟩ = some (.int .i64 ta) := fun V hV => by
            have h := HK5.out.below hV HK5.out.lt
            exact ⟨h.cell 0, h.cell 1, h.cell 2, h.cell 3⟩
          have HSM : Hid (∀ W, Below w5.heap.size w5 W → Calls Tryz.prog 11 #[.pointer o2, .pointer o1] W fun e w' => e = .returned (.bool true) ∧ Below W.heap.size W w') := fun W hW =>
            same_opt (HPX.out.map fun _ _ h => (h.keep HB5.out).keep hW) (HPY.out.map fun _ _ h => (h.keep HB5.out).keep hW) HWF.out
              (HT.out.agree (Agree.of_all (K := fun _ => True) ((HB4w.out.trans (HB5.out.mono HB4w.out.size)).trans (hW.mono (Nat.le_trans HB4w.out.size HB5.out.size)))) trivial)
          have HYG := hide yg
          have HYK := hide yk
          clear hK5 hb5 yg yk hgz
          go_wp2
          have yg := HYG.out
          have yk := HYK.out
          have hG : Grows fun V => Below w5.heap.size w5 V := fun W W' h1 h2 => h1.trans (h2.mono h1.size)
          refine w_lit (C := fun V => Below w5.heap.size w5 V) (by kernel_rfl) (by kernel_rfl) ⟨rfl, rfl, rfl, Nat.le_refl _, fun _ _ => rfl⟩ ?_
          refine w_value (.slice (some ⟨gg, 0, none⟩) (n + 1) gcap) (by kernel_rfl) (fun w hw => x_move _ _ _ _ _ _ _ _ rfl w) ?_
          simp only [Act.put, List.setIfInBounds_toArray, List.set_cons_succ, List.set_cons_zero]
          refine w_value (.int .i64 z) (by kernel_rfl) (fun w hw => x_move _ _ _ _ _ _ _ _ rfl w) ?_
          simp only [Act.put, List.setIfInBounds_toArray, List.set_cons_succ, List.set_cons_zero]
          refine w_value (.pointer (some ⟨gg, 0 + z * 4, none⟩)) (by kernel_rfl) (fun w hw => x_idxT _ _ _ _ _ _ _ _ gg (n + 1) gcap z rfl rfl (by omega) w) ?_
          simp only [Act.put, List.setIfInBounds_toArray, List.set_cons_succ, List.set_cons_zero]
          refine w_value (.pointer (some ⟨gg, 0 + z * 4, none⟩)) (by kernel_rfl) (fun w hw => x_fldT0 _ _ _ _ _ _ _ gg (0 + z * 4) rfl w) ?_
          simp only [Act.put, List.setIfInBounds_toArray, List.set_cons_succ, List.set_cons_zero]
          refine w_value (.int .i64 tk) (by kernel_rfl) (fun w hw => x_ldK _ _ _ _ _ _ _ _ _ _ rfl w (yg w hw).1) ?_
          simp only [Act.put, List.setIfInBounds_toArray, List.set_cons_succ, List.set_cons_zero]
          refine w_value (.pointer (some ⟨KL, 0, none⟩)) (by kernel_rfl) (fun w hw => x_fldT0 _ _ _ _ _ _ _ KL 0 rfl w) ?_
          simp only [Act.put, List.setIfInBounds_toArray, List.set_cons_succ, List.set_cons_zero]
          refine w_value (.int .i64 tk) (by kernel_rfl) (fun w hw => x_ldK _ _ _ _ _ _ _ _ _ _ rfl w (yk w hw).1) ?_
          simp only [Act.put, List.setIfInBounds_toArray, List.set_cons_succ, List.set_cons_zero]
          refine w_value (.bool false) (by kernel_rfl) (fun w hw => x_neqKP _ _ _ _ _ _ _ _ _ rfl rfl w) ?_
          simp only [Act.put, List.setIfInBounds_toArray, List.set_cons_succ, List.set_cons_zero]
          refine w_value (.bool false) (by kernel_rfl) (fun w hw => x_move _ _ _ _ _ _ _ _ rfl w) ?_
          simp only [Act.put, List.setIfInBounds_toArray, List.set_cons_succ, List.set_cons_zero]
          refine w_value (.slice (some ⟨gg, 0, none⟩) (n + 1) gcap) (by kernel_rfl) (fun w hw => x_move _ _ _ _ _ _ _ _ rfl w) ?_
          simp only [Act.put, List.setIfInBounds_toArray, List.set_cons_succ, List.set_cons_zero]
          refine w_value (.int .i64 z) (by kernel_rfl) (fun w hw => x_move _ _ _ _ _ _ _ _ rfl w) ?_
          simp only [Act.put, List.setIfInBounds_toArray, List.set_cons_succ, List.set_cons_zero]
          refine w_value (.pointer (some ⟨gg, 0 + z * 4, none⟩)) (by kernel_rfl) (fun w hw => x_idxT _ _ _ _ _ _ _ _ gg (n + 1) gcap z rfl rfl (by omega) w) ?_
          simp only [Act.put, List.setIfInBounds_toArray, List.set_cons_succ, List.set_cons_zero]
          refine w_value (.pointer (some ⟨gg, 0 + z * 4 + 1, none⟩)) (by kernel_rfl) (fun w hw => x_fldT1 _ _ _ _ _ _ _ gg (0 + z * 4) rfl w) ?_
          simp only [Act.put, List.setIfInBounds_toArray, List.set_cons_succ, List.set_cons_zero]
          refine w_value (.string ts) (by kernel_rfl) (fun w hw => x_ldS2 _ _ _ _ _ _ _ _ _ _ rfl w (yg w hw).2.1) ?_
          simp only [Act.put, List.setIfInBounds_toArray, List.set_cons_succ, List.set_cons_zero]
          refine w_value (.pointer (some ⟨KL, 0 + 1, none⟩)) (by kernel_rfl) (fun w hw => x_fldT1 _ _ _ _ _ _ _ KL 0 rfl w) ?_
          simp only [Act.put, List.setIfInBounds_toArray, List.set_cons_succ, List.set_cons_zero]
          refine w_value (.string ts) (by kernel_rfl) (fun w hw => x_ldS2 _ _ _ _ _ _ _ _ _ _ rfl w (yk w hw).2.1) ?_
          simp only [Act.put, List.setIfInBounds_toArray, List.set_cons_succ, List.set_cons_zero]
          refine w_value (.bool false) (by kernel_rfl) (fun w hw => x_neqSP _ _ _ _ _ _ _ _ _ rfl rfl w) ?_
          simp only [Act.put, List.setIfInBounds_toArray, List.set_cons_succ, List.set_cons_zero]
          refine w_value (.bool false) (by kernel_rfl) (fun w hw => x_pick _ _ _ _ _ _ _ _ _ false (.bool true) (.bool false) rfl rfl rfl w) ?_
          simp only [Act.put, List.setIfInBounds_toArray, List.set_cons_succ, List.set_cons_zero]
          refine w_value (.bool false) (by kernel_rfl) (fun w hw => x_move _ _ _ _ _ _ _ _ rfl w) ?_
          simp only [Act.put, List.setIfInBounds_toArray, List.set_cons_succ, List.set_cons_zero]
          refine w_value (.slice (some ⟨gg, 0, none⟩) (n + 1) gcap) (by kernel_rfl) (fun w hw => x_move _ _ _ _ _ _ _ _ rfl w) ?_
          simp only [Act.put, List.setIfInBounds_toArray, List.set_cons_succ, List.set_cons_zero]
          refine w_value (.int .i64 z) (by kernel_rfl) (fun w hw => x_move _ _ _ _ _ _ _ _ rfl w) ?_
          simp only [Act.put, List.setIfInBounds_toArray, List.set_cons_succ, List.set_cons_zero]
          refine w_value (.pointer (some ⟨gg, 0 + z * 4, none⟩)) (by kernel_rfl) (fun w hw => x_idxT _ _ _ _ _ _ _ _ gg (n + 1) gcap z rfl rfl (by omega) w) ?_
          simp only [Act.put, List.setIfInBounds_toArray, List.set_cons_succ, List.set_cons_zero]
          refine w_value (.pointer (some ⟨gg, 0 + z * 4 + 3, none⟩)) (by kernel_rfl) (fun w hw => x_fldT3P _ _ _ _ _ _ _ gg (0 + z * 4) rfl w) ?_
          simp only [Act.put, List.setIfInBounds_toArray, List.set_cons_succ, List.set_cons_zero]
          refine w_value (.int .i64 ta) (by kernel_rfl) (fun w hw => x_ldPosP _ _ _ _ _ _ _ _ _ _ rfl w (yg w hw).2.2.2) ?_
          simp only [Act.put, List.setIfInBounds_toArray, List.set_cons_succ, List.set_cons_zero]
          refine w_value (.pointer (some ⟨KL, 0 + 3, none⟩)) (by kernel_rfl) (fun w hw => x_fldT3P _ _ _ _ _ _ _ KL 0 rfl w) ?_
          simp only [Act.put, List.setIfInBounds_toArray, List.set_cons_succ, List.set_cons_zero]
          refine w_value (.int .i64 ta) (by kernel_rfl) (fun w hw => x_ldPosP _ _ _ _ _ _ _ _ _ _ rfl w (yk w hw).2.2.2) ?_
          simp only [Act.put, List.setIfInBounds_toArray, List.set_cons_succ, List.set_cons_zero]
          refine w_value (.bool false) (by kernel_rfl) (fun w hw => x_neqPP _ _ _ _ _ _ _ _ _ rfl rfl w) ?_
          simp only [Act.put, List.setIfInBounds_toArray, List.set_cons_succ, List.set_cons_zero]
          refine w_value (.bool false) (by kernel_rfl) (fun w hw => x_pick _ _ _ _ _ _ _ _ _ false (.bool true) (.bool false) rfl rfl rfl w) ?_
          simp only [Act.put, List.setIfInBounds_toArray, List.set_cons_succ, List.set_cons_zero]
          refine w_value (.bool false) (by kernel_rfl) (fun w hw => x_move _ _ _ _ _ _ _ _ rfl w) ?_
          simp only [Act.put, List.setIfInBounds_toArray, List.set_cons_succ, List.set_cons_zero]
          refine w_value (.slice (some ⟨gg, 0, none⟩) (n + 1) gcap) (by kernel_rfl) (fun w hw => x_move _ _ _ _ _ _ _ _ rfl w) ?_
          simp only [Act.put, List.setIfInBounds_toArray, List.set_cons_succ, List.set_cons_zero]
          refine w_value (.int .i64 z) (by kernel_rfl) (fun w hw => x_move _ _ _ _ _ _ _ _ rfl w) ?_
          simp only [Act.put, List.setIfInBounds_toArray, List.set_cons_succ, List.set_cons_zero]
          refine w_value (.pointer (some ⟨gg, 0 + z * 4, none⟩)) (by kernel_rfl) (fun w hw => x_idxT _ _ _ _ _ _ _ _ gg (n + 1) gcap z rfl rfl (by omega) w) ?_
          simp only [Act.put, List.setIfInBounds_toArray, List.set_cons_succ, List.set_cons_zero]
          refine w_value (.pointer (some ⟨gg, 0 + z * 4 + 2, none⟩)) (by kernel_rfl) (fun w hw => x_fldT2 _ _ _ _ _ _ _ gg (0 + z * 4) rfl w) ?_
          simp only [Act.put, List.setIfInBounds_toArray, List.set_cons_succ, List.set_cons_zero]
          refine w_value (.pointer o2) (by kernel_rfl) (fun w hw => x_ldOP _ _ _ _ _ _ _ _ _ _ rfl w (yg w hw).2.2.1) ?_
          simp only [Act.put, List.setIfInBounds_toArray, List.set_cons_succ, List.set_cons_zero]
          refine w_value (.pointer (some ⟨KL, 0 + 2, none⟩)) (by kernel_rfl) (fun w hw => x_fldT2 _ _ _ _ _ _ _ KL 0 rfl w) ?_
          simp only [Act.put, List.setIfInBounds_toArray, List.set_cons_succ, List.set_cons_zero]
          refine w_value (.pointer o1) (by kernel_rfl) (fun w hw => x_ldOP _ _ _ _ _ _ _ _ _ _ rfl w (yk w hw).2.2.1) ?_
          simp only [Act.put, List.setIfInBounds_toArray, List.set_cons_succ, List.set_cons_zero]
          refine w_call hG 11 #[.pointer o2, .pointer o1] (.bool true) (by kernel_rfl) (fun w => x_call2 _ _ _ _ _ _ _ _ _ _ _ _ _ rfl rfl rfl (enters_of Tryz.func11 (by kernel_rfl) rfl) w) (fun w hw => HSM.out w hw) ?_
          simp only [Act.put, List.setIfInBounds_toArray, List.set_cons_succ, List.set_cons_zero]
          refine w_value (.bool false) (by kernel_rfl) (fun w hw => x_notBool _ _ _ _ _ _ _ true rfl w) ?_
          simp only [Act.put, List.setIfInBounds_toArray, List.set_cons_succ, List.set_cons_zero]
          refine w_value (.bool false) (by kernel_rfl) (fun w hw => x_pick _ _ _ _ _ _ _ _ _ false (.bool true) (.bool false) rfl rfl rfl w) ?_
          simp only [Act.put, List.setIfInBounds_toArray, List.set_cons_succ, List.set_cons_zero]
          refine w_nil ?_
          intro W hCW
          have HBW := hide (HB5.out.trans (hCW.mono HB5.out.size))
          clear hCW yg yk
          go_wp2
          refine ⟨⟨z + 1, by omega, by go_num, HBW.out⟩, by simp [intOf]; omega⟩
        · have dz : decide ((z : Int) < (n : Int)) = false := by simp; omega
          go_wp2
          go_ret
          exact ⟨rfl, HB4w.out.trans (HBZ.out.mono HB4w.out.size)⟩
end Go.Proofs.YtjlgepahgmkamaaGreatDoor
/- LexParts answers true for every list of parts: words, signs, texts and expressions, with blanks, line ends and remarks ahead, are read as those tokens where they stand, and then the End; lists of more than 15 parts, texts of more than 40 bytes and shapes of more than 15 parts are let through by the statement itself. Conditions: the table of math/bits holds what its initialiser lays (the card ties that to the program's text). -/
namespace Go.Proofs.YtjlgepahgmkamaaGreatDoor
set_option maxRecDepth 100000
open Go.ChangeShapes Go.WideShapes Go.ChangeAt Go.WideMaps Go.WideElems Go.RowKit

set_option maxRecDepth 100000 in
theorem lexParts_lifted (os : Os) (started : os.Started) (H : Type) (enc : TypeId × Value → H) :
    ReturnsInHanded {} Tryz.checked os 3 .any (fun w args => (Rows.lexPartsSpec.pre enc Tryz.prog Tryz.f3 [] false w args ∧ laidMetH Tryz.prog [("math/bits.deBruijn64tab", Rows.laid_math_bits_deBruijn64tab)] w) ∧ sizedMet enc Tryz.prog Tryz.f3 (OpenSpec.ofChange Rows.lexPartsSpec) false w args)
      (Rows.lexPartsSpec.post enc Tryz.prog Tryz.f3 false true false false) := by
  refine returnsInHanded_of_change_and (C := Tryz.checked) (X := fun w _ => laidMetH Tryz.prog [("math/bits.deBruijn64tab", Rows.laid_math_bits_deBruijn64tab)] w) (fun _ _ _ hh h => h.of_heap hh) own started (by kernel_rfl) Tryz.func3
    (ChangeSpec.witness_shaped (enc := enc) (C := Tryz.checked) (os := os) (X := fun w _ => laidMetH Tryz.prog [("math/bits.deBruijn64tab", Rows.laid_math_bits_deBruijn64tab)] w) false (World.doorLaid Tryz.prog 400 os)
      #[.slice none 0 0] 8 rfl (World.shaped_of_RefB (by kernel_rfl) (by kernel_rfl)) (by kernel_rfl) (by kernel_rfl) (by kernel_rfl) (door_met os _)) ?_
  intro W base args ds gs before hval0 hW _ _ hL _
  have hval : ∀ (j : Nat) t v, Tryz.f3.params[j]? = some t → args[j]? = some v → Value.okWide Tryz.prog W .any base t v := hval0
  have hW' := hW
  obtain ⟨p, q, hA0, hV, rfl, hfz, hnd⟩ := hW
  have hA : DataW.TrodAll enc Tryz.prog W 0 (fun _ => true) true Tryz.f3.params.toList args.toList ds p := hA0
  rw [Tryz.params3] at hA hval
  obtain ⟨v0, d0, rfl, rfl, h0⟩ := trodAll_one hA
  obtain ⟨rfl, rfl⟩ := trodVars_none hV
  have k0 := h0
  have lt0 : ∀ x ∈ p, x.block < W.heap.size := by obtain ⟨m, hm⟩ := k0; exact DataW.trod_lt m _ _ _ hm
  obtain ⟨z0, hz0⟩ := open_parts (hval 0 22 v0 rfl rfl) h0
  have hT := tab_of_laid hL
  clear hA0 hval0
  refine (lexParts_any z0 v0 W hz0 hT).mono fun e W' ⟨he, hb⟩ => ?_
  subst he
  exact ⟨_, rfl, _, _, _, [], _, [], hW', trodAll_mk1 (shut_bool Tryz.underlying4 _), trodAll_mk1 (Below.trod laidOut (by kernel_rfl) (of_decide_eq_true (by kernel_rfl)) k0 hb lt0), rfl, hb.frame _, fun h => by cases h⟩

theorem lexParts_said : Rows.LexPartsSaid :=
  OpenClaim.holds_of_wide 3 Tryz.f3 rfl rfl rfl rfl rfl rfl rfl ⟨rfl, rfl, rfl, rfl, rfl⟩ rfl rfl rfl rfl rfl (by kernel_rfl) Tryz.func3 (by kernel_rfl)
    (of_decide_eq_true (by kernel_rfl)) (by unfold Func.isWrapper; first | (rw [if_pos (by decide +kernel)]; kernel_rfl) | (rw [if_neg (by decide +kernel)]; exact ⟨rfl, rfl⟩))
    (fun os started H enc _ => lexParts_lifted os started H enc)

theorem lexParts_card : Rows.LexPartsCardSaid :=
  Claim7.holds_tied_plain_at .later [] [.data] true Rows.lexPartsCard.stood.harness false
    lexParts_said (fun _ h => by cases h) (by kernel_rfl) (fun _ h => by cases h) lexParts_row_tie rfl ⟨rfl, rfl⟩ (by kernel_rfl) rfl
    (fun f fn hf hfn => by
      obtain rfl : f = 3 := Option.some.inj ((show Tryz.prog.funcNamed "periscope/periscopelaw11.LexParts" = some 3 by kernel_rfl).symm.trans hf) |>.symm
      obtain rfl : fn = Tryz.f3 := (Option.some.inj (Tryz.func3.symm.trans hfn)).symm
      exact ⟨by kernel_rfl, fun j t ht => by
        rw [Tryz.params3] at ht
        have hm : t ∈ [22] := by simpa using Array.mem_of_getElem? ht
        have hall : ([22].all fun u => !Tryz.prog.wantsStandIn u) = true := by kernel_rfl
        exact (show Tryz.prog.wantsStandIn t = false by simpa using List.all_eq_true.1 hall t hm)⟩)
    (by kernel_rfl)
#print axioms lexParts_card
end Go.Proofs.YtjlgepahgmkamaaGreatDoor
