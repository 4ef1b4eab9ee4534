/- LensWalks answers true for every plan of a term and every place to end: Walk goes through a term and its parts, each ahead of its own. Conditions: the table of math/bits and the words of package lens hold what their initialisers lay (the card ties that to the program's text). -/
/- Texts of this claim put together: LawLensWalks, ProofLensWalks. -/
import Derived.Test.YtblpekljiilkjaaGreatDoorJoinTmO
import Derived.Test.YtblpekljiilkjaaGreatDoorJoinTwB
import Derived.Test.YtblpekljiilkjaaGreatDoorJoinPlB
import Derived.Test.YtblpekljiilkjaaGreatDoorCards
import Derived.Test.YtblpekljiilkjaaGreatDoorTie
/- LensWalks: a term and its parts, each ahead of its own, till it is told to end. -/
namespace Go.Proofs.YtblpekljiilkjaaGreatDoor
set_option maxRecDepth 100000
set_option linter.unusedSimpArgs false
set_option linter.unusedVariables false
open Go.RowKit Go.Shelf

theorem i64_and31w (n : Int) : bits .and .i64 n 31 = n % 32 := by
  have h1 : (BitVec.ofInt 64 31).toNat = 2 ^ 5 - 1 := by decide
  have key : (BitVec.ofInt 64 n &&& BitVec.ofInt 64 31).toNat = (n % ((2 ^ 64 : Nat) : Int)).toNat % 2 ^ 5 := by
    rw [BitVec.toNat_and, BitVec.toNat_ofInt, h1, Nat.and_two_pow_sub_one_eq_mod]
  show IntKind.i64.wrap ((BitVec.ofInt 64 n &&& BitVec.ofInt 64 31).toNat : Nat) = n % 32
  rw [key, IntKind.wrap_i64]
  omega
theorem TmPre.typT {W W' : World} {b : Nat} {t : TM} {ps : List Nat} (h : TmPre W b t ps) (hs : W.heap.size ≤ W'.heap.size) (h6 : ∀ b v, W.cell? ⟨b, 6, none⟩ = some v → W'.cell? ⟨b, 6, none⟩ = some v) (hp : ∀ b o p, W.cell? ⟨b, o, none⟩ = some (PT p) → W'.cell? ⟨b, o, none⟩ = some (PT p)) : TmPre W' b t ps := by
  induction h with
  | mk b o n t k r ks a c qs pss hlt hl hc6 hc hk ih =>
    refine .mk b o n t k r ks a c qs pss (Nat.lt_of_lt_of_le hlt hs) hl (h6 _ _ hc6) (fun i hi => ?_) ih
    obtain ⟨g, f, e, hg, hcc⟩ := hc i hi
    exact ⟨g, f, e, Nat.lt_of_lt_of_le hg hs, hp _ _ _ hcc⟩
section
variable (ρ : Operand → Value) (d : Option Tmp) (x y : Operand) (t : TypeId) (pos : String) (af : Array Edge) (g : Option (Nat × Bool))
theorem x_eqII (u v : Int) (c : Bool) (h : (u == v) = c) (hx : ρ x = .int .i64 u) (hy : ρ y = .int .i64 v) (w : World) : (execOp ρ { dst := d, op := .binOp .eql 3 x y 3, type := t, pos := pos, after := af, guard := g }).run Tryz.prog w = .ok (.value (.bool c)) w := by
  rw [← h]; simp [go_sem, hx, hy]
theorem x_eqBB (u v : Bool) (c : Bool) (h : (u == v) = c) (hx : ρ x = .bool u) (hy : ρ y = .bool v) (w : World) : (execOp ρ { dst := d, op := .binOp .eql 4 x y 4, type := t, pos := pos, after := af, guard := g }).run Tryz.prog w = .ok (.value (.bool c)) w := by
  rw [← h]; simp [go_sem, hx, hy]
theorem x_ldI (b : Nat) (v : Int) (hx : ρ x = PT b) (w : World) (hc : w.cell? ⟨b, 0, none⟩ = some (.int .i64 v)) : (execOp ρ { dst := d, op := .load 3 x, type := t, pos := pos, after := af, guard := g }).run Tryz.prog w = .ok (.value (.int .i64 v)) w := by
  unfold PT at hx
  simp [go_sem, hx, hc]
theorem x_ldB (b : Nat) (v : Bool) (hx : ρ x = PT b) (w : World) (hc : w.cell? ⟨b, 0, none⟩ = some (.bool v)) : (execOp ρ { dst := d, op := .load 4 x, type := t, pos := pos, after := af, guard := g }).run Tryz.prog w = .ok (.value (.bool v)) w := by
  unfold PT at hx
  simp [go_sem, hx, hc]
end
set_option maxHeartbeats 4000000 in
theorem lensWalks_any (s : PL) (cs : List Value) (z : Int) (hz : -9223372036854775808 ≤ z ∧ z ≤ 9223372036854775807) (w : World) (h : PlC w cs s) (hT : TabAt w) (hD : WordsAt w) :
    Calls Tryz.prog 5 #[PlVal cs, .int .i64 z] w fun e w' => e = .returned (.bool true) ∧ Below w.heap.size w w' := by
  obtain ⟨v, rfl, hr, -⟩ := h.open
  obtain ⟨hn, a, cap, rfl, -⟩ := hr.at
  have HT := hide hT
  have HDW := hide hD
  have HC := hide h
  have hb0 := (Below.refl w.heap.size w).alloc (Nat.le_refl _) (.cells #[.int .i64 s.op, .int .i64 s.wd, .int .i64 s.num, .slice a s.kids.length cap] 24)
  have hPk0 := Blk.newAt (w := w) rfl #[.int .i64 s.op, .int .i64 s.wd, .int .i64 s.num, .slice a s.kids.length cap] 24
  have hb1 := hb0.alloc hb0.size (.cells #[.int .i64 z] 3)
  have hPk := hPk0.alloc (.cells #[.int .i64 z] 3)
  have hSk := Blk.newAt (w := w.alloc (.cells #[.int .i64 s.op, .int .i64 s.wd, .int .i64 s.num, .slice a s.kids.length cap] 24)) rfl #[.int .i64 z] 3
  have hbs1 : (w.alloc (.cells #[.int .i64 s.op, .int .i64 s.wd, .int .i64 s.num, .slice a s.kids.length cap] 24)).heap.size = w.heap.size + 1 := by simp
  rw [hbs1] at hSk
  have HSK := hide hSk
  have HB1 := hide hb1
  have HPK := hide hPk
  have HFEW : Hid (∀ W, Below w.heap.size w W → Calls Tryz.prog 13 #[PlVal [.int .i64 s.op, .int .i64 s.wd, .int .i64 s.num, .slice a s.kids.length cap]] W fun e w' => ∃ c : Bool, e = .returned (.bool c) ∧ (c = true → s.nodes ≤ 30) ∧ Below W.heap.size W w') := fun W hW => pfew_any s _ W (h.keep hW)
  have HMK : Hid (∀ W, Below w.heap.size w W → Calls Tryz.prog 14 #[PlVal [.int .i64 s.op, .int .i64 s.wd, .int .i64 s.num, .slice a s.kids.length cap]] W fun e w' => ∃ p, e = .returned (PT p) ∧ TmAt w' p s.tm ∧ Below W.heap.size W w') := fun W hW => make_any s _ W (h.keep hW) (hT.onS hW)
  clear h hr hT hD hb1 hPk hn hSk hbs1 hb0 hPk0
  unfold PlVal at HFEW HMK ⊢
  go_enter Tryz.func5, Tryz.ntmps5
  go_wp2_with fail
  refine (head10_any _ (HT.out.onS HB1.out) (HDW.out.on HB1.out)).mono ?_
  rintro e w1 ⟨rfl, hb⟩
  have HP1 := hide (HPK.out.below hb HPK.out.lt)
  have HS1 := hide (HSK.out.below hb HSK.out.lt)
  have HL1 := hide (HB1.out.trans (hb.mono HB1.out.size))
  clear hb
  have q0 := HP1.out.cell 0
  have q1 := HP1.out.cell 1
  have q2 := HP1.out.cell 2
  have q3 := HP1.out.cell 3
  simp only [List.getElem?_toArray, List.getElem?_cons_zero, List.getElem?_cons_succ] at q0 q1 q2 q3
  go_wp2_with fail
  refine (HFEW.out w1 HL1.out).mono ?_
  rintro e w2 ⟨few, rfl, hfew, hb⟩
  have HP2 := hide (HP1.out.below hb HP1.out.lt)
  have HS2 := hide (HS1.out.below hb HS1.out.lt)
  have HL2 := hide (HL1.out.trans (hb.mono HL1.out.size))
  have HF := hide hfew
  clear hb hfew q0 q1 q2 q3 HFEW
  cases few with
  | false =>
    go_wp2
    go_ret
    exact ⟨rfl, HL2.out⟩
  | true =>
    have hn30 := HF.out rfl
    have q0 := HP2.out.cell 0
    have q1 := HP2.out.cell 1
    have q2 := HP2.out.cell 2
    have q3 := HP2.out.cell 3
    simp only [List.getElem?_toArray, List.getElem?_cons_zero, List.getElem?_cons_succ] at q0 q1 q2 q3
    go_wp2_with fail
    refine (HMK.out w2 HL2.out).mono ?_
    rintro e w3 ⟨p, rfl, ht, hb⟩
    have HL3 := hide (HL2.out.trans (hb.mono HL2.out.size))
    have HS3 := hide (HS2.out.below hb HS2.out.lt)
    have hsz : s.tm.sz ≤ 90 := by have := pl_sz s; omega
    obtain ⟨ps, hpre, hpl⟩ := pre_of s.tm p ht
    have hpos := hpre.pos
    have HTM := hide ht
    have HPRE := hide hpre
    have HPL := hide hpl
    have HPARTS := hide (parts_pre s.tm p ps w3 hpre (by omega))
    have hp90 : ps.length ≤ 90 := by omega
    clear hb ht hpre hpl hsz q0 q1 q2 q3 HMK hn30 HF
    unfold PT at HPARTS ⊢
    go_wp2_with fail
    refine HPARTS.out.mono ?_
    rintro e w4 ⟨v4, rfl, hrow, hb4⟩
    obtain ⟨g, cap4, rfl, hg1, hg2, -, hcell⟩ := hrow.at hpos
    have HL4 := hide hb4
    have HS4 := hide (HS3.out.below hb4 HS3.out.lt)
    have HCELL := hide hcell
    have HG := hide (show w3.heap.size ≤ g ∧ g < w4.heap.size from ⟨hg1, hg2⟩)
    obtain ⟨st, hst, hand⟩ : ∃ st : Nat, st < 32 ∧ bits .and .i64 z 31 = (st : Int) := ⟨(z % 32).toNat, by omega, by rw [i64_and31w]; omega⟩
    obtain ⟨N, hN⟩ : ∃ N, N = ps.length := ⟨_, rfl⟩
    rw [← hN] at hp90 hpos ⊢
    have HN := hide hN
    have x0 := HS4.out.cell 0
    have f0 := HS4.out.frozen 0
    have hbl := HS4.out.lt
    simp only [List.getElem?_toArray, List.getElem?_cons_zero] at x0
    clear hrow hb4 hg1 hg2 hcell HPARTS
    obtain ⟨W0, hW0⟩ : ∃ W0, W0 = (((w4.setCell ⟨w.heap.size + 1, 0, none⟩ (.int .i64 (st : Int))).alloc (.cells #[.slice (some ⟨g, 0, none⟩) N cap4] 36)).alloc (.cells #[.int .i64 0] 3)).alloc (.cells #[.bool true] 4) := ⟨_, rfl⟩
    have hs1 : (w4.setCell ⟨w.heap.size + 1, 0, none⟩ (.int .i64 (st : Int))).heap.size = w4.heap.size := setCell_size _ _ _
    have bS1 := HS4.out.set 0 (.int .i64 (st : Int))
    have bA := Blk.newAt (w := w4.setCell ⟨w.heap.size + 1, 0, none⟩ (.int .i64 (st : Int))) hs1.symm #[.slice (some ⟨g, 0, none⟩) N cap4] 36
    have bN := Blk.newAt (w := (w4.setCell ⟨w.heap.size + 1, 0, none⟩ (.int .i64 (st : Int))).alloc (.cells #[.slice (some ⟨g, 0, none⟩) N cap4] 36)) (n := w4.heap.size + 1) (by simp [hs1]) #[.int .i64 0] 3
    have bR := Blk.newAt (w := ((w4.setCell ⟨w.heap.size + 1, 0, none⟩ (.int .i64 (st : Int))).alloc (.cells #[.slice (some ⟨g, 0, none⟩) N cap4] 36)).alloc (.cells #[.int .i64 0] 3)) (n := w4.heap.size + 1 + 1) (by simp [hs1]) #[.bool true] 4
    have bS0 : Blk W0 (w.heap.size + 1) #[.int .i64 (st : Int)] 3 := by rw [hW0]; exact ((bS1.alloc _).alloc _).alloc _
    have bA0 : Blk W0 w4.heap.size #[.slice (some ⟨g, 0, none⟩) N cap4] 36 := by rw [hW0]; exact (bA.alloc _).alloc _
    have bN0 : Blk W0 (w4.heap.size + 1) #[.int .i64 0] 3 := by rw [hW0]; exact bN.alloc _
    have bR0 : Blk W0 (w4.heap.size + 1 + 1) #[.bool true] 4 := by rw [hW0]; exact bR
    have hal : Below w4.heap.size (w4.setCell ⟨w.heap.size + 1, 0, none⟩ (.int .i64 (st : Int))) W0 := by
      rw [hW0, ← hs1]
      exact (((Below.refl _ _).alloc (Nat.le_refl _) _).alloc (by simp) _).alloc (by simp; omega) _
    have hg3 := HG.out
    have hs3 := HS3.out.lt
    have hrow0 : ∀ j q, ps[j]? = some q → W0.cell? ⟨g, j, none⟩ = some (PT q) := fun j q hj => by
      rw [World.cell?_of_block (w := w4.setCell ⟨w.heap.size + 1, 0, none⟩ (.int .i64 (st : Int))) (hal.block g hg3.2), World.cell?_of_block (w := w4) (Below.heap_setCell _ _ _ _ (show g ≠ w.heap.size + 1 by omega))]
      exact HCELL.out j q hj
    -- the world in which the tree is seen
    obtain ⟨Wt, hWt⟩ : ∃ Wt, Wt = w3.setCell ⟨w.heap.size + 1, 0, none⟩ (.int .i64 (st : Int)) := ⟨_, rfl⟩
    have hts : Wt.heap.size = w3.heap.size := by rw [hWt]; exact setCell_size _ _ _
    have hkp := ptr_kept (i := 0) (v := .int .i64 (st : Int)) HS3.out (by intro q; simp [PT])
    rw [← hWt] at hkp
    have bSt : Blk Wt (w.heap.size + 1) #[.int .i64 (st : Int)] 3 := by rw [hWt]; exact HS3.out.set 0 _
    have hTB : Below Wt.heap.size Wt W0 := by
      have h4 := HL4.out
      refine ⟨?_, ?_, ?_, ?_, fun k hk => ?_⟩
      · rw [hal.os, hWt]; exact h4.os
      · rw [hal.tape, hWt]; exact h4.tape
      · rw [hal.output, hWt]; exact h4.output
      · rw [hts]; exact Nat.le_trans h4.size (by rw [← hs1]; exact hal.size)
      · rw [hts] at hk
        by_cases e : k = w.heap.size + 1
        · subst e
          exact bS0.of_cells.trans bSt.of_cells.symm
        · rw [hal.block k (Nat.lt_of_lt_of_le hk h4.size), Below.heap_setCell _ _ _ _ (show k ≠ w.heap.size + 1 from e), h4.block k hk, hWt, Below.heap_setCell _ _ _ _ (show k ≠ w.heap.size + 1 from e)]
    have hc6 : ∀ b' v', w3.cell? ⟨b', 6, none⟩ = some v' → Wt.cell? ⟨b', 6, none⟩ = some v' := fun b' v' hv => by
      by_cases e : b' = w.heap.size + 1
      · subst e
        rw [HS3.out.cell] at hv
        simp at hv
      · rw [hWt, World.cell?_of_block (w := w3) (Below.heap_setCell _ _ _ _ (show b' ≠ w.heap.size + 1 from e))]
        exact hv
    have hpreT : TmPre Wt p s.tm ps := HPRE.out.typT (by omega) hc6 hkp
    have htmT : TmAt Wt p s.tm := HTM.out.typT s.tm_wf (by omega) (fun b' c' hB => by rw [hWt]; exact hB.setOther _ _ (hB.apart HS3.out (by decide))) hkp (fun q y c' _ _ hB => by rw [hWt]; exact hB.setOther _ _ (hB.apart HS3.out (by decide)))
    have hE : WkE W0 ps st (w.heap.size + 1) w4.heap.size (w4.heap.size + 1) (w4.heap.size + 1 + 1) g cap4 := ⟨by rw [← HN.out]; exact bA0, bS0, ⟨by have := HL4.out.size; omega, by omega, by omega, by omega⟩, hrow0⟩
    have hW := walk_pre hE (by omega) (by rw [hts]; have := HL4.out.size; omega) hTB s.tm p ps 0 hpreT (fun j q hj => by rw [Nat.zero_add]; exact hj) (.inl rfl) (by have := HN.out; omega) W0 ⟨Below.refl _ _, bN0, bR0⟩
    have HWALK := hide hW
    have HE := hide hE
    have HTB := hide hTB
    have HTMT := hide htmT
    have HL0 : Hid (Below w.heap.size w W0) := by
      show Below _ _ _
      have h1 := (HL3.out.trans (HL4.out.mono HL3.out.size)).setCell (p := ⟨w.heap.size + 1, 0, none⟩) (show w.heap.size ≤ w.heap.size + 1 by omega) (.int .i64 (st : Int))
      exact h1.trans (hal.mono (by have := HL3.out.size; have := HL4.out.size; omega))
    have HTS := hide hts
    have HW0 := hide hW0
    have HWB : Hid (Wt.heap.size ≤ w4.heap.size + 1 ∧ w.heap.size ≤ w4.heap.size + 1) := ⟨by have := HL4.out.size; omega, by have := HL4.out.size; have := HL3.out.size; omega⟩
    clear hW hE hTB htmT hpreT hc6 hkp bSt hrow0 hs3 hg3 hal bS0 bA0 bN0 bR0 bS1 bA bN bR hs1 hW0 hWt hN hts HPRE
    go_wp2_with fail
    rw [← HW0.out]
    clear x0 f0 hbl hand HW0
    generalize hbs : w.heap.size + 1 = bs at *
    generalize hba : w4.heap.size = ba at *
    generalize hbn : ba + 1 = bn at *
    generalize hbr : bn + 1 = br at *
    unfold wkF at HWALK
    unfold PT at HWALK
    refine HWALK.out.mono ?_
    rintro e w5 ⟨whole, n, rfl, hres, hS⟩
    obtain ⟨hr1, hr2⟩ := hres
    rw [Nat.zero_add, ← HN.out] at hr1 hr2
    obtain ⟨l1, l2, l3, l4⟩ := HE.out.lt
    have xa := (HE.out.a.below hS.below l2)
    rw [← HN.out] at xa
    have xs := (HE.out.s.below hS.below l1)
    have HXA := hide xa
    have HXS := hide xs
    have HSS := hide hS
    have ca := xa.cell 0
    have cs0 := xs.cell 0
    simp only [List.getElem?_toArray, List.getElem?_cons_zero] at ca cs0
    obtain ⟨want, hwant⟩ : ∃ want : Nat, want = min (max st 1) N := ⟨_, rfl⟩
    have hmx : max (st : Int) 1 = ((max st 1 : Nat) : Int) := by omega
    have hmn : min ((max st 1 : Nat) : Int) (N : Int) = (want : Int) := by omega
    obtain ⟨mx, hmx2⟩ : ∃ mx, mx = max st 1 := ⟨_, rfl⟩
    rw [← hmx2] at hmx hmn
    have hnw : ((n : Int) == (want : Int)) = true := by
      have : n = want := by
        by_cases hc : N < st
        · obtain ⟨-, e⟩ := hr1 hc; omega
        · obtain ⟨-, e⟩ := hr2 hc; omega
      simp [this]
    obtain ⟨lt, hltd⟩ : ∃ lt : Bool, lt = decide (N < st) := ⟨_, rfl⟩
    have hlt : decide ((N : Int) < (st : Int)) = lt := by rw [hltd]; simp
    have hwl : (whole == lt) = true := by
      by_cases hc : N < st
      · obtain ⟨e, -⟩ := hr1 hc; rw [e, hltd]; simp [hc]
      · obtain ⟨e, -⟩ := hr2 hc; rw [e, hltd]; simp [hc]
    have HFACT := hide (And.intro hnw (And.intro hlt hwl))
    clear hr1 hr2 xa xs hS hwant hmx2 hnw hltd hlt hwl HWALK hbs hba hbn hbr
    go_wp2
    try rw [show Value.pointer (some ⟨p, 0, none⟩) = PT p from rfl]
    obtain ⟨hnw, hlt, hwl⟩ := HFACT.out
    obtain ⟨C, hC⟩ : ∃ C : World → Prop, C = fun W => Below w5.heap.size w5 W := ⟨_, rfl⟩
    have HGR : Hid (Grows C) := by rw [hC]; exact fun W W' h1 h2 => h1.trans (h2.mono h1.size)
    have HCD : Hid (C { w5 with drawn := w5.drawn + 1 }) := by rw [hC]; exact drewBelow w5
    have HCB : Hid (∀ W, C W → Below w5.heap.size w5 W) := by rw [hC]; exact fun W h => h
    clear hC
    have hG := HGR.out
    have yr : ∀ W, C W → W.cell? ⟨br, 0, none⟩ = some (.bool true) := fun W h => by rw [(HSS.out.r.below (HCB.out W h) HSS.out.r.lt).cell]; rfl
    have yn : ∀ W, C W → W.cell? ⟨bn, 0, none⟩ = some (.int .i64 n) := fun W h => by rw [(HSS.out.n.below (HCB.out W h) HSS.out.n.lt).cell]; rfl
    have ya : ∀ W, C W → W.cell? ⟨ba, 0, none⟩ = some (.slice (some ⟨g, 0, none⟩) N cap4) := fun W h => by rw [(HXA.out.below (HCB.out W h) HXA.out.lt).cell]; rfl
    have ys : ∀ W, C W → W.cell? ⟨bs, 0, none⟩ = some (.int .i64 st) := fun W h => by rw [(HXS.out.below (HCB.out W h) HXS.out.lt).cell]; rfl
    have HSIZE : Hid (∀ W, C W → Calls Tryz.prog 17 #[PT p] W fun e w' => e = .returned (.int .i64 N) ∧ Below W.heap.size W w') := fun W h => by
      have hT5 : TmAt w5 p s.tm := HTMT.out.keep (HTB.out.trans (HSS.out.below.mono HWB.out.1))
      have := sizeT_any s.tm p W (hT5.keep (HCB.out W h)) (by have := HPL.out; have := HN.out; omega)
      rw [← HPL.out, ← HN.out] at this
      exact this
    refine w_lit (C := C) (by kernel_rfl) (by kernel_rfl) HCD.out ?_
    refine w_value (.bool true) (by kernel_rfl) (fun w hw => x_ldB _ _ _ _ _ _ _ br true rfl w (yr w hw)) ?_
    simp only [Act.put, List.setIfInBounds_toArray, List.set_cons_succ, List.set_cons_zero]
    refine w_value (.bool true) (by kernel_rfl) (fun w hw => x_move _ _ _ _ _ _ _ _ rfl w) ?_
    simp only [Act.put, List.setIfInBounds_toArray, List.set_cons_succ, List.set_cons_zero]
    refine w_value (.int .i64 n) (by kernel_rfl) (fun w hw => x_ldI _ _ _ _ _ _ _ bn n rfl w (yn w hw)) ?_
    simp only [Act.put, List.setIfInBounds_toArray, List.set_cons_succ, List.set_cons_zero]
    refine w_value (.int .i64 want) (by kernel_rfl) (fun w hw => x_move _ _ _ _ _ _ _ _ rfl w) ?_
    simp only [Act.put, List.setIfInBounds_toArray, List.set_cons_succ, List.set_cons_zero]
    refine w_value (.bool true) (by kernel_rfl) (fun w hw => x_eqII _ _ _ _ _ _ _ _ n want true hnw rfl rfl w) ?_
    simp only [Act.put, List.setIfInBounds_toArray, List.set_cons_succ, List.set_cons_zero]
    refine w_value (.bool true) (by kernel_rfl) (fun w hw => x_pick _ _ _ _ _ _ _ _ _ true (.bool true) (.bool false) rfl rfl rfl w) ?_
    simp only [Act.put, List.setIfInBounds_toArray, List.set_cons_succ, List.set_cons_zero]
    refine w_value (.bool true) (by kernel_rfl) (fun w hw => x_move _ _ _ _ _ _ _ _ rfl w) ?_
    simp only [Act.put, List.setIfInBounds_toArray, List.set_cons_succ, List.set_cons_zero]
    refine w_value (.bool whole) (by kernel_rfl) (fun w hw => x_move _ _ _ _ _ _ _ _ rfl w) ?_
    simp only [Act.put, List.setIfInBounds_toArray, List.set_cons_succ, List.set_cons_zero]
    refine w_value (.slice (some ⟨g, 0, none⟩) N cap4) (by kernel_rfl) (fun w hw => x_tmKids _ _ _ _ _ _ _ ba 0 _ rfl w (ya w hw)) ?_
    simp only [Act.put, List.setIfInBounds_toArray, List.set_cons_succ, List.set_cons_zero]
    refine w_value (.int .i64 N) (by kernel_rfl) (fun w hw => x_tmLen _ _ _ _ _ _ _ _ N _ rfl w) ?_
    simp only [Act.put, List.setIfInBounds_toArray, List.set_cons_succ, List.set_cons_zero]
    refine w_value (.int .i64 st) (by kernel_rfl) (fun w hw => x_ldI _ _ _ _ _ _ _ bs st rfl w (ys w hw)) ?_
    simp only [Act.put, List.setIfInBounds_toArray, List.set_cons_succ, List.set_cons_zero]
    refine w_value (.bool lt) (by kernel_rfl) (fun w hw => x_lssZ _ _ _ _ _ _ _ _ N st lt hlt rfl rfl w) ?_
    simp only [Act.put, List.setIfInBounds_toArray, List.set_cons_succ, List.set_cons_zero]
    refine w_value (.bool true) (by kernel_rfl) (fun w hw => x_eqBB _ _ _ _ _ _ _ _ whole lt true hwl rfl rfl w) ?_
    simp only [Act.put, List.setIfInBounds_toArray, List.set_cons_succ, List.set_cons_zero]
    refine w_value (.bool true) (by kernel_rfl) (fun w hw => x_pick _ _ _ _ _ _ _ _ _ true (.bool true) (.bool false) rfl rfl rfl w) ?_
    simp only [Act.put, List.setIfInBounds_toArray, List.set_cons_succ, List.set_cons_zero]
    refine w_value (.bool true) (by kernel_rfl) (fun w hw => x_move _ _ _ _ _ _ _ _ rfl w) ?_
    simp only [Act.put, List.setIfInBounds_toArray, List.set_cons_succ, List.set_cons_zero]
    refine w_value (PT p) (by kernel_rfl) (fun w hw => x_move _ _ _ _ _ _ _ _ rfl w) ?_
    simp only [Act.put, List.setIfInBounds_toArray, List.set_cons_succ, List.set_cons_zero]
    refine w_call hG 17 #[PT p] (.int .i64 N) (by kernel_rfl) (fun w => x_call1 _ _ _ _ _ _ _ _ _ _ rfl rfl (enters_of Tryz.func17 (by kernel_rfl) rfl) w) (fun w hw => HSIZE.out w hw) ?_
    simp only [Act.put, List.setIfInBounds_toArray, List.set_cons_succ, List.set_cons_zero]
    refine w_value (.slice (some ⟨g, 0, none⟩) N cap4) (by kernel_rfl) (fun w hw => x_tmKids _ _ _ _ _ _ _ ba 0 _ rfl w (ya w hw)) ?_
    simp only [Act.put, List.setIfInBounds_toArray, List.set_cons_succ, List.set_cons_zero]
    refine w_value (.int .i64 N) (by kernel_rfl) (fun w hw => x_tmLen _ _ _ _ _ _ _ _ N _ rfl w) ?_
    simp only [Act.put, List.setIfInBounds_toArray, List.set_cons_succ, List.set_cons_zero]
    refine w_value (.bool true) (by kernel_rfl) (fun w hw => x_eqII _ _ _ _ _ _ _ _ N N true (by simp) rfl rfl w) ?_
    simp only [Act.put, List.setIfInBounds_toArray, List.set_cons_succ, List.set_cons_zero]
    refine w_value (.bool true) (by kernel_rfl) (fun w hw => x_pick _ _ _ _ _ _ _ _ _ true (.bool true) (.bool false) rfl rfl rfl w) ?_
    simp only [Act.put, List.setIfInBounds_toArray, List.set_cons_succ, List.set_cons_zero]
    refine w_value (.bool true) (by kernel_rfl) (fun w hw => x_move _ _ _ _ _ _ _ _ rfl w) ?_
    simp only [Act.put, List.setIfInBounds_toArray, List.set_cons_succ, List.set_cons_zero]
    refine w_value (.pointer none) (by kernel_rfl) (fun w hw => x_move _ _ _ _ _ _ _ _ rfl w) ?_
    simp only [Act.put, List.setIfInBounds_toArray, List.set_cons_succ, List.set_cons_zero]
    refine w_call hG 18 #[.pointer none, .func (.func 24) #[] #[]] (.bool true) (by kernel_rfl) (fun w => x_call2 _ _ _ _ _ _ _ _ _ _ _ _ _ rfl rfl rfl (enters_of Tryz.func18 (by kernel_rfl) rfl) w) (fun w hw => walk_nil _ w rfl) ?_
    simp only [Act.put, List.setIfInBounds_toArray, List.set_cons_succ, List.set_cons_zero]
    refine w_value (.bool true) (by kernel_rfl) (fun w hw => x_pick _ _ _ _ _ _ _ _ _ true (.bool true) (.bool false) rfl rfl rfl w) ?_
    simp only [Act.put, List.setIfInBounds_toArray, List.set_cons_succ, List.set_cons_zero]
    refine w_value (.bool true) (by kernel_rfl) (fun w hw => x_assign _ _ _ _ _ _ _ _ rfl w) ?_
    simp only [Act.put, List.setIfInBounds_toArray, List.set_cons_succ, List.set_cons_zero]
    refine w_nil ?_
    intro W hCW
    have HBW := hide (HCB.out W hCW)
    clear hCW yr yn ya ys hG
    go_wp2
    go_ret
    refine ⟨rfl, ?_⟩
    have h5 := HL0.out.trans (HSS.out.below.mono HWB.out.2)
    exact h5.trans (HBW.out.mono h5.size)
theorem lensWalks_all (v : Value) (s : PL) (w : World) (hs : ∃ cs, v = PlVal cs ∧ PlC w cs s) (z : Int) (hz : -9223372036854775808 ≤ z ∧ z ≤ 9223372036854775807) (hT : TabAt w) (hD : WordsAt w) :
    Calls Tryz.prog 5 #[v, .int .i64 z] w fun e w' => e = .returned (.bool true) ∧ Below w.heap.size w w' := by
  obtain ⟨cs, rfl, h⟩ := hs
  exact lensWalks_any s cs z hz w h hT hD
end Go.Proofs.YtblpekljiilkjaaGreatDoor
/- LensWalks answers true for every plan of a term and every place to end: Walk goes through a term and its parts, each ahead of its own. Conditions: the table of math/bits and the words of package lens hold what their initialisers lay (the card ties that to the program's text). -/
namespace Go.Proofs.YtblpekljiilkjaaGreatDoor
set_option maxRecDepth 100000
open Go.ChangeShapes Go.WideShapes Go.ChangeAt Go.WideMaps Go.WideElems Go.RowKit

set_option maxRecDepth 100000 in
theorem lensWalks_lifted (os : Os) (started : os.Started) (H : Type) (enc : TypeId × Value → H) :
    ReturnsInHanded {} Tryz.checked os 5 .any (fun w args => (Rows.lensWalksSpec.pre enc Tryz.prog Tryz.f5 [] false w args ∧ laidMetH Tryz.prog [("math/bits.deBruijn64tab", Rows.laid_math_bits_deBruijn64tab), ("periscope/lens.words", Rows.laid_periscope_lens_words)] w) ∧ sizedMet enc Tryz.prog Tryz.f5 (OpenSpec.ofChange Rows.lensWalksSpec) false w args)
      (Rows.lensWalksSpec.post enc Tryz.prog Tryz.f5 false true false false) := by
  refine returnsInHanded_of_change_and (C := Tryz.checked) (X := fun w _ => laidMetH Tryz.prog [("math/bits.deBruijn64tab", Rows.laid_math_bits_deBruijn64tab), ("periscope/lens.words", Rows.laid_periscope_lens_words)] w) (fun _ _ _ hh h => h.of_heap hh) own started (by kernel_rfl) Tryz.func5
    (ChangeSpec.witness_shaped (enc := enc) (C := Tryz.checked) (os := os) (X := fun w _ => laidMetH Tryz.prog [("math/bits.deBruijn64tab", Rows.laid_math_bits_deBruijn64tab), ("periscope/lens.words", Rows.laid_periscope_lens_words)] w) false (World.doorLaid Tryz.prog 400 os)
      #[.agg #[.int .i64 0, .int .i64 0, .int .i64 0, .slice none 0 0], .int .i64 0] 8 rfl (World.shaped_of_RefB (by kernel_rfl) (by kernel_rfl)) (by kernel_rfl) (by kernel_rfl) (by kernel_rfl) (door_metL os _)) ?_
  intro W base args ds gs before hval0 hW _ _ hL _
  have hval : ∀ (j : Nat) t v, Tryz.f5.params[j]? = some t → args[j]? = some v → Value.okWide Tryz.prog W .any base t v := hval0
  have hW' := hW
  obtain ⟨p, q, hA0, hV, rfl, hfz, hnd⟩ := hW
  have hA : DataW.TrodAll enc Tryz.prog W 0 (fun _ => true) true Tryz.f5.params.toList args.toList ds p := hA0
  rw [Tryz.params5] at hA hval
  obtain ⟨v0, v1, d0, d1, p0, p1, rfl, rfl, rfl, h0, h1⟩ := trodAll_two hA
  obtain ⟨rfl, rfl⟩ := trodVars_none hV
  have k0 := h0
  have lt0 : ∀ x ∈ p0, x.block < W.heap.size := by obtain ⟨m, hm⟩ := k0; exact DataW.trod_lt m _ _ _ hm
  obtain ⟨z0, hz0⟩ := open_plan (hval 0 24 v0 rfl rfl) h0
  have k1 := h1
  obtain ⟨i1, rfl, rfl, rfl, w1⟩ := open_int Tryz.underlying3 (hval 1 3 v1 rfl rfl) h1
  have b1 := bounds_i64 w1
  have hT := tab_of_laidL hL
  have hD := words_of_laid hL
  clear hA0 hval0
  refine (lensWalks_all v0 z0 W hz0 i1 b1 hT hD).mono fun e W' ⟨he, hb⟩ => ?_
  subst he
  exact ⟨_, rfl, _, _, _, [], _, [], hW', trodAll_mk1 (shut_bool Tryz.underlying4 _), trodAll_mk2 (Below.trod laidOut (by kernel_rfl) (of_decide_eq_true (by kernel_rfl)) k0 hb lt0) (shut_int Tryz.underlying3 w1), rfl, hb.frame _, fun h => by cases h⟩

theorem lensWalks_said : Rows.LensWalksSaid :=
  OpenClaim.holds_of_wide 5 Tryz.f5 rfl rfl rfl rfl rfl rfl rfl ⟨rfl, rfl, rfl, rfl, rfl⟩ rfl rfl rfl rfl rfl (by kernel_rfl) Tryz.func5 (by kernel_rfl)
    (of_decide_eq_true (by kernel_rfl)) (by unfold Func.isWrapper; first | (rw [if_pos (by decide +kernel)]; kernel_rfl) | (rw [if_neg (by decide +kernel)]; exact ⟨rfl, rfl⟩))
    (fun os started H enc _ => lensWalks_lifted os started H enc)

theorem lensWalks_card : Rows.LensWalksCardSaid :=
  Claim7.holds_tied_plain_at .later [] [.data, .data] true Rows.lensWalksCard.stood.harness false
    lensWalks_said (fun _ h => by cases h) (by kernel_rfl) (fun _ h => by cases h) lensWalks_row_tie rfl ⟨rfl, rfl⟩ (by kernel_rfl) rfl
    (fun f fn hf hfn => by
      obtain rfl : f = 5 := Option.some.inj ((show Tryz.prog.funcNamed "periscope/periscopelaw10.LensWalks" = some 5 by kernel_rfl).symm.trans hf) |>.symm
      obtain rfl : fn = Tryz.f5 := (Option.some.inj (Tryz.func5.symm.trans hfn)).symm
      exact ⟨by kernel_rfl, fun j t ht => by
        rw [Tryz.params5] at ht
        have hm : t ∈ [24, 3] := by simpa using Array.mem_of_getElem? ht
        have hall : ([24, 3].all fun u => !Tryz.prog.wantsStandIn u) = true := by kernel_rfl
        exact (show Tryz.prog.wantsStandIn t = false by simpa using List.all_eq_true.1 hall t hm)⟩)
    (by kernel_rfl)
#print axioms lensWalks_card
end Go.Proofs.YtblpekljiilkjaaGreatDoor
